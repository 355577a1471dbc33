/-
  What the reference's Place, Pick and Same answer.
-/
import Derived.Test.YtnbdpalbompjlaaDoorRefMembers
namespace Go.Proofs.YtnbdpalbompjlaaDoor
open Go.RowKit
set_option maxRecDepth 10000

set_option maxHeartbeats 4000000 in
theorem refPlace_any (w : World) (nao : Option Addr) (nlen ncap : Nat) (n1 n2 n3 n4 n5 n6 n7 n8 n9 n10 n11 : Int) (slot who : Int) (C : Nat) (hC : n2 = C) (hl1 : 1 ≤ nlen) (hl2 : nlen ≤ 1000) (hc1 : 1 ≤ C) (hc2 : C ≤ nlen) :
    Calls Tryd.prog 34 #[.agg #[.slice nao nlen ncap, .int .i64 n1, .int .i64 n2, .int .i64 n3, .int .i64 n4, .int .i64 n5, .int .i64 n6, .int .i64 n7, .int .i64 n8, .int .i64 n9, .int .i64 n10, .int .i64 n11], .int .i64 slot, .int .i64 who] w fun e w' => e = .returned (.int .i64 (placeFrom who 0 (comm slot nlen C))) ∧ Below w.heap.size w w' := by
  subst hC
  have HB0 := Lib.hid ((Below.refl w.heap.size w).alloc (Nat.le_refl _) (.cells #[.slice nao nlen ncap, .int .i64 n1, .int .i64 C, .int .i64 n3, .int .i64 n4, .int .i64 n5, .int .i64 n6, .int .i64 n7, .int .i64 n8, .int .i64 n9, .int .i64 n10, .int .i64 n11] 24))
  go_enter Tryd.func34, Tryd.ntmps34
  go_wp2_with fail
  generalize w.alloc (.cells #[.slice nao nlen ncap, .int .i64 n1, .int .i64 C, .int .i64 n3, .int .i64 n4, .int .i64 n5, .int .i64 n6, .int .i64 n7, .int .i64 n8, .int .i64 n9, .int .i64 n10, .int .i64 n11] 24) = w1 at HB0 ⊢
  refine (refMembers_any w1 nao nlen ncap n1 C n3 n4 n5 n6 n7 n8 n9 n10 n11 slot C rfl hl1 hl2 hc1 hc2).mono ?_
  rintro e w2 ⟨v, rfl, hh2, hb2⟩
  obtain ⟨ao, cap, b, off, rfl, hl⟩ := hh2.lies
  have HB2 := Lib.hid (HB0.out.trans (hb2.mono HB0.out.size))
  have hle := comm_le slot nlen C
  obtain ⟨L, hLL⟩ : ∃ L, L = comm slot nlen C := ⟨_, rfl⟩
  rw [iv_length, ← hLL]
  rw [← hLL] at hl hle
  obtain ⟨m, hm⟩ : ∃ m, m = L.length := ⟨_, rfl⟩
  rw [← hm] at hle ⊢
  have HM := Lib.hid hm
  have HLL := Lib.hid hLL
  have HL := Lib.hid hl
  clear hh2 hb2 hl hLL hm HB0
  go_wp2_with fail
  go_loopw [13] (fun i wr => ∃ (j : Nat), j ≤ m ∧ i = .int .i64 j ∧ Hid (placeFrom who j (L.drop j) = placeFrom who 0 L) ∧ wr = w2) (fun i _ => m - (intOf i).toNat)
  case atStart => exact ⟨0, Nat.zero_le _, rfl, Lib.hid rfl, rfl⟩
  case round =>
    obtain ⟨j, hj, rfl, HP, hw⟩ := hrel
    subst hw
    by_cases hlt : j < m
    · obtain ⟨x, hx⟩ : ∃ x, L[j]? = some x := ⟨_, List.getElem?_eq_getElem (by rw [← HM.out]; exact hlt)⟩
      obtain ⟨ha, c0⟩ := HL.out.int (Below.refl _ _) hx
      subst ha
      have HD := Lib.hid (drop_at hx)
      clear hx
      by_cases hxw : (x : Int) = who
      · have HR := Lib.hid (show placeFrom who 0 L = j by rw [← HP.out, HD.out, placeFrom, if_pos hxw])
        subst hxw
        go_wp2_with fail
        go_ret
        rw [← HLL.out, HR.out]
        exact ⟨rfl, HB2.out⟩
      · have HR := Lib.hid (show placeFrom who (j + 1) (L.drop (j + 1)) = placeFrom who 0 L by rw [← HP.out, HD.out, placeFrom, if_neg hxw])
        go_wp2_with fail
        go_roundw
        case rel => exact ⟨j + 1, by omega, by go_num, HR, trivial⟩
        case measure => simp [intOf]; omega
    · have HR := Lib.hid (show placeFrom who 0 L = -1 by rw [← HP.out, show j = L.length by rw [← HM.out]; omega, List.drop_length]; rfl)
      go_wp2_with fail
      go_ret
      rw [← HLL.out, HR.out]
      exact ⟨rfl, HB2.out⟩

set_option maxHeartbeats 4000000 in
theorem refPick_any (w : World) (nao : Option Addr) (nlen ncap : Nat) (n1 n2 n3 n4 n5 n6 n7 n8 n9 n10 n11 : Int) (slot : Int) (C : Nat) (hC : n2 = C) (hl1 : 1 ≤ nlen) (hl2 : nlen ≤ 1000) (hc1 : 1 ≤ C) (hc2 : C ≤ nlen) (rao : Option Addr) (rlen rcap rb roff : Nat) (row : List Bool) (hr : row.length = rlen) (hrs : Lies w w.heap.size rao rb roff (ov row)) :
    Calls Tryd.prog 33 #[.agg #[.slice nao nlen ncap, .int .i64 n1, .int .i64 n2, .int .i64 n3, .int .i64 n4, .int .i64 n5, .int .i64 n6, .int .i64 n7, .int .i64 n8, .int .i64 n9, .int .i64 n10, .int .i64 n11], .int .i64 slot, .slice rao rlen rcap] w fun e w' => ∃ v, e = .returned (.tuple #[v, .bool (fits (comm slot nlen C) row)]) ∧ Held w' w.heap.size v (iv (picked (comm slot nlen C) row)) ∧ Below w.heap.size w w' := by
  subst hC
  obtain ⟨i0, hi0, hz0, hz1, hz2⟩ := info_parts Tryd.info3
  have HR := Lib.hid hr
  have HRS := Lib.hid hrs
  have HB0 := Lib.hid ((Below.refl w.heap.size w).alloc (Nat.le_refl _) (.cells #[.slice nao nlen ncap, .int .i64 n1, .int .i64 C, .int .i64 n3, .int .i64 n4, .int .i64 n5, .int .i64 n6, .int .i64 n7, .int .i64 n8, .int .i64 n9, .int .i64 n10, .int .i64 n11] 24))
  clear hr hrs
  go_enter Tryd.func33, Tryd.ntmps33
  go_wp2_with fail
  generalize w.alloc (.cells #[.slice nao nlen ncap, .int .i64 n1, .int .i64 C, .int .i64 n3, .int .i64 n4, .int .i64 n5, .int .i64 n6, .int .i64 n7, .int .i64 n8, .int .i64 n9, .int .i64 n10, .int .i64 n11] 24) = w1 at HB0 ⊢
  refine (refMembers_any w1 nao nlen ncap n1 C n3 n4 n5 n6 n7 n8 n9 n10 n11 slot C rfl hl1 hl2 hc1 hc2).mono ?_
  rintro e w2 ⟨v, rfl, hh2, hb2⟩
  obtain ⟨ao, cap, b, off, rfl, hl⟩ := hh2.lies
  have HB2 := Lib.hid (HB0.out.trans (hb2.mono HB0.out.size))
  have hle := comm_le slot nlen C
  obtain ⟨L, hLL⟩ : ∃ L, L = comm slot nlen C := ⟨_, rfl⟩
  rw [iv_length, ← hLL]
  rw [← hLL] at hl hle
  obtain ⟨m, hm⟩ : ∃ m, m = L.length := ⟨_, rfl⟩
  rw [← hm] at hle ⊢
  have HM := Lib.hid hm
  have HLL := Lib.hid hLL
  have HL := Lib.hid hl
  clear hh2 hb2 hl hLL hm HB0
  by_cases hm0 : m = 0
  · have HF := Lib.hid (show fits L row = false by rw [fits, ← HM.out, hm0]; simp)
    subst hm0
    by_cases hre : (rlen : Int) = 0
    · go_wp2_with fail
      go_ret2
      exact ⟨.slice none 0 0, by rw [← HLL.out, HF.out]; rfl, by rw [← HLL.out, picked, HF.out]; exact Held.nil _ _, HB2.out⟩
    · go_wp2_with fail
      go_ret2
      exact ⟨.slice none 0 0, by rw [← HLL.out, HF.out]; rfl, by rw [← HLL.out, picked, HF.out]; exact Held.nil _ _, HB2.out⟩
  · by_cases hrm : rlen = m
    · have HF := Lib.hid (show fits L row = true by rw [fits, ← HM.out, HR.out, hrm]; simp; omega)
      have HP := Lib.hid (show picked L row = pickL L row by rw [picked, HF.out]; rfl)
      subst hrm
      have hb1 : ((rlen : Int) == 0) = false := by simp; omega
      go_wp2_with fail
      go_loopw [9, 26] (fun v i wr => ∃ (j : Nat), j ≤ rlen ∧ i = .int .i64 j ∧ Hid (Held wr w2.heap.size v (iv (pickL (L.take j) (row.take j)))) ∧ Hid (Below w2.heap.size w2 wr)) (fun _ i _ => rlen - (intOf i).toNat)
      case atStart => exact ⟨0, Nat.zero_le _, rfl, Lib.hid (by simpa [pickL, iv] using Held.nil w2 w2.heap.size), Lib.hid (Below.refl _ _)⟩
      case round =>
        obtain ⟨j, hj, rfl, HV, HBel⟩ := hrel
        by_cases hlt : j < rlen
        · obtain ⟨x, hx⟩ : ∃ x, L[j]? = some x := ⟨_, List.getElem?_eq_getElem (by rw [← HM.out]; exact hlt)⟩
          obtain ⟨y, hy⟩ : ∃ y, row[j]? = some y := ⟨_, List.getElem?_eq_getElem (by rw [HR.out]; exact hlt)⟩
          obtain ⟨ha, c0⟩ := HL.out.int HBel.out hx
          have HBF := Lib.hid (HB2.out.trans (HBel.out.mono HB2.out.size))
          obtain ⟨ha2, c1⟩ := HRS.out.bool HBF.out hy
          subst ha
          subst ha2
          have HSn := Lib.hid (pickL_snoc hx hy)
          have HVL := Lib.hid (show (iv (pickL (L.take j) (row.take j))).length ≤ 1000 by
            rw [iv_length]
            have := pickL_le (L.take j) (row.take j)
            rw [List.length_take] at this
            omega)
          clear hx hy
          cases y with
          | true =>
            have HV2 := Lib.hid (HV.out.alloc (.cells #[.int .i64 (x : Int)] 3))
            have HSrc := Lib.hid (src_int wr 35 Tryd.underlying35 x (P := Tryd.prog))
            have HB3 := Lib.hid (HBel.out.alloc HBel.out.size (.cells #[.int .i64 (x : Int)] 3))
            have hsz := HBel.out.size
            go_wp2_with (at_builtin; refine wpList_append_held rfl _ _ 35 35 rfl rfl HV2.out 3 i0 (.int .i64 0) 8 Tryd.underlying35 hi0 hz0 hz1 hz2 rfl _ rfl 1 (iv [x]) HSrc.out ?e2 ?e3 ?e4 ?_)
            case e2 => have := HVL.out; unfold maxLen; omega
            case e3 => have := HVL.out; omega
            case e4 => (try rw [World.size_alloc]); omega
            intro v2 w3 hh hg
            have HB4 := Lib.hid (show Below w2.heap.size w2 w3 from HB3.out.trans (hg.below HV2.out HB3.out.size))
            have HH4 := Lib.hid (show Held w3 w2.heap.size v2 (iv (pickL (L.take (j + 1)) (row.take (j + 1)))) by rw [HSn.out]; simp only [if_true]; rw [iv_append]; exact hh)
            clear hh hg HSrc HV2 HB3 c0 c1
            go_wp2_with fail
            go_roundw
            case rel => exact ⟨j + 1, by omega, by go_num, HH4, HB4⟩
            case measure => simp [intOf]; omega
          | false =>
            have HH4 := Lib.hid (show Held wr w2.heap.size u9 (iv (pickL (L.take (j + 1)) (row.take (j + 1)))) by rw [HSn.out, if_neg (by simp), List.append_nil]; exact HV.out)
            go_wp2_with fail
            go_roundw
            case rel => exact ⟨j + 1, by omega, by go_num, HH4, HBel⟩
            case measure => simp [intOf]; omega
        · have HFin := Lib.hid (show Held wr w2.heap.size u9 (iv (pickL L row)) by
            have h := HV.out
            rw [List.take_of_length_le (by rw [← HM.out]; omega), List.take_of_length_le (by rw [HR.out]; omega)] at h
            exact h)
          have HBF := Lib.hid (HB2.out.trans (HBel.out.mono HB2.out.size))
          go_wp2_with fail
          go_ret2
          exact ⟨u9, by rw [← HLL.out, HF.out]; rfl, by rw [← HLL.out, HP.out]; exact HFin.out.mono HB2.out.size, HBF.out⟩
    · have HF := Lib.hid (show fits L row = false by rw [fits, ← HM.out, HR.out]; simp; omega)
      have hm1 : ¬ ((m : Int) = 0) := by omega
      have hm2 : ¬ ((rlen : Int) = (m : Int)) := by omega
      have hb1 : ((m : Int) == 0) = false := by simp; omega
      have hb2 : ((rlen : Int) != (m : Int)) = true := by simp; omega
      have hb3 : ((m : Int) != (rlen : Int)) = true := by simp; omega
      go_wp2_with fail
      go_ret2
      exact ⟨.slice none 0 0, by rw [← HLL.out, HF.out]; rfl, by rw [← HLL.out, picked, HF.out]; exact Held.nil _ _, HB2.out⟩

set_option maxHeartbeats 2000000 in
theorem same_any (w : World) (ao ao2 : Option Addr) (la ca b off lb cb b2 off2 : Nat) (L R : List Nat) (h1 : L.length = la) (h2 : R.length = lb) (hs1 : Lies w w.heap.size ao b off (iv L)) (hs2 : Lies w w.heap.size ao2 b2 off2 (iv R)) (hn : la ≤ 100000) :
    Calls Tryd.prog 15 #[.slice ao la ca, .slice ao2 lb cb] w fun e w' => e = .returned (.bool (decide (L = R))) ∧ Below w.heap.size w w' := by
  have H1 := Lib.hid h1
  have H2 := Lib.hid h2
  have HS1 := Lib.hid hs1
  have HS2 := Lib.hid hs2
  clear h1 h2 hs1 hs2
  by_cases hl : la = lb
  · subst hl
    go_enter Tryd.func15, Tryd.ntmps15
    go_wp2_with fail
    go_loopw [13] (fun i wr => ∃ (j : Nat), j ≤ la ∧ i = .int .i64 j ∧ Hid (L.take j = R.take j) ∧ Hid (Below w.heap.size w wr)) (fun i _ => la - (intOf i).toNat)
    case atStart => exact ⟨0, Nat.zero_le _, rfl, Lib.hid rfl, Lib.hid (Below.refl _ _)⟩
    case round =>
      obtain ⟨j, hj, rfl, HP, HBel⟩ := hrel
      by_cases hlt : j < la
      · obtain ⟨x, hx⟩ : ∃ x, L[j]? = some x := ⟨_, List.getElem?_eq_getElem (by rw [H1.out]; exact hlt)⟩
        obtain ⟨y, hy⟩ : ∃ y, R[j]? = some y := ⟨_, List.getElem?_eq_getElem (by rw [H2.out]; exact hlt)⟩
        obtain ⟨ha, c0⟩ := HS1.out.int HBel.out hx
        obtain ⟨ha2, c1⟩ := HS2.out.int HBel.out hy
        subst ha
        subst ha2
        have HX := Lib.hid hx
        have HY := Lib.hid hy
        clear hx hy
        by_cases hxy : x = y
        · subst hxy
          have HN := Lib.hid (show L.take (j + 1) = R.take (j + 1) by rw [List.take_add_one, List.take_add_one, HP.out, HX.out, HY.out])
          go_wp2_with fail
          go_quiet (fail)
          have HB2 := Lib.hid (below_drewN' HBel.out nq)
          go_wp2_with fail
          go_roundw
          case rel => exact ⟨j + 1, by omega, by go_num, HN, HB2⟩
          case measure => simp [intOf]; omega
        · have HF := Lib.hid (show decide (L = R) = false by
            rw [decide_eq_false_iff_not]
            intro e
            have h1 := HX.out
            rw [e, HY.out] at h1
            exact hxy (Option.some.inj h1).symm)
          have hxy' : ¬ ((x : Int) = (y : Int)) := by omega
          go_wp2_with fail
          go_quiet (fail)
          have HB2 := Lib.hid (below_drewN' HBel.out nq)
          go_wp2_with fail
          go_ret
          rw [HF.out]
          exact ⟨rfl, HB2.out⟩
      · have HF := Lib.hid (show decide (L = R) = true by
          rw [decide_eq_true_iff]
          have h := HP.out
          rw [List.take_of_length_le (by rw [H1.out]; omega), List.take_of_length_le (by rw [H2.out]; omega)] at h
          exact h)
        go_wp2_with fail
        go_ret
        rw [HF.out]
        exact ⟨rfl, HBel.out⟩
  · have HF := Lib.hid (show decide (L = R) = false by
      rw [decide_eq_false_iff_not]
      intro e
      rw [e, H2.out] at H1
      exact hl H1.out.symm)
    have hl2 : ¬ ((la : Int) = (lb : Int)) := by omega
    go_enter Tryd.func15, Tryd.ntmps15
    go_wp2_with fail
    go_ret
    rw [HF.out]
    exact ⟨rfl, Below.refl _ _⟩
end Go.Proofs.YtnbdpalbompjlaaDoor
