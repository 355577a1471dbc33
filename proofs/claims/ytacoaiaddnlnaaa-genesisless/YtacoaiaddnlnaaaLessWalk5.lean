/-
  The walk of GenesisLess.
-/
import Derived.Test.YtacoaiaddnlnaaaAlive5
import Derived.Test.YtacoaiaddnlnaaaRefGood
import Derived.Test.YtacoaiaddnlnaaaOpenCfg
namespace Go.Proofs.Ytacoaiaddnlnaaa
open Go.ChangeShapes Go.WideShapes Go.RowKit

/-- Ints as cells. -/
def iv (l : List Int) : List Value := l.map fun n => Value.int .i64 n
theorem iv_length (l : List Int) : (iv l).length = l.length := by simp [iv]
theorem iv_at {l : List Int} {j : Nat} {n : Int} (h : l[j]? = some n) : (iv l)[j]? = some (.int .i64 n) := by simp [iv, h]

/-- A slice of numbers that came in. -/
theorem opened_ints {H : Type} {enc : TypeId × Value → H} {W : World} {ao : Option Addr} {len cap : Nat} {d : DataW H} {p : List MemPlace}
    (h : DataW.Trod enc Try.prog W 0 (fun _ => true) true 35 (.slice ao len cap) d p) : ∃ l : List Int, l.length = len ∧ (∀ n ∈ l, I64 n) ∧ ∃ b off, Lies W W.heap.size ao b off (iv l) := by
  obtain ⟨fuel, hf⟩ := h
  have hf' : DataW.trod enc Try.prog W 0 (fun _ => true) true fuel 35 [.slice ao len cap] = some (d, p) := by simpa [Value.cells] using hf
  rcases open_ints Try.underlying35 Try.underlying3 (by kernel_rfl) hf' with ⟨hcs, _⟩ | ⟨a, l, c, zs, hcs, _, hl, hm, hzl, _, hx, hwz⟩
  · simp at hcs
    obtain ⟨rfl, rfl, rfl⟩ := hcs
    exact ⟨[], rfl, (fun n h => by cases h), 0, 0, fun h => absurd h (by simp [iv]), fun h => absurd h (by simp [iv]), fun j x h => by simp [iv] at h⟩
  · simp at hcs
    obtain ⟨rfl, rfl, rfl⟩ := hcs
    simp only [if_true] at hzl
    obtain ⟨b, off, spot⟩ := a
    have hsp : 0 < len → spot = none := fun h0 => by
      have hc := hx 0 (by omega)
      simpa [Addr.add] using World.cell?_spot hc
    have hlen : (zs.take len).length = len := by rw [List.length_take]; omega
    refine ⟨zs.take len, hlen, fun n hn => I64.of (hwz n (List.mem_of_mem_take hn)), b, off, fun h0 => ?_, fun h0 => ?_, fun j y hj => ?_⟩
    · rw [iv_length, hlen] at h0; rw [hsp h0]
    · rw [iv_length, hlen] at h0
      have hc := hx 0 (by omega)
      have := World.block_lt_of_cell? W _ hc
      simpa [Addr.add] using this
    · have hjl : j < len := by
        have := (List.getElem?_eq_some_iff.1 hj).1
        rwa [iv_length, hlen] at this
      have hc := hx j (by omega)
      rw [hsp (by omega), Addr.add_lit] at hc
      rw [hc]
      rw [iv, List.getElem?_map, List.getElem?_take, if_pos hjl] at hj
      obtain ⟨z, hz⟩ : ∃ z, zs[j]? = some z := ⟨_, List.getElem?_eq_getElem (by omega)⟩
      rw [hz] at hj
      simp at hj
      rw [← hj]
      simp [List.getD, hz]

/-- The numbers, the first j of them less. -/
def cur (ns ls : List Int) (j : Nat) : List Int := (List.zipWith (fun n l => max (n - l) 1) ns ls).take j ++ ns.drop j
theorem cur_at (ns ls : List Int) (j : Nat) (n : Int) (hl : ls.length = ns.length) (h : ns[j]? = some n) : (cur ns ls j)[j]? = some n := by
  have hj := (List.getElem?_eq_some_iff.1 h).1
  have e : ((List.zipWith (fun n l => max (n - l) 1) ns ls).take j).length = j := by simp [hl]; omega
  rw [cur, List.getElem?_append_right (by omega), e, Nat.sub_self, List.getElem?_drop, Nat.add_zero]
  exact h
theorem cur_next (ns ls : List Int) (j : Nat) (n l : Int) (hl : ls.length = ns.length) (h : ns[j]? = some n) (h2 : ls[j]? = some l) : (cur ns ls j).set j (max (n - l) 1) = cur ns ls (j + 1) := by
  have hj := (List.getElem?_eq_some_iff.1 h).1
  have e : ((List.zipWith (fun n l => max (n - l) 1) ns ls).take j).length = j := by simp [hl]; omega
  rw [cur, List.set_append_right _ _ (by omega), e, Nat.sub_self, cur, drop_at h, List.set_cons_zero, List.take_add_one, List.getElem?_zipWith, h, h2]
  simp

theorem good_less {nlen : Nat} {n1 n2 n3 n4 n5 n6 n7 n8 n9 n10 n11 l1 l2 l3 l4 l5 l6 l7 l8 l9 l10 l11 : Int} {vs : List (Int × ByteArray)} (h : goodB (nums nlen n1 n2 n3 n4 n5 n6 n7 n8 n9 n10 n11) vs = true) (hl : ∀ (k : Nat) (l : Int), ([l1, l2, l3, l4, l5, l6, l7, l8, l9, l10, l11] : List Int)[k]? = some l → 0 ≤ l) :
    goodB (nums nlen (max (n1 - l1) 1) (max (n2 - l2) 1) (max (n3 - l3) 1) (max (n4 - l4) 1) (max (n5 - l5) 1) (max (n6 - l6) 1) (max (n7 - l7) 1) (max (n8 - l8) 1) (max (n9 - l9) 1) (max (n10 - l10) 1) (max (n11 - l11) 1)) vs = true := by
  have z1 := hl 0 l1 rfl
  have z2 := hl 1 l2 rfl
  have z3 := hl 2 l3 rfl
  have z4 := hl 3 l4 rfl
  have z5 := hl 4 l5 rfl
  have z6 := hl 5 l6 rfl
  have z7 := hl 6 l7 rfl
  have z8 := hl 7 l8 rfl
  have z9 := hl 8 l9 rfl
  have z10 := hl 9 l10 rfl
  have z11 := hl 10 l11 rfl
  simp only [goodB, goodL, nums, List.all_cons, List.all_nil, Bool.and_eq_true, decide_eq_true_eq, Bool.and_true] at h ⊢
  refine ⟨?_, h.2⟩
  have := h.1
  omega

theorem good_mem {nlen : Nat} {n1 n2 n3 n4 n5 n6 n7 n8 n9 n10 n11 : Int} {vs : List (Int × ByteArray)} (h : goodB (nums nlen n1 n2 n3 n4 n5 n6 n7 n8 n9 n10 n11) vs = true) : ∀ n ∈ ([n1, n2, n3, n4, n5, n6, n7, n8, n9, n10, n11] : List Int), 1 ≤ n ∧ n ≤ 1048576 := by
  simp only [goodB, goodL, nums, List.all_cons, List.all_nil, Bool.and_eq_true, decide_eq_true_eq, Bool.and_true] at h
  have h1 := h.1
  clear h
  intro n hn
  simp only [List.mem_cons, List.not_mem_nil, or_false] at hn
  rcases hn with rfl | rfl | rfl | rfl | rfl | rfl | rfl | rfl | rfl | rfl | rfl <;> omega
/-- Pointers at the numbers. -/
def ptl (D : Nat) : List Value := [.pointer (some ⟨D, 1, none⟩), .pointer (some ⟨D, 2, none⟩), .pointer (some ⟨D, 3, none⟩), .pointer (some ⟨D, 4, none⟩), .pointer (some ⟨D, 5, none⟩), .pointer (some ⟨D, 6, none⟩), .pointer (some ⟨D, 7, none⟩), .pointer (some ⟨D, 8, none⟩), .pointer (some ⟨D, 9, none⟩), .pointer (some ⟨D, 10, none⟩), .pointer (some ⟨D, 11, none⟩)]
theorem ptl_at (D : Nat) : ∀ j, j < 11 → (ptl D)[j]? = some (.pointer (some ⟨D, j + 1, none⟩))
  | 0, _ => rfl
  | 1, _ => rfl
  | 2, _ => rfl
  | 3, _ => rfl
  | 4, _ => rfl
  | 5, _ => rfl
  | 6, _ => rfl
  | 7, _ => rfl
  | 8, _ => rfl
  | 9, _ => rfl
  | 10, _ => rfl
  | _ + 11, h => absurd h (by omega)

set_option maxRecDepth 100000 in
set_option maxHeartbeats 8000000 in
theorem less_in (w : World) (nao : Option Addr) (nlen ncap b off : Nat) (n1 n2 n3 n4 n5 n6 n7 n8 n9 n10 n11 : Int) (vs : List (Int × ByteArray)) (mao : Option Addr) (mcap mb moff : Nat) (l1 l2 l3 l4 l5 l6 l7 l8 l9 l10 l11 : Int) (hl : vs.length = nlen) (hlen : nlen ≤ 100) (hgr : tooMuch vs = false) (hgd : goodB (nums nlen n1 n2 n3 n4 n5 n6 n7 n8 n9 n10 n11) vs = true) (hst : Stakes vs) (hs : Lies w w.heap.size nao b off (vc vs))
    (hli : ∀ n ∈ ([l1, l2, l3, l4, l5, l6, l7, l8, l9, l10, l11] : List Int), I64 n) (hm : Lies w w.heap.size mao mb moff (iv [l1, l2, l3, l4, l5, l6, l7, l8, l9, l10, l11])) :
    Calls Try.prog 7 #[.agg #[.slice nao nlen ncap, .int .i64 n1, .int .i64 n2, .int .i64 n3, .int .i64 n4, .int .i64 n5, .int .i64 n6, .int .i64 n7, .int .i64 n8, .int .i64 n9, .int .i64 n10, .int .i64 n11], .slice mao 11 mcap] w fun e w' => e = .returned (.bool true) ∧ Below w.heap.size w w' := by
  have ha := hm.addr (by simp [iv])
  subst ha
  have HS := Lib.hid hs
  have HM := Lib.hid hm
  have HL := Lib.hid hl
  have HST := Lib.hid hst
  have HGR := Lib.hid hgr
  have HGD := Lib.hid hgd
  have HLI := Lib.hid hli
  have HB0 := Lib.hid ((Below.refl w.heap.size w).alloc (Nat.le_refl _) (.cells #[.slice nao nlen ncap, .int .i64 n1, .int .i64 n2, .int .i64 n3, .int .i64 n4, .int .i64 n5, .int .i64 n6, .int .i64 n7, .int .i64 n8, .int .i64 n9, .int .i64 n10, .int .i64 n11] 24))
  have HK0 := Lib.hid (Blk.new w 24 #[.slice nao nlen ncap, .int .i64 n1, .int .i64 n2, .int .i64 n3, .int .i64 n4, .int .i64 n5, .int .i64 n6, .int .i64 n7, .int .i64 n8, .int .i64 n9, .int .i64 n10, .int .i64 n11])
  have HA0 := Lib.hid (Nat.le_refl w.heap.size)
  clear hs hl hst hgr hgd hli hm
  go_enter Try.func7, Try.ntmps7
  go_wp2_with fail
  refine (alive_any _).mono ?_
  rintro e w1 ⟨rfl, hb1⟩
  have HK := Lib.hid (HK0.out.below hb1 (by simp))
  have HB := Lib.hid (HB0.out.trans (hb1.mono HB0.out.size))
  generalize w.heap.size = A at HK ⊢
  clear hb1 HK0 HB0
  obtain ⟨q0, q1, q2, q3, q4, q5, q6, q7, q8, q9, q10, q11⟩ := HK.out.twelve
  go_wp2_with fail
  refine (tooMuch_any w1 nao nlen ncap b off n1 n2 n3 n4 n5 n6 n7 n8 n9 n10 n11 vs HL.out ((HS.out.keep HB.out).more HB.out.size)).mono ?_
  rintro e w2 ⟨rfl, hb2⟩
  rw [HGR.out]
  have HK2 := Lib.hid (HK.out.below hb2 HK.out.lt)
  have HB2 := Lib.hid (HB.out.trans (hb2.mono HB.out.size))
  clear q0 q1 q2 q3 q4 q5 q6 q7 q8 q9 q10 q11 hb2 HK HB HGR
  obtain ⟨q0, q1, q2, q3, q4, q5, q6, q7, q8, q9, q10, q11⟩ := HK2.out.twelve
  go_wp2_with fail
  refine (refGood_any w2 nao nlen ncap b off n1 n2 n3 n4 n5 n6 n7 n8 n9 n10 n11 vs HL.out (by omega) HST.out ((HS.out.keep HB2.out).more HB2.out.size)).mono ?_
  rintro e w3 ⟨rfl, hb3⟩
  rw [HGD.out]
  have HK3 := Lib.hid (HK2.out.below hb3 HK2.out.lt)
  have HB3 := Lib.hid (HB2.out.trans (hb3.mono HB2.out.size))
  clear q0 q1 q2 q3 q4 q5 q6 q7 q8 q9 q10 q11 hb3 HK2 HB2
  obtain ⟨q0, q1, q2, q3, q4, q5, q6, q7, q8, q9, q10, q11⟩ := HK3.out.twelve
  have hAD := HK3.out.lt
  have hWD := HB3.out.size
  have hBD := (HB3.out.alloc HB3.out.size (.cells #[.slice nao nlen ncap, .int .i64 n1, .int .i64 n2, .int .i64 n3, .int .i64 n4, .int .i64 n5, .int .i64 n6, .int .i64 n7, .int .i64 n8, .int .i64 n9, .int .i64 n10, .int .i64 n11] 24)).alloc (by simp; omega) (.cells (ptl w3.heap.size).toArray 36)
  have hkD := (Blk.new w3 24 #[.slice nao nlen ncap, .int .i64 n1, .int .i64 n2, .int .i64 n3, .int .i64 n4, .int .i64 n5, .int .i64 n6, .int .i64 n7, .int .i64 n8, .int .i64 n9, .int .i64 n10, .int .i64 n11]).alloc (.cells (ptl w3.heap.size).toArray 36)
  have hkA := (HK3.out.alloc (.cells #[.slice nao nlen ncap, .int .i64 n1, .int .i64 n2, .int .i64 n3, .int .i64 n4, .int .i64 n5, .int .i64 n6, .int .i64 n7, .int .i64 n8, .int .i64 n9, .int .i64 n10, .int .i64 n11] 24)).alloc (.cells (ptl w3.heap.size).toArray 36)
  have hkP := Blk.newAt (w3.alloc (.cells #[.slice nao nlen ncap, .int .i64 n1, .int .i64 n2, .int .i64 n3, .int .i64 n4, .int .i64 n5, .int .i64 n6, .int .i64 n7, .int .i64 n8, .int .i64 n9, .int .i64 n10, .int .i64 n11] 24)) 36 (ptl w3.heap.size).toArray (w3.heap.size + 1) (by simp)
  rw [ptl] at hBD hkD hkA
  have HBD := Lib.hid hBD
  have HKD := Lib.hid hkD
  have HKA := Lib.hid hkA
  have HKP := Lib.hid (show Blk _ _ _ (ptl w3.heap.size) by rw [ptl] at hkP ⊢; exact hkP)
  clear hBD hkD hkA hkP
  go_wp2_with fail
  generalize (w3.alloc (.cells #[.slice nao nlen ncap, .int .i64 n1, .int .i64 n2, .int .i64 n3, .int .i64 n4, .int .i64 n5, .int .i64 n6, .int .i64 n7, .int .i64 n8, .int .i64 n9, .int .i64 n10, .int .i64 n11] 24)).alloc _ = w4 at HBD HKD HKA HKP ⊢
  generalize w3.heap.size = D at hAD hWD HKD HKP ⊢
  obtain ⟨N, hN⟩ : ∃ N : List Int, N = [n1, n2, n3, n4, n5, n6, n7, n8, n9, n10, n11] := ⟨_, rfl⟩
  obtain ⟨L, hL⟩ : ∃ L : List Int, L = [l1, l2, l3, l4, l5, l6, l7, l8, l9, l10, l11] := ⟨_, rfl⟩
  have HLE := Lib.hid (show L.length = N.length by rw [hN, hL]; rfl)
  have HNE := Lib.hid (show N.length = 11 by rw [hN]; rfl)
  have HNB := Lib.hid (good_mem HGD.out)
  rw [← hN] at HNB
  rw [← hL] at HLI HM
  have HN := Lib.hid hN
  have HLL := Lib.hid hL
  have HKD' := Lib.hid (show Blk w4 D 24 (.slice nao nlen ncap :: iv (cur N L 0)) by rw [hN]; exact HKD.out)
  clear q0 q1 q2 q3 q4 q5 q6 q7 q8 q9 q10 q11 hN hL HKD HK3 HB3
  go_loopw [38] (fun i wr => ∃ (j : Nat), j ≤ 11 ∧ i = .int .i64 j ∧ Hid (Blk wr D 24 (.slice nao nlen ncap :: iv (cur N L j))) ∧ Hid (Blk wr (D + 1) 36 (ptl D)) ∧ Hid (Blk wr A 24 #[.slice nao nlen ncap, .int .i64 n1, .int .i64 n2, .int .i64 n3, .int .i64 n4, .int .i64 n5, .int .i64 n6, .int .i64 n7, .int .i64 n8, .int .i64 n9, .int .i64 n10, .int .i64 n11].toList) ∧ Hid (Below w.heap.size w wr) ∧ Hid (∀ (k : Nat) (l : Int), k < j → L[k]? = some l → 0 ≤ l)) (fun i _ => 11 - (intOf i).toNat)
  case atStart => exact ⟨0, Nat.zero_le _, rfl, HKD', HKP, HKA, HBD, Lib.hid fun k l h => absurd h (by omega)⟩
  case round =>
    obtain ⟨j, hj, rfl, HD, HP, HA, HBel, HPos⟩ := hrel
    by_cases hlt : j < 11
    · obtain ⟨n, hn⟩ : ∃ n, N[j]? = some n := ⟨_, List.getElem?_eq_getElem (by rw [HNE.out]; exact hlt)⟩
      obtain ⟨l, hl⟩ : ∃ l, L[j]? = some l := ⟨_, List.getElem?_eq_getElem (by rw [HLE.out, HNE.out]; exact hlt)⟩
      have hnb := HNB.out n (List.mem_of_getElem? hn)
      have hlb := HLI.out l (List.mem_of_getElem? hl)
      unfold I64 at hlb
      have c0 := (HP.out.cell j).trans (ptl_at D j hlt)
      have c1 := (HBel.out.cell (p := ⟨mb, moff + j, none⟩) (HM.out.lt (by rw [iv_length, HLE.out, HNE.out]; omega))).trans (HM.out.cells j _ (iv_at hl))
      have c2 := (HD.out.cell (j + 1)).trans (show _ = some (.int .i64 n) by rw [List.getElem?_cons_succ]; exact iv_at (cur_at N L j n HLE.out hn))
      have c3 := HD.out.free (j + 1)
      have HCN := Lib.hid (cur_next N L j n l HLE.out hn hl)
      have HL2 := Lib.hid hl
      clear hn hl
      by_cases hneg : l < 0
      · go_wp2_with fail
        go_ret
        exact ⟨rfl, HBel.out⟩
      · have hIF : (if n - l < 1 then 1 else n - l) = max (n - l) 1 := by split <;> omega
        have HIF := Lib.hid hIF
        clear hIF
        go_wp2_with fail
        refine wp_region_draws_tail 11 (by kernel_rfl) (by kernel_rfl) ?_
        simp only [List.take_succ_cons, List.take_zero, List.drop_succ_cons, List.drop_zero]
        repeat (go_big_quiet_step (fail))
        refine wpQuiet_nil ?_
        rintro _ ⟨nq, rfl⟩
        go_wp2_with fail
        rw [HIF.out]
        refine ⟨⟨j + 1, by omega, by go_num, Lib.hid ?_, Lib.hid ((HP.out.drewN nq).other _ _ (by simp)), Lib.hid ((HA.out.drewN nq).other _ _ (by simp; omega)), Lib.hid ((below_drewN HBel.out nq).setCell (by simp; omega) _), Lib.hid fun k l' hk hl' => ?_⟩, ?_⟩
        · have := (HD.out.drewN nq).set (j + 1) (.int .i64 (max (n - l) 1))
          rw [List.set_cons_succ, iv, show Value.int .i64 (max (n - l) 1) = (fun n => Value.int .i64 n) (max (n - l) 1) from rfl, ← List.map_set, HCN.out] at this
          exact this
        · by_cases hkj : k < j
          · exact HPos.out k l' hkj hl'
          · obtain rfl : k = j := by omega
            rw [HL2.out] at hl'
            cases hl'
            omega
        · simp only [intOf]
          omega
    · have hjl : j = 11 := by omega
      have HD2 := Lib.hid (show Blk wr D 24 (.slice nao nlen ncap :: iv [max (n1 - l1) 1, max (n2 - l2) 1, max (n3 - l3) 1, max (n4 - l4) 1, max (n5 - l5) 1, max (n6 - l6) 1, max (n7 - l7) 1, max (n8 - l8) 1, max (n9 - l9) 1, max (n10 - l10) 1, max (n11 - l11) 1]) by
        have := HD.out
        rw [hjl, HN.out, HLL.out] at this
        exact this)
      have HP2 := HPos.out
      rw [hjl, HLL.out] at HP2
      have HG2 := Lib.hid (good_less HGD.out fun k l hk => HP2 k l (by have := (List.getElem?_eq_some_iff.1 hk).1; simpa using this) hk)
      clear hjl HP2 HD HPos
      obtain ⟨q0, q1, q2, q3, q4, q5, q6, q7, q8, q9, q10, q11⟩ := HA.out.twelve
      go_wp2_with fail
      refine (good_any wr nao nlen ncap b off n1 n2 n3 n4 n5 n6 n7 n8 n9 n10 n11 vs HL.out (by omega) HST.out ((HS.out.keep HBel.out).more HBel.out.size)).mono ?_
      rintro e w5 ⟨rfl, hb5⟩
      rw [HGD.out]
      have HD3 := Lib.hid (HD2.out.below hb5 HD2.out.lt)
      have HB5 := Lib.hid (HBel.out.trans (hb5.mono HBel.out.size))
      clear q0 q1 q2 q3 q4 q5 q6 q7 q8 q9 q10 q11 hb5 HD2 HBel HA HP
      obtain ⟨q0, q1, q2, q3, q4, q5, q6, q7, q8, q9, q10, q11⟩ := HD3.out.twelve
      go_wp2_with fail
      refine (good_any w5 nao nlen ncap b off (max (n1 - l1) 1) (max (n2 - l2) 1) (max (n3 - l3) 1) (max (n4 - l4) 1) (max (n5 - l5) 1) (max (n6 - l6) 1) (max (n7 - l7) 1) (max (n8 - l8) 1) (max (n9 - l9) 1) (max (n10 - l10) 1) (max (n11 - l11) 1) vs HL.out (by omega) HST.out ((HS.out.keep HB5.out).more HB5.out.size)).mono ?_
      rintro e w6 ⟨rfl, hb6⟩
      rw [HG2.out]
      have HB6 := Lib.hid (HB5.out.trans (hb6.mono HB5.out.size))
      clear q0 q1 q2 q3 q4 q5 q6 q7 q8 q9 q10 q11 hb6
      go_wp2_with fail
      go_ret
      exact ⟨rfl, HB6.out⟩

set_option maxRecDepth 100000 in
set_option maxHeartbeats 4000000 in
theorem less_out (w : World) (nao : Option Addr) (nlen ncap b off : Nat) (n1 n2 n3 n4 n5 n6 n7 n8 n9 n10 n11 : Int) (vs : List (Int × ByteArray)) (mao : Option Addr) (mlen mcap : Nat) (hl : vs.length = nlen) (hst : Stakes vs) (h : tooMuch vs = true ∨ goodB (nums nlen n1 n2 n3 n4 n5 n6 n7 n8 n9 n10 n11) vs = false ∨ mlen ≠ 11) (hs : Lies w w.heap.size nao b off (vc vs)) :
    Calls Try.prog 7 #[.agg #[.slice nao nlen ncap, .int .i64 n1, .int .i64 n2, .int .i64 n3, .int .i64 n4, .int .i64 n5, .int .i64 n6, .int .i64 n7, .int .i64 n8, .int .i64 n9, .int .i64 n10, .int .i64 n11], .slice mao mlen mcap] w fun e w' => e = .returned (.bool true) ∧ Below w.heap.size w w' := by
  have HS := Lib.hid hs
  have HL := Lib.hid hl
  have HST := Lib.hid hst
  have HH := Lib.hid h
  have HB0 := Lib.hid ((Below.refl w.heap.size w).alloc (Nat.le_refl _) (.cells #[.slice nao nlen ncap, .int .i64 n1, .int .i64 n2, .int .i64 n3, .int .i64 n4, .int .i64 n5, .int .i64 n6, .int .i64 n7, .int .i64 n8, .int .i64 n9, .int .i64 n10, .int .i64 n11] 24))
  have HK0 := Lib.hid (Blk.new w 24 #[.slice nao nlen ncap, .int .i64 n1, .int .i64 n2, .int .i64 n3, .int .i64 n4, .int .i64 n5, .int .i64 n6, .int .i64 n7, .int .i64 n8, .int .i64 n9, .int .i64 n10, .int .i64 n11])
  clear hs hl h hst
  go_enter Try.func7, Try.ntmps7
  go_wp2_with fail
  refine (alive_any _).mono ?_
  rintro e w1 ⟨rfl, hb1⟩
  have HK := Lib.hid (HK0.out.below hb1 (by simp))
  have HB := Lib.hid (HB0.out.trans (hb1.mono HB0.out.size))
  generalize w.heap.size = A at HK ⊢
  clear hb1 HK0 HB0
  obtain ⟨q0, q1, q2, q3, q4, q5, q6, q7, q8, q9, q10, q11⟩ := HK.out.twelve
  go_wp2_with fail
  refine (tooMuch_any w1 nao nlen ncap b off n1 n2 n3 n4 n5 n6 n7 n8 n9 n10 n11 vs HL.out ((HS.out.keep HB.out).more HB.out.size)).mono ?_
  rintro e w2 ⟨rfl, hb2⟩
  have HK2 := Lib.hid (HK.out.below hb2 HK.out.lt)
  have HB2 := Lib.hid (HB.out.trans (hb2.mono HB.out.size))
  clear q0 q1 q2 q3 q4 q5 q6 q7 q8 q9 q10 q11 hb2 HK HB
  cases hg : tooMuch vs with
  | true =>
    clear hg
    go_wp2_with fail
    go_ret
    exact ⟨rfl, HB2.out⟩
  | false =>
    have hlen : nlen ≤ 100 := by rw [← HL.out]; simp [tooMuch] at hg; omega
    have h2 := HH.out
    rw [hg] at h2
    have H2 := Lib.hid h2
    clear hg HH h2
    obtain ⟨q0, q1, q2, q3, q4, q5, q6, q7, q8, q9, q10, q11⟩ := HK2.out.twelve
    go_wp2_with fail
    refine (refGood_any w2 nao nlen ncap b off n1 n2 n3 n4 n5 n6 n7 n8 n9 n10 n11 vs HL.out (by omega) HST.out ((HS.out.keep HB2.out).more HB2.out.size)).mono ?_
    rintro e w3 ⟨rfl, hb3⟩
    have HB3 := Lib.hid (HB2.out.trans (hb3.mono HB2.out.size))
    clear q0 q1 q2 q3 q4 q5 q6 q7 q8 q9 q10 q11 hb3 HK2 HB2
    cases hgd : goodB (nums nlen n1 n2 n3 n4 n5 n6 n7 n8 n9 n10 n11) vs with
    | false =>
      clear hgd
      go_wp2_with fail
      go_ret
      exact ⟨rfl, HB3.out⟩
    | true =>
      have h3 : ¬ ((mlen : Int) = 11) := by
        rcases H2.out with h2 | h2 | h2
        · cases h2
        · rw [hgd] at h2; cases h2
        · omega
      clear hgd H2
      go_wp2_with fail
      go_ret
      exact ⟨rfl, HB3.out⟩

theorem less_any (w : World) (nao : Option Addr) (nlen ncap b off : Nat) (n1 n2 n3 n4 n5 n6 n7 n8 n9 n10 n11 : Int) (vs : List (Int × ByteArray)) (mao : Option Addr) (mlen mcap mb moff : Nat) (l : List Int) (hl : vs.length = nlen) (hst : Stakes vs) (hs : Lies w w.heap.size nao b off (vc vs))
    (hll : l.length = mlen) (hli : ∀ n ∈ l, I64 n) (hm : Lies w w.heap.size mao mb moff (iv l)) :
    Calls Try.prog 7 #[.agg #[.slice nao nlen ncap, .int .i64 n1, .int .i64 n2, .int .i64 n3, .int .i64 n4, .int .i64 n5, .int .i64 n6, .int .i64 n7, .int .i64 n8, .int .i64 n9, .int .i64 n10, .int .i64 n11], .slice mao mlen mcap] w fun e w' => e = .returned (.bool true) ∧ Below w.heap.size w w' := by
  by_cases h : tooMuch vs = true ∨ goodB (nums nlen n1 n2 n3 n4 n5 n6 n7 n8 n9 n10 n11) vs = false ∨ mlen ≠ 11
  · exact less_out w nao nlen ncap b off n1 n2 n3 n4 n5 n6 n7 n8 n9 n10 n11 vs mao mlen mcap hl hst h hs
  · have h1 : tooMuch vs = false := by
      cases hg : tooMuch vs with
      | false => rfl
      | true => exact absurd (.inl hg) h
    have h2 : goodB (nums nlen n1 n2 n3 n4 n5 n6 n7 n8 n9 n10 n11) vs = true := by
      cases hg : goodB (nums nlen n1 n2 n3 n4 n5 n6 n7 n8 n9 n10 n11) vs with
      | true => rfl
      | false => exact absurd (.inr (.inl hg)) h
    obtain rfl : mlen = 11 := by
      by_cases h3 : mlen = 11
      · exact h3
      · exact absurd (.inr (.inr h3)) h
    have hlen : nlen ≤ 100 := by rw [← hl]; simp [tooMuch] at h1; omega
    match l, hll with
    | [l1, l2, l3, l4, l5, l6, l7, l8, l9, l10, l11], _ => exact less_in w nao nlen ncap b off n1 n2 n3 n4 n5 n6 n7 n8 n9 n10 n11 vs mao mcap mb moff l1 l2 l3 l4 l5 l6 l7 l8 l9 l10 l11 hl hlen h1 h2 hst hs hli hm
end Go.Proofs.Ytacoaiaddnlnaaa
