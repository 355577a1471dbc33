/-
  The walk of GenesisTotals.
-/
import Derived.Test.YtacoaiaddnlnaaaAlive5
import Derived.Test.YtacoaiaddnlnaaaRefGood
import Derived.Test.YtacoaiaddnlnaaaOpenCfg
import Derived.Test.YtacoaiaddnlnaaaFreeKill
namespace Go.Proofs.Ytacoaiaddnlnaaa
open Go.RowKit

theorem totV_eq (o : Option Int) : totV o = .tuple #[.int .i64 (o.getD 0), .bool o.isSome] := by cases o <;> rfl

/-- All stakes together. -/
def sumS (vs : List (Int × ByteArray)) : Int := (vs.map (·.1)).sum
theorem sumS_cons (v : (Int × ByteArray)) (r : List (Int × ByteArray)) : sumS (v :: r) = v.1 + sumS r := by simp [sumS]
theorem sumS_append (a b : List (Int × ByteArray)) : sumS (a ++ b) = sumS a + sumS b := by simp [sumS, List.sum_append]
theorem sumS_nonneg : ∀ vs : List (Int × ByteArray), (vs.all can) = true → 0 ≤ sumS vs
  | [], _ => by simp [sumS]
  | v :: r, h => by
    rw [List.all_cons, Bool.and_eq_true] at h
    have h1 := sumS_nonneg r h.2
    have h2 := h.1
    simp only [can, Bool.and_eq_true, decide_eq_true_eq] at h2
    rw [sumS_cons]
    omega
theorem totFrom_eq : ∀ (vs : List (Int × ByteArray)) (z : Int), totFrom z vs = if (vs.all can) = true ∧ (z + sumS vs < 4611686018427387904 ∨ vs = []) then some (z + sumS vs) else none
  | [], z => by simp [totFrom, sumS]
  | v :: r, z => by
    rw [totFrom, totFrom_eq r, List.all_cons, sumS_cons]
    by_cases hc : can v = true
    · have hv := hc
      simp only [can, Bool.and_eq_true, decide_eq_true_eq] at hv
      by_cases hr : (r.all can) = true
      · have hn := sumS_nonneg r hr
        by_cases hz : v.1 < 4611686018427387904 - z
        · rw [if_pos ⟨hc, hz⟩]
          by_cases hr0 : r = []
          · subst hr0
            simp [hc, sumS]
            omega
          · simp only [hr, hc, hr0, Bool.true_and, true_and, or_false, reduceCtorEq]
            rw [show z + v.1 + sumS r = z + (v.1 + sumS r) by omega]
        · rw [if_neg (by simp [hz]), if_neg (by simp only [hc, hr, reduceCtorEq, or_false]; simp; omega)]
      · simp [hr]
    · simp [hc]
/-- .. from 0 on. -/
theorem tot_eq (vs : List (Int × ByteArray)) : totFrom 0 vs = if (vs.all can) = true ∧ sumS vs < 4611686018427387904 then some (sumS vs) else none := by
  rw [totFrom_eq]
  cases vs with
  | nil => simp [sumS]
  | cons v r =>
    rw [Int.zero_add]
    by_cases h : ((v :: r).all can) = true ∧ sumS (v :: r) < 4611686018427387904
    · rw [if_pos h, if_pos ⟨h.1, .inl h.2⟩]
    · rw [if_neg h, if_neg fun k => h ⟨k.1, k.2.elim id fun e => by cases e⟩]
theorem tot_turned (a b : List (Int × ByteArray)) : totFrom 0 (b ++ a) = totFrom 0 (a ++ b) := by
  rw [tot_eq, tot_eq, List.all_append, List.all_append, sumS_append, sumS_append, Bool.and_comm, Int.add_comm]

/-- All stakes are those of some, and of the others. -/
theorem tot_parts (a b : List (Int × ByteArray)) : (∃ x y : Int, totFrom 0 a = some x ∧ totFrom 0 b = some y ∧ 0 ≤ x ∧ 0 ≤ y ∧ x + y < 4611686018427387904 ∧ totFrom 0 (a ++ b) = some (x + y)) ∨
    (totFrom 0 (a ++ b) = none ∧ (totFrom 0 a = none ∨ totFrom 0 b = none ∨ ∃ x y : Int, totFrom 0 a = some x ∧ totFrom 0 b = some y ∧ 0 ≤ x ∧ x < 4611686018427387904 ∧ 0 ≤ y ∧ y < 4611686018427387904 ∧ 4611686018427387904 ≤ x + y)) := by
  rw [tot_eq a, tot_eq b, tot_eq (a ++ b), List.all_append, sumS_append]
  by_cases ha : (a.all can) = true ∧ sumS a < 4611686018427387904
  · by_cases hb : (b.all can) = true ∧ sumS b < 4611686018427387904
    · have ha0 := sumS_nonneg a ha.1
      have hb0 := sumS_nonneg b hb.1
      by_cases hs : sumS a + sumS b < 4611686018427387904
      · exact .inl ⟨sumS a, sumS b, if_pos ha, if_pos hb, ha0, hb0, hs, if_pos ⟨by rw [ha.1, hb.1]; rfl, hs⟩⟩
      · exact .inr ⟨if_neg fun h => hs h.2, .inr (.inr ⟨sumS a, sumS b, if_pos ha, if_pos hb, ha0, ha.2, hb0, hb.2, by omega⟩)⟩
    · refine .inr ⟨if_neg fun h => hb ?_, .inr (.inl (if_neg hb))⟩
      rw [Bool.and_eq_true] at h
      have := sumS_nonneg a h.1.1
      exact ⟨h.1.2, by omega⟩
  · refine .inr ⟨if_neg fun h => ha ?_, .inl (if_neg ha)⟩
    rw [Bool.and_eq_true] at h
    have := sumS_nonneg b h.1.2
    exact ⟨h.1.1, by omega⟩

theorem Stakes.sub {vs us : List (Int × ByteArray)} (h : Stakes vs) (hs : ∀ v ∈ us, v ∈ vs) : Stakes us := fun v hv => h v (hs v hv)
theorem vc_drop (vs : List (Int × ByteArray)) (i : Nat) : vc (vs.drop i) = (vc vs).drop (i * 2) := by
  induction i generalizing vs with
  | zero => simp
  | succ i ih =>
    cases vs with
    | nil => simp [vc]
    | cons v r => rw [List.drop_succ_cons, ih r, show (i + 1) * 2 = i * 2 + 1 + 1 by omega]; rfl
theorem vc_take (vs : List (Int × ByteArray)) (i : Nat) : vc (vs.take i) = (vc vs).take (i * 2) := by
  induction i generalizing vs with
  | zero => simp [vc]
  | succ i ih =>
    cases vs with
    | nil => simp [vc]
    | cons v r =>
      rw [List.take_succ_cons, show (i + 1) * 2 = i * 2 + 1 + 1 by omega]
      show Value.int .i64 v.1 :: Value.string v.2 :: vc (r.take i) = _
      rw [ih r]
      rfl
theorem Try.info40 : (Try.prog.info? 40).map (fun i => (i.zero, i.size, i.bytes)) = some (some (.agg #[.int .i64 0, .string ⟨#[]⟩]), 2, 24) := by kernel_rfl

set_option maxRecDepth 100000 in
set_option maxHeartbeats 8000000 in
theorem totals_in (w : World) (nao : Option Addr) (nlen ncap b off i : Nat) (n1 n2 n3 n4 n5 n6 n7 n8 n9 n10 n11 : Int) (vs : List (Int × ByteArray)) (hl : vs.length = nlen) (hcap : nlen ≤ ncap) (hi : i ≤ nlen) (hlen : nlen ≤ 100) (hgr : tooMuch vs = false) (hst : Stakes vs) (hs : Lies w w.heap.size nao b off (vc vs)) :
    Calls Try.prog 5 #[.agg #[.slice nao nlen ncap, .int .i64 n1, .int .i64 n2, .int .i64 n3, .int .i64 n4, .int .i64 n5, .int .i64 n6, .int .i64 n7, .int .i64 n8, .int .i64 n9, .int .i64 n10, .int .i64 n11], .int .i64 (i : Int)] w fun e w' => e = .returned (.bool true) ∧ Below w.heap.size w w' := by
  have c1 : ¬ ((i : Int) < 0) := by omega
  have c2 : ¬ ((nlen : Int) < (i : Int)) := by omega
  have HS := Lib.hid hs
  have HL := Lib.hid hl
  have HST := Lib.hid hst
  have HGR := Lib.hid hgr
  have HB0 := Lib.hid ((Below.refl w.heap.size w).alloc (Nat.le_refl _) (.cells #[.slice nao nlen ncap, .int .i64 n1, .int .i64 n2, .int .i64 n3, .int .i64 n4, .int .i64 n5, .int .i64 n6, .int .i64 n7, .int .i64 n8, .int .i64 n9, .int .i64 n10, .int .i64 n11] 24))
  have HK0 := Lib.hid (Blk.new w 24 #[.slice nao nlen ncap, .int .i64 n1, .int .i64 n2, .int .i64 n3, .int .i64 n4, .int .i64 n5, .int .i64 n6, .int .i64 n7, .int .i64 n8, .int .i64 n9, .int .i64 n10, .int .i64 n11])
  clear hs hl hst hgr
  go_enter Try.func5, Try.ntmps5
  go_wp2_with fail
  refine (alive_any _).mono ?_
  rintro e w1 ⟨rfl, hb1⟩
  have HK := Lib.hid (HK0.out.below hb1 (by simp))
  have HB := Lib.hid (HB0.out.trans (hb1.mono HB0.out.size))
  generalize w.heap.size = A at HK ⊢
  clear hb1 HK0 HB0
  obtain ⟨q0, q1, q2, q3, q4, q5, q6, q7, q8, q9, q10, q11⟩ := HK.out.twelve
  go_wp2_with fail
  refine (tooMuch_any w1 nao nlen ncap b off n1 n2 n3 n4 n5 n6 n7 n8 n9 n10 n11 vs HL.out ((HS.out.keep HB.out).more HB.out.size)).mono ?_
  rintro e w2 ⟨rfl, hb2⟩
  rw [HGR.out]
  have HK2 := Lib.hid (HK.out.below hb2 HK.out.lt)
  have HB2 := Lib.hid (HB.out.trans (hb2.mono HB.out.size))
  clear q0 q1 q2 q3 q4 q5 q6 q7 q8 q9 q10 q11 hb2 HK HB HGR
  have q0 := HK2.out.cell 0
  simp only [List.getElem?_cons_zero] at q0
  go_wp2_with fail
  refine (total_any w2 nao nlen ncap b off vs HL.out (by omega) HST.out ((HS.out.keep HB2.out).more HB2.out.size)).mono ?_
  rintro e w3 ⟨rfl, hb3⟩
  rw [totV_eq]
  obtain ⟨o, ho⟩ : ∃ o, o = totFrom 0 vs := ⟨_, rfl⟩
  rw [← ho]
  have HO := Lib.hid ho
  have HK3 := Lib.hid (HK2.out.below hb3 HK2.out.lt)
  have HB3 := Lib.hid (HB2.out.trans (hb3.mono HB2.out.size))
  clear q0 hb3 HK2 HB2 ho
  -- the two parts
  obtain ⟨ao1, e1⟩ : ∃ x, x = (if ncap = i then nao else nao.map (·.add (i * 2))) := ⟨_, rfl⟩
  obtain ⟨ao2, e2⟩ : ∃ x, x = (if ncap = 0 then nao else nao.map (·.add (0 * 2))) := ⟨_, rfl⟩
  have hsl1 : ∀ w', (Instr.sliceAt 22 (.slice nao nlen ncap) (some (.int .i64 (i : Int))) none none).run Try.prog w' = .ok (.slice ao1 (nlen - i) (ncap - i)) w' := fun w' => by
    rw [run_sliceAt_slice _ _ _ _ _ _ (by kernel_rfl), run_slice_l _ _ _ _ _ (by kernel_rfl) .i64 (i : Int) (by omega) (by omega)]
    rw [show Try.prog.elem 22 = 40 by kernel_rfl, show (sizeOf 40).run Try.prog w' = .ok 2 w' by kernel_rfl]
    simp only [Result.andThen, sliced, Int.toNat_natCast]
    rw [e1]
  have hsl2 : ∀ w', (Instr.sliceAt 22 (.slice nao nlen ncap) none (some (.int .i64 (i : Int))) none).run Try.prog w' = .ok (.slice ao2 i ncap) w' := fun w' => by
    rw [run_sliceAt_slice _ _ _ _ _ _ (by kernel_rfl), run_slice_h _ _ _ _ _ (by kernel_rfl) .i64 (i : Int) (by omega) (by omega)]
    rw [show Try.prog.elem 22 = 40 by kernel_rfl, show (sizeOf 40).run Try.prog w' = .ok 2 w' by kernel_rfl]
    simp only [Result.andThen, sliced, Int.toNat_natCast]
    rw [e2]
    rfl
  have hlv : (vc vs).length = nlen * 2 := by rw [vc_length, HL.out]
  have hL1 : Lies w w.heap.size ao1 b (off + i * 2) (vc (vs.drop i)) := by
    rw [vc_drop vs i]
    refine HS.out.drop (i * 2) ao1 fun h0 => ?_
    rw [List.length_drop, hlv] at h0
    rw [e1, if_neg (by omega), HS.out.addr (by omega)]
    simp [Addr.add]
  have hL2 : Lies w w.heap.size ao2 b off (vc (vs.take i)) := by
    rw [vc_take vs i]
    have h := HS.out.take (i * 2)
    refine ⟨fun h0 => ?_, h.lt, h.cells⟩
    rw [List.length_take, hlv] at h0
    rw [e2, if_neg (by omega), h.addr (by rw [List.length_take, hlv]; omega)]
    simp [Addr.add]
  have HL1 := Lib.hid hL1
  have HL2 := Lib.hid hL2
  have HN1 := Lib.hid (show (vs.drop i).length = nlen - i by rw [List.length_drop, HL.out])
  have HN2 := Lib.hid (show (vs.take i).length = i by rw [List.length_take, HL.out, Nat.min_eq_left hi])
  have HST1 := Lib.hid (HST.out.sub fun v (hv : v ∈ vs.drop i) => List.mem_of_mem_drop hv)
  have HST2 := Lib.hid (HST.out.sub fun v (hv : v ∈ vs.take i) => List.mem_of_mem_take hv)
  clear hL1 hL2 e1 e2 hlv
  have q0 := HK3.out.cell 0
  simp only [List.getElem?_cons_zero] at q0
  go_wp2_with fail
  refine (total_any w3 ao2 i ncap b off (vs.take i) HN2.out (by omega) HST2.out ((HL2.out.keep HB3.out).more HB3.out.size)).mono ?_
  rintro e w4 ⟨rfl, hb4⟩
  rw [totV_eq]
  obtain ⟨o2, ho2⟩ : ∃ o, o = totFrom 0 (vs.take i) := ⟨_, rfl⟩
  rw [← ho2]
  have HO2 := Lib.hid ho2
  have HK4 := Lib.hid (HK3.out.below hb4 HK3.out.lt)
  have HB4 := Lib.hid (HB3.out.trans (hb4.mono HB3.out.size))
  clear q0 hb4 HK3 HB3 ho2
  have q0 := HK4.out.cell 0
  simp only [List.getElem?_cons_zero] at q0
  go_wp2_with fail
  refine (total_any w4 ao1 (nlen - i) (ncap - i) b (off + i * 2) (vs.drop i) HN1.out (by omega) HST1.out ((HL1.out.keep HB4.out).more HB4.out.size)).mono ?_
  rintro e w5 ⟨rfl, hb5⟩
  rw [totV_eq]
  obtain ⟨o1, ho1⟩ : ∃ o, o = totFrom 0 (vs.drop i) := ⟨_, rfl⟩
  rw [← ho1]
  have HO1 := Lib.hid ho1
  have HK := Lib.hid (HK4.out.below hb5 HK4.out.lt)
  have HB := Lib.hid (HB4.out.trans (hb5.mono HB4.out.size))
  clear q0 hb5 HK4 HB4 ho1
  obtain ⟨i0, hi0, hz0, hz1, hz2⟩ := info_parts Try.info40
  have hzc : (Value.agg #[.int .i64 0, .string ⟨#[]⟩]).cells.size = 2 := by rfl
  have HTT := Lib.hid (show totFrom 0 (vs.drop i ++ vs.take i) = o by rw [HO.out, tot_turned, List.take_append_drop])
  have HN3 := Lib.hid (show (vs.drop i ++ vs.take i).length = nlen by rw [List.length_append, HN1.out, HN2.out]; omega)
  have HST3 := Lib.hid (HST.out.sub fun v (hv : v ∈ vs.drop i ++ vs.take i) => by
    rcases List.mem_append.1 hv with h | h
    · exact List.mem_of_mem_drop h
    · exact List.mem_of_mem_take h)
  have HC1 := Lib.hid (show (vc (vs.drop i)).length = (nlen - i) * 2 by rw [vc_length, HN1.out])
  have HC2 := Lib.hid (show (vc (vs.take i)).length = i * 2 by rw [vc_length, HN2.out])
  obtain ⟨Z, hZ⟩ : ∃ Z, Z = o.getD 0 := ⟨_, rfl⟩
  obtain ⟨K, hK⟩ : ∃ K, K = o.isSome := ⟨_, rfl⟩
  have HV := Lib.hid (show totV o = .tuple #[.int .i64 Z, .bool K] by rw [totV_eq, hZ, hK])
  rw [← hZ, ← hK]
  have HZ := Lib.hid hZ
  have HKK := Lib.hid hK
  clear hZ hK
  go_wp2_with fail
  refine wp_region_freeK (P := Try.prog) 16 (fun w' => Below w5.heap.size w5 w') (fun oq v w' => match oq with
      | 0 => ∃ g, v = .slice (some ⟨g, 0, none⟩) 0 0 ∧ Wide 2 w' w5.heap.size v []
      | 1 => v = .pointer (some ⟨A, 0, none⟩)
      | 2 => v = .slice nao nlen ncap
      | 3 => v = .int .i64 (i : Int)
      | 4 => v = .slice ao1 (nlen - i) (ncap - i)
      | 5 => Wide 2 w' w5.heap.size v (vc (vs.drop i))
      | 6 => v = .pointer (some ⟨A, 0, none⟩)
      | 7 => v = .slice nao nlen ncap
      | 8 => v = .int .i64 (i : Int)
      | 9 => v = .slice ao2 i ncap
      | 10 => Wide 2 w' w5.heap.size v (vc (vs.drop i ++ vs.take i))
      | 11 => v = .tuple #[.int .i64 Z, .bool K]
      | 12 => v = .tuple #[.int .i64 Z, .bool K]
      | 13 => v = .int .i64 Z
      | 14 => v = .bool K
      | 15 => v = .int .i64 Z
      | _ => True) (fun hh oq => match oq with
      | 0 => hh 5
      | 5 => hh 10
      | _ => false) [(5, 0), (11, 10)] (by kernel_rfl) (by kernel_rfl) (by kernel_rfl) (Below.refl _ _).drew ?gb ?vb ?db ?steps ?fin
  case gb => exact fun a b h1 h2 => h1.trans (h2.mono h1.size)
  case vb =>
    intro oq v a b h hb
    match oq with
    | 0 => obtain ⟨g, h1, h2⟩ := h; exact ⟨g, h1, h2.below hb⟩
    | 1 => exact h
    | 2 => exact h
    | 3 => exact h
    | 4 => exact h
    | 5 => exact Wide.below h hb
    | 6 => exact h
    | 7 => exact h
    | 8 => exact h
    | 9 => exact h
    | 10 => exact Wide.below h hb
    | 11 => exact h
    | 12 => exact h
    | 13 => exact h
    | 14 => exact h
    | 15 => exact h
    | _ + 16 => trivial
  case db =>
    intro hh i oq h
    split at h
    · exact turnOn_of h
    · exact turnOn_of h
    · cases h
  case steps =>
    intro vals
    simp only [List.take_succ_cons, List.take_zero, freeStepsK, Act.put, List.setIfInBounds_toArray, List.set_cons_zero, List.set_cons_succ, Nat.reduceAdd]
    refine ⟨fun hh w8 hi hK hG hW hV => ?_, fun hh w8 hi hK hG hW hV => ?_, fun hh w8 hi hK hG hW hV => ?_, fun hh w8 hi hK hG hW hV => ?_, fun hh w8 hi hK hG hW hV => ?_, fun hh w8 hi hK hG hW hV => ?_, fun hh w8 hi hK hG hW hV => ?_, fun hh w8 hi hK hG hW hV => ?_, fun hh w8 hi hK hG hW hV => ?_, fun hh w8 hi hK hG hW hV => ?_, fun hh w8 hi hK hG hW hV => ?_, fun hh w8 hi hK hG hW hV => ?_, fun hh w8 hi hK hG hW hV => ?_, fun hh w8 hi hK hG hW hV => ?_, fun hh w8 hi hK hG hW hV => ?_, fun hh w8 hi hK hG hW hV => ?_, trivial⟩
    · clear hW hV hK hi
      refine stepAt_value rfl rfl rfl (.slice (some ⟨w8.heap.size, 0, none⟩) 0 0) (w8.alloc (.cells #[] 40)) (by go_simp) ⟨⟨_, rfl, (wide_empty 2 w8 40 _ (Nat.le_refl _)).mono hG.size⟩, .inl ((Below.refl _ _).alloc (Nat.le_refl _) _)⟩
    · clear hW hV hK hi
      refine stepAt_value rfl rfl rfl (.pointer (some ⟨A, 0, none⟩)) w8 ?_ ⟨rfl, .inl (Below.refl _ _)⟩
      go_simp
    · have q1 := hV 1 (hW 1 (by decide)) rfl
      simp only at q1
      rw [q1]
      clear hW hV hK hi
      refine stepAt_value rfl rfl rfl (.slice nao nlen ncap) w8 ?_ ⟨rfl, .inl (Below.refl _ _)⟩
      have q0 := (HK.out.below hG HK.out.lt).cell 0
      simp only [List.getElem?_cons_zero] at q0
      go_simp
    · clear hW hV hK hi
      refine stepAt_value rfl rfl rfl (.int .i64 (i : Int)) w8 ?_ ⟨rfl, .inl (Below.refl _ _)⟩
      go_simp
    · have q2 := hV 2 (hW 2 (by decide)) rfl
      simp only at q2
      have q3 := hV 3 (hW 3 (by decide)) rfl
      simp only at q3
      rw [q2, q3]
      clear hW hV hK hi
      refine stepAt_value rfl rfl rfl (.slice ao1 (nlen - i) (ncap - i)) w8 ?_ ⟨rfl, .inl (Below.refl _ _)⟩
      have h1 := hsl1 w8
      go_simp
    · obtain ⟨g0, q0, hw0⟩ := hV 0 (hW 0 (by decide)) hi
      have q4 := hV 4 (hW 4 (by decide)) rfl
      simp only at q4
      rw [q0, q4]
      clear hW hV hK hi
      refine stepAt_append_wide rfl rfl rfl _ _ 22 22 rfl rfl (by rw [q0] at hw0; exact hw0) (by omega) 40 i0 (.agg #[.int .i64 0, .string ⟨#[]⟩]) 24 Try.underlying22 hi0 hz0 hz1 hz2 hzc _ rfl (nlen - i) (vc (vs.drop i)) ((HL1.out.keep (HB.out.trans (hG.mono HB.out.size))).src (ncap - i) 22 40 Try.underlying22 HC1.out (vc_one _) (by omega)) ?_ ?_ hG.size fun v' w' h1 h2 h3 => ⟨by simpa using h1, .inl (h3 ⟨_, _, rfl⟩)⟩
      · unfold maxLen; simp; omega
      · simp; omega
    · clear hW hV hK hi
      refine stepAt_value rfl rfl rfl (.pointer (some ⟨A, 0, none⟩)) w8 ?_ ⟨rfl, .inl (Below.refl _ _)⟩
      go_simp
    · have q6 := hV 6 (hW 6 (by decide)) rfl
      simp only at q6
      rw [q6]
      clear hW hV hK hi
      refine stepAt_value rfl rfl rfl (.slice nao nlen ncap) w8 ?_ ⟨rfl, .inl (Below.refl _ _)⟩
      have q0 := (HK.out.below hG HK.out.lt).cell 0
      simp only [List.getElem?_cons_zero] at q0
      go_simp
    · clear hW hV hK hi
      refine stepAt_value rfl rfl rfl (.int .i64 (i : Int)) w8 ?_ ⟨rfl, .inl (Below.refl _ _)⟩
      go_simp
    · have q7 := hV 7 (hW 7 (by decide)) rfl
      simp only at q7
      have q8 := hV 8 (hW 8 (by decide)) rfl
      simp only at q8
      rw [q7, q8]
      clear hW hV hK hi
      refine stepAt_value rfl rfl rfl (.slice ao2 i ncap) w8 ?_ ⟨rfl, .inl (Below.refl _ _)⟩
      have h1 := hsl2 w8
      go_simp
    · have q9 := hV 9 (hW 9 (by decide)) rfl
      simp only at q9
      rw [q9]
      have hw5 := hV 5 (hW 5 (by decide)) hi
      simp only at hw5
      have h5 := hW 5 (by decide)
      have h0 := hK 5 0 (by decide) h5
      refine stepAt_append_wide rfl rfl rfl _ _ 22 22 rfl rfl hw5 (by omega) 40 i0 (.agg #[.int .i64 0, .string ⟨#[]⟩]) 24 Try.underlying22 hi0 hz0 hz1 hz2 hzc _ rfl i (vc (vs.take i)) ((HL2.out.keep (HB.out.trans (hG.mono HB.out.size))).src ncap 22 40 Try.underlying22 HC2.out (vc_one _) (by omega)) ?_ ?_ hG.size fun v' w' h1 h2 _ => ⟨by rw [vc_append]; exact h1, .inr ⟨hG.trans (h2.belowW hw5 hG.size), fun j hj hd => ?_⟩⟩
      · unfold maxLen; rw [HC1.out]; omega
      · rw [HC1.out]; omega
      match j, hj, hd with
      | 0, _, hd => simp only [turnOn_ne (show (5 : Nat) ≠ 10 by omega), h5] at hd; cases hd
      | 1, hj, _ => exact hV 1 hj rfl
      | 2, hj, _ => exact hV 2 hj rfl
      | 3, hj, _ => exact hV 3 hj rfl
      | 4, hj, _ => exact hV 4 hj rfl
      | 5, _, hd => simp only [turnOn_self] at hd; cases hd
      | 6, hj, _ => exact hV 6 hj rfl
      | 7, hj, _ => exact hV 7 hj rfl
      | 8, hj, _ => exact hV 8 hj rfl
      | 9, hj, _ => exact hV 9 hj rfl
      | 10, hj, _ => rw [hi] at hj; cases hj
      | 11, hj, _ => exact hV 11 hj rfl
      | 12, hj, _ => exact hV 12 hj rfl
      | 13, hj, _ => exact hV 13 hj rfl
      | 14, hj, _ => exact hV 14 hj rfl
      | 15, hj, _ => exact hV 15 hj rfl
      | _ + 16, _, _ => trivial
    · have hw10 := hV 10 (hW 10 (by decide)) rfl
      simp only at hw10
      generalize vals 10 = v10 at hw10 ⊢
      obtain ⟨xo, xn, xc, xb, xf, e10, hn10, hl10⟩ := hw10.lies
      rw [vc_length, HN3.out] at hn10
      have hnx : xn = nlen := by omega
      subst hnx
      rw [e10]
      refine stepAt_call rfl rfl rfl 10 #[.slice xo xn xc] (by go_simp) ((total_any w8 xo xn xc xb xf (vs.drop i ++ vs.take i) HN3.out (by omega) HST3.out hl10).mono fun e w' ⟨h1, h2⟩ => ⟨_, h1, (congrArg totV HTT.out).trans HV.out, .inl h2⟩)
    · have q11 := hV 11 (hW 11 (by decide)) rfl
      simp only at q11
      rw [q11]
      clear hW hV hK hi
      refine stepAt_value rfl rfl rfl (.tuple #[.int .i64 Z, .bool K]) w8 ?_ ⟨rfl, .inl (Below.refl _ _)⟩
      go_simp
    · have q12 := hV 12 (hW 12 (by decide)) rfl
      simp only at q12
      rw [q12]
      clear hW hV hK hi
      refine stepAt_value rfl rfl rfl (.int .i64 Z) w8 ?_ ⟨rfl, .inl (Below.refl _ _)⟩
      go_simp
    · have q12 := hV 12 (hW 12 (by decide)) rfl
      simp only at q12
      rw [q12]
      clear hW hV hK hi
      refine stepAt_value rfl rfl rfl (.bool K) w8 ?_ ⟨rfl, .inl (Below.refl _ _)⟩
      go_simp
    · have q13 := hV 13 (hW 13 (by decide)) rfl
      simp only at q13
      rw [q13]
      clear hW hV hK hi
      refine stepAt_value rfl rfl rfl (.int .i64 Z) w8 ?_ ⟨rfl, .inl (Below.refl _ _)⟩
      go_simp
  case fin =>
    intro hh vals w10 hall hG hV
    have q15 := hV 15 (hall 15 (by omega)) rfl
    have q14 := hV 14 (hall 14 (by omega)) rfl
    simp only at q15 q14
    simp only [List.take_succ_cons, List.take_zero, List.drop_succ_cons, List.drop_zero, putAll, Act.put, List.setIfInBounds_toArray, List.set_cons_zero, List.set_cons_succ, Nat.reduceAdd]
    rw [q15, q14]
    have HBF := Lib.hid (HB.out.trans (hG.mono HB.out.size))
    clear hV q15 q14 HK
    generalize vals 0 = x0
    generalize vals 1 = x1
    generalize vals 2 = x2
    generalize vals 3 = x3
    generalize vals 4 = x4
    generalize vals 5 = x5
    generalize vals 6 = x6
    generalize vals 7 = x7
    generalize vals 8 = x8
    generalize vals 9 = x9
    generalize vals 10 = x10
    generalize vals 11 = x11
    generalize vals 12 = x12
    generalize vals 13 = x13
    clear hsl1 hsl2 vals hall hh hG HS HL1 HL2 hi0 hz0 hz1 hz2 hzc
    have hp := tot_parts (vs.take i) (vs.drop i)
    rw [List.take_append_drop, ← HO.out, ← HO1.out, ← HO2.out] at hp
    rcases hp with ⟨x, y, e2, e1, hx, hy, hxy, e⟩ | ⟨e, e2 | e1 | ⟨x, y, e2, e1, hx, hx', hy, hy', hxy⟩⟩
    · subst e2 e1 e
      rw [HZ.out, HKK.out]
      simp only [Option.getD_some, Option.isSome_some]
      clear HZ HKK HV HO HO1 HO2 HTT
      go_wp2_with fail
      go_ret
      exact ⟨rfl, HBF.out⟩
    · subst e2 e
      rw [HZ.out, HKK.out]
      simp only [Option.getD_none, Option.isSome_none]
      clear HZ HKK HV HO HO1 HO2 HTT
      go_wp2_with fail
      go_ret
      exact ⟨rfl, HBF.out⟩
    · subst e1 e
      rw [HZ.out, HKK.out]
      simp only [Option.getD_none, Option.isSome_none]
      clear HZ HKK HV HO HO1 HO2 HTT
      cases o2 with
      | none =>
        simp only [Option.getD_none, Option.isSome_none]
        go_wp2_with fail
        go_ret
        exact ⟨rfl, HBF.out⟩
      | some z =>
        simp only [Option.getD_some, Option.isSome_some]
        go_wp2_with fail
        go_ret
        exact ⟨rfl, HBF.out⟩
    · subst e2 e1 e
      rw [HZ.out, HKK.out]
      simp only [Option.getD_some, Option.isSome_some, Option.getD_none, Option.isSome_none]
      clear HZ HKK HV HO HO1 HO2 HTT
      have u1 : IntKind.u64.wrap x = x := by rw [IntKind.wrap_u64]; omega
      have u2 : IntKind.u64.wrap y = y := by rw [IntKind.wrap_u64]; omega
      have u3 : (x + y) % 18446744073709551616 = x + y := by omega
      go_wp2_with fail
      go_ret
      exact ⟨rfl, HBF.out⟩

set_option maxRecDepth 100000 in
set_option maxHeartbeats 4000000 in
theorem totals_out (w : World) (nao : Option Addr) (nlen ncap b off : Nat) (n1 n2 n3 n4 n5 n6 n7 n8 n9 n10 n11 : Int) (vs : List (Int × ByteArray)) (cut : Int) (hl : vs.length = nlen) (h : tooMuch vs = true ∨ cut < 0 ∨ (nlen : Int) < cut) (hs : Lies w w.heap.size nao b off (vc vs)) :
    Calls Try.prog 5 #[.agg #[.slice nao nlen ncap, .int .i64 n1, .int .i64 n2, .int .i64 n3, .int .i64 n4, .int .i64 n5, .int .i64 n6, .int .i64 n7, .int .i64 n8, .int .i64 n9, .int .i64 n10, .int .i64 n11], .int .i64 cut] w fun e w' => e = .returned (.bool true) ∧ Below w.heap.size w w' := by
  have HS := Lib.hid hs
  have HL := Lib.hid hl
  have HH := Lib.hid h
  have HB0 := Lib.hid ((Below.refl w.heap.size w).alloc (Nat.le_refl _) (.cells #[.slice nao nlen ncap, .int .i64 n1, .int .i64 n2, .int .i64 n3, .int .i64 n4, .int .i64 n5, .int .i64 n6, .int .i64 n7, .int .i64 n8, .int .i64 n9, .int .i64 n10, .int .i64 n11] 24))
  have HK0 := Lib.hid (Blk.new w 24 #[.slice nao nlen ncap, .int .i64 n1, .int .i64 n2, .int .i64 n3, .int .i64 n4, .int .i64 n5, .int .i64 n6, .int .i64 n7, .int .i64 n8, .int .i64 n9, .int .i64 n10, .int .i64 n11])
  clear hs hl h
  go_enter Try.func5, Try.ntmps5
  go_wp2_with fail
  refine (alive_any _).mono ?_
  rintro e w1 ⟨rfl, hb1⟩
  have HK := Lib.hid (HK0.out.below hb1 (by simp))
  have HB := Lib.hid (HB0.out.trans (hb1.mono HB0.out.size))
  generalize w.heap.size = A at HK ⊢
  clear hb1 HK0 HB0
  obtain ⟨q0, q1, q2, q3, q4, q5, q6, q7, q8, q9, q10, q11⟩ := HK.out.twelve
  go_wp2_with fail
  refine (tooMuch_any w1 nao nlen ncap b off n1 n2 n3 n4 n5 n6 n7 n8 n9 n10 n11 vs HL.out ((HS.out.keep HB.out).more HB.out.size)).mono ?_
  rintro e w2 ⟨rfl, hb2⟩
  have HK2 := Lib.hid (HK.out.below hb2 HK.out.lt)
  have HB2 := Lib.hid (HB.out.trans (hb2.mono HB.out.size))
  clear q0 q1 q2 q3 q4 q5 q6 q7 q8 q9 q10 q11 hb2 HK HB
  have q0 := HK2.out.cell 0
  simp only [List.getElem?_cons_zero] at q0
  cases hg : tooMuch vs with
  | true =>
    clear hg
    go_wp2_with fail
    go_ret
    exact ⟨rfl, HB2.out⟩
  | false =>
    have h2 := HH.out
    rw [hg] at h2
    clear hg HH
    by_cases h3 : cut < 0
    · clear h2
      go_wp2_with fail
      go_ret
      exact ⟨rfl, HB2.out⟩
    · have h4 : (nlen : Int) < cut := by
        rcases h2 with h2 | h2 | h2
        · cases h2
        · exact absurd h2 h3
        · exact h2
      clear h2
      go_wp2_with fail
      go_ret
      exact ⟨rfl, HB2.out⟩

theorem totals_any (w : World) (nao : Option Addr) (nlen ncap b off : Nat) (n1 n2 n3 n4 n5 n6 n7 n8 n9 n10 n11 : Int) (vs : List (Int × ByteArray)) (cut : Int) (hl : vs.length = nlen) (hcap : nlen ≤ ncap) (hst : Stakes vs) (hs : Lies w w.heap.size nao b off (vc vs)) :
    Calls Try.prog 5 #[.agg #[.slice nao nlen ncap, .int .i64 n1, .int .i64 n2, .int .i64 n3, .int .i64 n4, .int .i64 n5, .int .i64 n6, .int .i64 n7, .int .i64 n8, .int .i64 n9, .int .i64 n10, .int .i64 n11], .int .i64 cut] w fun e w' => e = .returned (.bool true) ∧ Below w.heap.size w w' := by
  by_cases h : tooMuch vs = true ∨ cut < 0 ∨ (nlen : Int) < cut
  · exact totals_out w nao nlen ncap b off n1 n2 n3 n4 n5 n6 n7 n8 n9 n10 n11 vs cut hl h hs
  · obtain ⟨i, rfl⟩ : ∃ i : Nat, cut = (i : Int) := ⟨cut.toNat, by omega⟩
    have hg : tooMuch vs = false := by
      cases hg : tooMuch vs with
      | false => rfl
      | true => exact absurd (.inl hg) h
    refine totals_in w nao nlen ncap b off i n1 n2 n3 n4 n5 n6 n7 n8 n9 n10 n11 vs hl hcap (by omega) ?_ hg hst hs
    rw [← hl]
    simp [tooMuch] at hg
    omega
end Go.Proofs.Ytacoaiaddnlnaaa
