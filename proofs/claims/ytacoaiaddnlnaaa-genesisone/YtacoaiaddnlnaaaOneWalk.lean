/-
  Two configurations that can be have the same bytes just if they are the same; the walk of GenesisOne.
-/
import Derived.Test.YtacoaiaddnlnaaaRefSame
import Derived.Test.YtacoaiaddnlnaaaOpenCfg
namespace Go.Proofs.Ytacoaiaddnlnaaa
open Go.RowKit

theorem leB_inj {a b k : Nat} (ha : a < 256 ^ k) (hb : b < 256 ^ k) (h : leB a k = leB b k) : a = b := by
  have := congrArg leN h
  rw [leN_leB, leN_leB, Nat.mod_eq_of_lt ha, Nat.mod_eq_of_lt hb] at this
  exact this
theorem beq_dec (a b : List UInt8) : (a == b) = decide (a = b) := by by_cases h : a = b <;> simp [h]
theorem append_same {α : Type} {a b c d : List α} (hl : a.length = c.length) (h : a ++ b = c ++ d) : a = c ∧ b = d := List.append_inj h hl

theorem numsB_inj : ∀ a b : List (Int × Int), a.length = b.length → (∀ v ∈ a, 0 ≤ v.1 ∧ v.1 < 4294967296) → (∀ v ∈ b, 0 ≤ v.1 ∧ v.1 < 4294967296) → numsB a = numsB b → a.map (·.1) = b.map (·.1)
  | [], [], _, _, _, _ => rfl
  | [], _ :: _, h, _, _, _ => by simp at h
  | _ :: _, [], h, _, _, _ => by simp at h
  | x :: a, y :: b, hl, ha, hb, h => by
    have e : ∀ (u : Int × Int) (r : List (Int × Int)), numsB (u :: r) = leB u.1.toNat 4 ++ numsB r := fun _ _ => rfl
    rw [e, e] at h
    obtain ⟨h1, h2⟩ := append_same (by rw [leB_length, leB_length]) h
    have hx := ha x List.mem_cons_self
    have hy := hb y List.mem_cons_self
    have := leB_inj (by omega) (by omega) h1
    rw [List.map_cons, List.map_cons, numsB_inj a b (by simpa using hl) (fun v hv => ha v (List.mem_cons_of_mem _ hv)) (fun v hv => hb v (List.mem_cons_of_mem _ hv)) h2, show x.1 = y.1 by omega]
theorem valsB_inj : ∀ a b : List (Int × ByteArray), a.length = b.length → (∀ v ∈ a, can v = true) → (∀ v ∈ b, can v = true) → Stakes a → Stakes b → valsB a = valsB b → a = b
  | [], [], _, _, _, _, _, _ => rfl
  | [], _ :: _, h, _, _, _, _, _ => by simp at h
  | _ :: _, [], h, _, _, _, _, _ => by simp at h
  | (x, k) :: a, (y, l) :: b, hl, ha, hb, sa, sb, h => by
    have e : ∀ (u : (Int × ByteArray)) (r : List (Int × ByteArray)), valsB (u :: r) = leB u.1.toNat 8 ++ (leB u.2.size 1 ++ (u.2.data.toList ++ valsB r)) := fun u r => by
      show valB u ++ valsB r = _
      simp [valB]
    rw [e, e] at h
    have hx := ha _ List.mem_cons_self
    have hy := hb _ List.mem_cons_self
    simp only [can, Bool.and_eq_true, decide_eq_true_eq] at hx hy
    have sx := sa _ List.mem_cons_self
    have sy := sb _ List.mem_cons_self
    simp only at sx sy h
    obtain ⟨h1, h2⟩ := append_same (by rw [leB_length, leB_length]) h
    obtain ⟨h3, h4⟩ := append_same (by rw [leB_length, leB_length]) h2
    have e1 := leB_inj (by omega) (by omega) h1
    have e2 := leB_inj (by omega) (by omega) h3
    obtain ⟨h5, h6⟩ := append_same (show k.data.toList.length = l.data.toList.length by rw [Array.length_toList, Array.length_toList]; exact e2) h4
    rw [show x = y by omega, show k = l from ByteArray.ext (Array.toList_inj.1 h5), valsB_inj a b (by simpa using hl) (fun v hv => ha v (List.mem_cons_of_mem _ hv)) (fun v hv => hb v (List.mem_cons_of_mem _ hv)) (fun v hv => sa v (List.mem_cons_of_mem _ hv)) (fun v hv => sb v (List.mem_cons_of_mem _ hv)) h6]

/-- The bytes are the same just if the configurations are. -/
theorem cfgB_same (nlen mlen : Nat) (n1 n2 n3 n4 n5 n6 n7 n8 n9 n10 n11 m1 m2 m3 m4 m5 m6 m7 m8 m9 m10 m11 : Int) (vs us : List (Int × ByteArray)) (hl : vs.length = nlen) (hl2 : us.length = mlen) (hst : Stakes vs) (hst2 : Stakes us) (hg : goodB (nums nlen n1 n2 n3 n4 n5 n6 n7 n8 n9 n10 n11) vs = true) (hg2 : goodB (nums mlen m1 m2 m3 m4 m5 m6 m7 m8 m9 m10 m11) us = true) :
    sameB (nums nlen n1 n2 n3 n4 n5 n6 n7 n8 n9 n10 n11) (nums mlen m1 m2 m3 m4 m5 m6 m7 m8 m9 m10 m11) vs us = decide (cfgB (nums nlen n1 n2 n3 n4 n5 n6 n7 n8 n9 n10 n11) vs = cfgB (nums mlen m1 m2 m3 m4 m5 m6 m7 m8 m9 m10 m11) us) := by
  have key : cfgB (nums nlen n1 n2 n3 n4 n5 n6 n7 n8 n9 n10 n11) vs = cfgB (nums mlen m1 m2 m3 m4 m5 m6 m7 m8 m9 m10 m11) us ↔ nums nlen n1 n2 n3 n4 n5 n6 n7 n8 n9 n10 n11 = nums mlen m1 m2 m3 m4 m5 m6 m7 m8 m9 m10 m11 ∧ vs = us := by
    constructor
    · intro h
      obtain ⟨h1, h2⟩ := append_same (by rw [numsB_length, numsB_length]; rfl) h
      have e1 := numsB_inj (nums nlen n1 n2 n3 n4 n5 n6 n7 n8 n9 n10 n11) (nums mlen m1 m2 m3 m4 m5 m6 m7 m8 m9 m10 m11) rfl (fun v hv => by have := goodB_nums hg hv; have := nums_most hv; omega) (fun v hv => by have := goodB_nums hg2 hv; have := nums_most hv; omega) h1
      simp only [nums, List.map_cons, List.map_nil, List.cons.injEq, and_true] at e1
      obtain ⟨rfl, rfl, rfl, rfl, rfl, rfl, rfl, rfl, rfl, rfl, rfl, e12⟩ := e1
      have e13 : nlen = mlen := by omega
      exact ⟨by rw [e13], valsB_inj vs us (by omega) (goodB_can hg) (goodB_can hg2) hst hst2 h2⟩
    · rintro ⟨h1, h2⟩
      rw [h1, h2]
  rw [sameB, ← Bool.decide_and]
  exact decide_eq_decide.2 key.symm

set_option maxRecDepth 100000 in
set_option maxHeartbeats 8000000 in
theorem one_any (w : World) (nao mao : Option Addr) (nlen mlen ncap mcap nb mb noff moff : Nat) (n1 n2 n3 n4 n5 n6 n7 n8 n9 n10 n11 m1 m2 m3 m4 m5 m6 m7 m8 m9 m10 m11 : Int) (vs us : List (Int × ByteArray)) (hl : vs.length = nlen) (hl2 : us.length = mlen) (hst : Stakes vs) (hst2 : Stakes us)
    (hs : Lies w w.heap.size nao nb noff (vc vs)) (hs2 : Lies w w.heap.size mao mb moff (vc us)) :
    Calls Try.prog 4 #[.agg #[.slice nao nlen ncap, .int .i64 n1, .int .i64 n2, .int .i64 n3, .int .i64 n4, .int .i64 n5, .int .i64 n6, .int .i64 n7, .int .i64 n8, .int .i64 n9, .int .i64 n10, .int .i64 n11], .agg #[.slice mao mlen mcap, .int .i64 m1, .int .i64 m2, .int .i64 m3, .int .i64 m4, .int .i64 m5, .int .i64 m6, .int .i64 m7, .int .i64 m8, .int .i64 m9, .int .i64 m10, .int .i64 m11]] w fun e w' => e = .returned (.bool true) ∧ Below w.heap.size w w' := by
  have HSn := Lib.hid hs
  have HSm := Lib.hid hs2
  have HLn := Lib.hid hl
  have HLm := Lib.hid hl2
  have HSTn := Lib.hid hst
  have HSTm := Lib.hid hst2
  have HB0 := Lib.hid (((Below.refl w.heap.size w).alloc (Nat.le_refl _) (.cells #[.slice nao nlen ncap, .int .i64 n1, .int .i64 n2, .int .i64 n3, .int .i64 n4, .int .i64 n5, .int .i64 n6, .int .i64 n7, .int .i64 n8, .int .i64 n9, .int .i64 n10, .int .i64 n11] 24)).alloc (by simp) (.cells #[.slice mao mlen mcap, .int .i64 m1, .int .i64 m2, .int .i64 m3, .int .i64 m4, .int .i64 m5, .int .i64 m6, .int .i64 m7, .int .i64 m8, .int .i64 m9, .int .i64 m10, .int .i64 m11] 24))
  have HKn0 := Lib.hid ((Blk.new w 24 #[.slice nao nlen ncap, .int .i64 n1, .int .i64 n2, .int .i64 n3, .int .i64 n4, .int .i64 n5, .int .i64 n6, .int .i64 n7, .int .i64 n8, .int .i64 n9, .int .i64 n10, .int .i64 n11]).alloc (.cells #[.slice mao mlen mcap, .int .i64 m1, .int .i64 m2, .int .i64 m3, .int .i64 m4, .int .i64 m5, .int .i64 m6, .int .i64 m7, .int .i64 m8, .int .i64 m9, .int .i64 m10, .int .i64 m11] 24))
  have HKm0 := Lib.hid (Blk.newAt (w.alloc (.cells #[.slice nao nlen ncap, .int .i64 n1, .int .i64 n2, .int .i64 n3, .int .i64 n4, .int .i64 n5, .int .i64 n6, .int .i64 n7, .int .i64 n8, .int .i64 n9, .int .i64 n10, .int .i64 n11] 24)) 24 #[.slice mao mlen mcap, .int .i64 m1, .int .i64 m2, .int .i64 m3, .int .i64 m4, .int .i64 m5, .int .i64 m6, .int .i64 m7, .int .i64 m8, .int .i64 m9, .int .i64 m10, .int .i64 m11] (w.heap.size + 1) (by simp))
  clear hs hs2 hl hl2 hst hst2
  go_enter Try.func4, Try.ntmps4
  go_wp2_with fail
  generalize (w.alloc (.cells #[.slice nao nlen ncap, .int .i64 n1, .int .i64 n2, .int .i64 n3, .int .i64 n4, .int .i64 n5, .int .i64 n6, .int .i64 n7, .int .i64 n8, .int .i64 n9, .int .i64 n10, .int .i64 n11] 24)).alloc (.cells #[.slice mao mlen mcap, .int .i64 m1, .int .i64 m2, .int .i64 m3, .int .i64 m4, .int .i64 m5, .int .i64 m6, .int .i64 m7, .int .i64 m8, .int .i64 m9, .int .i64 m10, .int .i64 m11] 24) = w0 at HB0 HKn0 HKm0 ⊢
  generalize w.heap.size + 1 = A2 at HKm0 ⊢
  generalize w.heap.size = A at HKn0 ⊢
  refine (alive_any _).mono ?_
  rintro e w1 ⟨rfl, hb1⟩
  have HKn1 := Lib.hid (HKn0.out.below hb1 HKn0.out.lt)
  have HKm1 := Lib.hid (HKm0.out.below hb1 HKm0.out.lt)
  have HB1 := Lib.hid (HB0.out.trans (hb1.mono HB0.out.size))
  clear hb1 HKn0 HKm0 HB0
  obtain ⟨q0, q1, q2, q3, q4, q5, q6, q7, q8, q9, q10, q11⟩ := HKn1.out.twelve
  go_wp2_with fail
  refine (tooMuch_any w1 nao nlen ncap nb noff n1 n2 n3 n4 n5 n6 n7 n8 n9 n10 n11 vs HLn.out ((HSn.out.keep HB1.out).more HB1.out.size)).mono ?_
  rintro e w2 ⟨rfl, hb2⟩
  have HKn2 := Lib.hid (HKn1.out.below hb2 HKn1.out.lt)
  have HKm2 := Lib.hid (HKm1.out.below hb2 HKm1.out.lt)
  have HB2 := Lib.hid (HB1.out.trans (hb2.mono HB1.out.size))
  clear q0 q1 q2 q3 q4 q5 q6 q7 q8 q9 q10 q11 hb2 HKn1 HKm1 HB1
  cases hgr : tooMuch vs with
  | true =>
    clear hgr
    go_wp2_with fail
    go_ret
    exact ⟨rfl, HB2.out⟩
  | false =>
  have hlen : nlen ≤ 100 := by rw [← HLn.out]; simp [tooMuch] at hgr; omega
  clear hgr
  obtain ⟨r0, r1, r2, r3, r4, r5, r6, r7, r8, r9, r10, r11⟩ := HKm2.out.twelve
  go_wp2_with fail
  refine (tooMuch_any w2 mao mlen mcap mb moff m1 m2 m3 m4 m5 m6 m7 m8 m9 m10 m11 us HLm.out ((HSm.out.keep HB2.out).more HB2.out.size)).mono ?_
  rintro e w3 ⟨rfl, hb3⟩
  have HKn3 := Lib.hid (HKn2.out.below hb3 HKn2.out.lt)
  have HKm3 := Lib.hid (HKm2.out.below hb3 HKm2.out.lt)
  have HB3 := Lib.hid (HB2.out.trans (hb3.mono HB2.out.size))
  clear r0 r1 r2 r3 r4 r5 r6 r7 r8 r9 r10 r11 hb3 HKn2 HKm2 HB2
  cases hgr : tooMuch us with
  | true =>
    clear hgr
    go_wp2_with fail
    go_ret
    exact ⟨rfl, HB3.out⟩
  | false =>
  have hlen2 : mlen ≤ 100 := by rw [← HLm.out]; simp [tooMuch] at hgr; omega
  clear hgr
  obtain ⟨q0, q1, q2, q3, q4, q5, q6, q7, q8, q9, q10, q11⟩ := HKn3.out.twelve
  go_wp2_with fail
  refine (refGood_any w3 nao nlen ncap nb noff n1 n2 n3 n4 n5 n6 n7 n8 n9 n10 n11 vs HLn.out (by omega) HSTn.out ((HSn.out.keep HB3.out).more HB3.out.size)).mono ?_
  rintro e w4 ⟨rfl, hb4⟩
  have HKn4 := Lib.hid (HKn3.out.below hb4 HKn3.out.lt)
  have HKm4 := Lib.hid (HKm3.out.below hb4 HKm3.out.lt)
  have HB4 := Lib.hid (HB3.out.trans (hb4.mono HB3.out.size))
  clear q0 q1 q2 q3 q4 q5 q6 q7 q8 q9 q10 q11 hb4 HKn3 HKm3 HB3
  cases hgd : goodB (nums nlen n1 n2 n3 n4 n5 n6 n7 n8 n9 n10 n11) vs with
  | false =>
    clear hgd
    go_wp2_with fail
    go_ret
    exact ⟨rfl, HB4.out⟩
  | true =>
  have HGDn := Lib.hid hgd
  clear hgd
  obtain ⟨r0, r1, r2, r3, r4, r5, r6, r7, r8, r9, r10, r11⟩ := HKm4.out.twelve
  go_wp2_with fail
  refine (refGood_any w4 mao mlen mcap mb moff m1 m2 m3 m4 m5 m6 m7 m8 m9 m10 m11 us HLm.out (by omega) HSTm.out ((HSm.out.keep HB4.out).more HB4.out.size)).mono ?_
  rintro e w5 ⟨rfl, hb5⟩
  have HKn := Lib.hid (HKn4.out.below hb5 HKn4.out.lt)
  have HKm := Lib.hid (HKm4.out.below hb5 HKm4.out.lt)
  have HB := Lib.hid (HB4.out.trans (hb5.mono HB4.out.size))
  clear r0 r1 r2 r3 r4 r5 r6 r7 r8 r9 r10 r11 hb5 HKn4 HKm4 HB4
  cases hgd : goodB (nums mlen m1 m2 m3 m4 m5 m6 m7 m8 m9 m10 m11) us with
  | false =>
    clear hgd
    go_wp2_with fail
    go_ret
    exact ⟨rfl, HB.out⟩
  | true =>
  have HGDm := Lib.hid hgd
  clear hgd
  obtain ⟨SA, hSA⟩ : ∃ S : ByteArray, S = ⟨(cfgB (nums nlen n1 n2 n3 n4 n5 n6 n7 n8 n9 n10 n11) vs).toArray⟩ := ⟨_, rfl⟩
  obtain ⟨SB, hSB⟩ : ∃ S : ByteArray, S = ⟨(cfgB (nums mlen m1 m2 m3 m4 m5 m6 m7 m8 m9 m10 m11) us).toArray⟩ := ⟨_, rfl⟩
  obtain ⟨EQ, hEQ⟩ : ∃ E : Bool, E = decide (cfgB (nums nlen n1 n2 n3 n4 n5 n6 n7 n8 n9 n10 n11) vs = cfgB (nums mlen m1 m2 m3 m4 m5 m6 m7 m8 m9 m10 m11) us) := ⟨_, rfl⟩
  have HSA := Lib.hid hSA
  have HSB := Lib.hid hSB
  have HSAME := Lib.hid (show sameB (nums nlen n1 n2 n3 n4 n5 n6 n7 n8 n9 n10 n11) (nums mlen m1 m2 m3 m4 m5 m6 m7 m8 m9 m10 m11) vs us = EQ by rw [hEQ]; exact cfgB_same nlen mlen n1 n2 n3 n4 n5 n6 n7 n8 n9 n10 n11 m1 m2 m3 m4 m5 m6 m7 m8 m9 m10 m11 vs us HLn.out HLm.out HSTn.out HSTm.out HGDn.out HGDm.out)
  have HEQ := Lib.hid (show (SA.toList == SB.toList) = EQ by
    rw [hSA, hSB, hEQ, ByteArray.toList_eq, ByteArray.toList_eq]
    exact beq_dec _ _)
  clear hSA hSB hEQ
  go_wp2_with fail
  refine wp_region_free (P := Try.prog) 9 (fun w' => Below w5.heap.size w5 w') (fun oq v w' => match oq with
      | 0 => v = .agg #[.slice nao nlen ncap, .int .i64 n1, .int .i64 n2, .int .i64 n3, .int .i64 n4, .int .i64 n5, .int .i64 n6, .int .i64 n7, .int .i64 n8, .int .i64 n9, .int .i64 n10, .int .i64 n11]
      | 1 => v = .string SA
      | 2 => v = .agg #[.slice mao mlen mcap, .int .i64 m1, .int .i64 m2, .int .i64 m3, .int .i64 m4, .int .i64 m5, .int .i64 m6, .int .i64 m7, .int .i64 m8, .int .i64 m9, .int .i64 m10, .int .i64 m11]
      | 3 => v = .string SB
      | 4 => v = .bool EQ
      | 5 => v = .agg #[.slice nao nlen ncap, .int .i64 n1, .int .i64 n2, .int .i64 n3, .int .i64 n4, .int .i64 n5, .int .i64 n6, .int .i64 n7, .int .i64 n8, .int .i64 n9, .int .i64 n10, .int .i64 n11]
      | 6 => v = .agg #[.slice mao mlen mcap, .int .i64 m1, .int .i64 m2, .int .i64 m3, .int .i64 m4, .int .i64 m5, .int .i64 m6, .int .i64 m7, .int .i64 m8, .int .i64 m9, .int .i64 m10, .int .i64 m11]
      | 7 => v = .bool EQ
      | 8 => v = .bool true
      | _ => True) (by kernel_rfl) (by kernel_rfl) (Below.refl _ _).drew ?gb ?vb ?steps ?fin
  case gb => exact fun a b h1 h2 => h1.trans (h2.mono h1.size)
  case vb =>
    intro oq v a b h hb
    match oq with
    | 0 => exact h
    | 1 => exact h
    | 2 => exact h
    | 3 => exact h
    | 4 => exact h
    | 5 => exact h
    | 6 => exact h
    | 7 => exact h
    | 8 => exact h
    | _ + 9 => trivial
  case steps =>
    intro vals
    simp only [List.take_succ_cons, List.take_zero, freeSteps, Act.put, List.setIfInBounds_toArray, List.set_cons_zero, List.set_cons_succ, Nat.reduceAdd]
    refine ⟨fun w8 hG hW => ?_, fun w8 hG hW => ?_, fun w8 hG hW => ?_, fun w8 hG hW => ?_, fun w8 hG hW => ?_, fun w8 hG hW => ?_, fun w8 hG hW => ?_, fun w8 hG hW => ?_, fun w8 hG hW => ?_, trivial⟩
    · clear hW
      refine stepAt_value rfl rfl rfl (.agg #[.slice nao nlen ncap, .int .i64 n1, .int .i64 n2, .int .i64 n3, .int .i64 n4, .int .i64 n5, .int .i64 n6, .int .i64 n7, .int .i64 n8, .int .i64 n9, .int .i64 n10, .int .i64 n11]) w8 ?_ ⟨rfl, Below.refl _ _⟩
      obtain ⟨q0, q1, q2, q3, q4, q5, q6, q7, q8, q9, q10, q11⟩ := (HKn.out.below hG HKn.out.lt).twelve
      go_simp
    · have q0 := hW 0 (by decide)
      simp only at q0
      rw [q0]
      clear hW
      refine stepAt_call rfl rfl rfl 14 #[.agg #[.slice nao nlen ncap, .int .i64 n1, .int .i64 n2, .int .i64 n3, .int .i64 n4, .int .i64 n5, .int .i64 n6, .int .i64 n7, .int .i64 n8, .int .i64 n9, .int .i64 n10, .int .i64 n11]] (by go_simp) ((bytes_any w8 nao nlen ncap nb noff n1 n2 n3 n4 n5 n6 n7 n8 n9 n10 n11 vs HLn.out HSTn.out HGDn.out ((HSn.out.keep (HB.out.trans (hG.mono HB.out.size))).more (Nat.le_trans HB.out.size hG.size))).mono fun e w' ⟨h1, h2⟩ => ⟨_, h1, by rw [HSA.out], h2⟩)
    · clear hW
      refine stepAt_value rfl rfl rfl (.agg #[.slice mao mlen mcap, .int .i64 m1, .int .i64 m2, .int .i64 m3, .int .i64 m4, .int .i64 m5, .int .i64 m6, .int .i64 m7, .int .i64 m8, .int .i64 m9, .int .i64 m10, .int .i64 m11]) w8 ?_ ⟨rfl, Below.refl _ _⟩
      obtain ⟨q0, q1, q2, q3, q4, q5, q6, q7, q8, q9, q10, q11⟩ := (HKm.out.below hG HKm.out.lt).twelve
      go_simp
    · have q2 := hW 2 (by decide)
      simp only at q2
      rw [q2]
      clear hW
      refine stepAt_call rfl rfl rfl 14 #[.agg #[.slice mao mlen mcap, .int .i64 m1, .int .i64 m2, .int .i64 m3, .int .i64 m4, .int .i64 m5, .int .i64 m6, .int .i64 m7, .int .i64 m8, .int .i64 m9, .int .i64 m10, .int .i64 m11]] (by go_simp) ((bytes_any w8 mao mlen mcap mb moff m1 m2 m3 m4 m5 m6 m7 m8 m9 m10 m11 us HLm.out HSTm.out HGDm.out ((HSm.out.keep (HB.out.trans (hG.mono HB.out.size))).more (Nat.le_trans HB.out.size hG.size))).mono fun e w' ⟨h1, h2⟩ => ⟨_, h1, by rw [HSB.out], h2⟩)
    · have q1 := hW 1 (by decide)
      simp only at q1
      have q3 := hW 3 (by decide)
      simp only at q3
      rw [q1, q3]
      clear hW
      refine stepAt_value rfl rfl rfl (.bool EQ) w8 ?_ ⟨rfl, Below.refl _ _⟩
      go_simp
      exact HEQ.out
    · clear hW
      refine stepAt_value rfl rfl rfl (.agg #[.slice nao nlen ncap, .int .i64 n1, .int .i64 n2, .int .i64 n3, .int .i64 n4, .int .i64 n5, .int .i64 n6, .int .i64 n7, .int .i64 n8, .int .i64 n9, .int .i64 n10, .int .i64 n11]) w8 ?_ ⟨rfl, Below.refl _ _⟩
      obtain ⟨q0, q1, q2, q3, q4, q5, q6, q7, q8, q9, q10, q11⟩ := (HKn.out.below hG HKn.out.lt).twelve
      go_simp
    · clear hW
      refine stepAt_value rfl rfl rfl (.agg #[.slice mao mlen mcap, .int .i64 m1, .int .i64 m2, .int .i64 m3, .int .i64 m4, .int .i64 m5, .int .i64 m6, .int .i64 m7, .int .i64 m8, .int .i64 m9, .int .i64 m10, .int .i64 m11]) w8 ?_ ⟨rfl, Below.refl _ _⟩
      obtain ⟨q0, q1, q2, q3, q4, q5, q6, q7, q8, q9, q10, q11⟩ := (HKm.out.below hG HKm.out.lt).twelve
      go_simp
    · have q5 := hW 5 (by decide)
      simp only at q5
      have q6 := hW 6 (by decide)
      simp only at q6
      rw [q5, q6]
      clear hW
      refine stepAt_call rfl rfl rfl 15 #[.agg #[.slice nao nlen ncap, .int .i64 n1, .int .i64 n2, .int .i64 n3, .int .i64 n4, .int .i64 n5, .int .i64 n6, .int .i64 n7, .int .i64 n8, .int .i64 n9, .int .i64 n10, .int .i64 n11], .agg #[.slice mao mlen mcap, .int .i64 m1, .int .i64 m2, .int .i64 m3, .int .i64 m4, .int .i64 m5, .int .i64 m6, .int .i64 m7, .int .i64 m8, .int .i64 m9, .int .i64 m10, .int .i64 m11]] (by go_simp) ((same_any w8 nao mao nlen mlen ncap mcap nb mb noff moff n1 n2 n3 n4 n5 n6 n7 n8 n9 n10 n11 m1 m2 m3 m4 m5 m6 m7 m8 m9 m10 m11 vs us HLn.out HLm.out (by omega) (by omega) ((HSn.out.keep (HB.out.trans (hG.mono HB.out.size))).more (Nat.le_trans HB.out.size hG.size)) ((HSm.out.keep (HB.out.trans (hG.mono HB.out.size))).more (Nat.le_trans HB.out.size hG.size))).mono fun e w' ⟨h1, h2⟩ => ⟨_, h1, by rw [HSAME.out], h2⟩)
    · have q4 := hW 4 (by decide)
      simp only at q4
      have q7 := hW 7 (by decide)
      simp only at q7
      rw [q4, q7]
      clear hW
      refine stepAt_value rfl rfl rfl (.bool true) w8 ?_ ⟨rfl, Below.refl _ _⟩
      go_simp
  case fin =>
    intro vals w8 hG hV
    have q8 := hV 8 (by omega)
    simp only at q8
    simp only [List.take_succ_cons, List.take_zero, List.drop_succ_cons, List.drop_zero, putAll, Act.put, List.setIfInBounds_toArray, List.set_cons_zero, List.set_cons_succ, Nat.reduceAdd]
    rw [q8]
    have HBF := Lib.hid (HB.out.trans (hG.mono HB.out.size))
    clear hV q8
    go_wp2_with fail
    go_ret
    exact ⟨rfl, HBF.out⟩
end Go.Proofs.Ytacoaiaddnlnaaa
