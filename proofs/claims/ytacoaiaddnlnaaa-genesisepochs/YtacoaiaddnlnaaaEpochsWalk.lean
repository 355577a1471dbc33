/-
  The walk of GenesisEpochs.
-/
import Derived.Test.YtacoaiaddnlnaaaAlive5
import Derived.Test.YtacoaiaddnlnaaaRefGood
import Derived.Test.YtacoaiaddnlnaaaOpenCfg
namespace Go.Proofs.Ytacoaiaddnlnaaa
open Go.RowKit

set_option maxRecDepth 100000 in
set_option maxHeartbeats 4000000 in
theorem epochs_any (w : World) (nao : Option Addr) (nlen ncap b off : Nat) (n1 n2 n3 n4 n5 n6 n7 n8 n9 n10 n11 : Int) (vs : List (Int × ByteArray)) (slot : Int) (hl : vs.length = nlen) (hst : Stakes vs) (hs : Lies w w.heap.size nao b off (vc vs)) :
    Calls Try.prog 6 #[.agg #[.slice nao nlen ncap, .int .i64 n1, .int .i64 n2, .int .i64 n3, .int .i64 n4, .int .i64 n5, .int .i64 n6, .int .i64 n7, .int .i64 n8, .int .i64 n9, .int .i64 n10, .int .i64 n11], .int .i64 slot] w fun e w' => e = .returned (.bool true) ∧ Below w.heap.size w w' := by
  have HS := Lib.hid hs
  have HL := Lib.hid hl
  have HST := Lib.hid hst
  have HB0 := Lib.hid ((Below.refl w.heap.size w).alloc (Nat.le_refl _) (.cells #[.slice nao nlen ncap, .int .i64 n1, .int .i64 n2, .int .i64 n3, .int .i64 n4, .int .i64 n5, .int .i64 n6, .int .i64 n7, .int .i64 n8, .int .i64 n9, .int .i64 n10, .int .i64 n11] 24))
  have HK0 := Lib.hid (Blk.new w 24 #[.slice nao nlen ncap, .int .i64 n1, .int .i64 n2, .int .i64 n3, .int .i64 n4, .int .i64 n5, .int .i64 n6, .int .i64 n7, .int .i64 n8, .int .i64 n9, .int .i64 n10, .int .i64 n11])
  clear hs hl hst
  go_enter Try.func6, Try.ntmps6
  go_wp2_with fail
  refine (alive_any _).mono ?_
  rintro e w1 ⟨rfl, hb1⟩
  have HK := Lib.hid (HK0.out.below hb1 (by simp))
  have HB := Lib.hid (HB0.out.trans (hb1.mono HB0.out.size))
  generalize w.heap.size = A at HK ⊢
  clear hb1 HK0 HB0
  obtain ⟨q0, q1, q2, q3, q4, q5, q6, q7, q8, q9, q10, q11⟩ := HK.out.twelve
  go_wp2_with fail
  refine (tooMuch_any w1 nao nlen ncap b off n1 n2 n3 n4 n5 n6 n7 n8 n9 n10 n11 vs HL.out ((HS.out.keep HB.out).more HB.out.size)).mono ?_
  rintro e w2 ⟨rfl, hb2⟩
  have HK2 := Lib.hid (HK.out.below hb2 HK.out.lt)
  have HB2 := Lib.hid (HB.out.trans (hb2.mono HB.out.size))
  clear q0 q1 q2 q3 q4 q5 q6 q7 q8 q9 q10 q11 hb2 HK HB
  cases hgr : tooMuch vs with
  | true =>
    clear hgr
    go_wp2_with fail
    go_ret
    exact ⟨rfl, HB2.out⟩
  | false =>
    have hlen : nlen ≤ 100 := by rw [← HL.out]; simp [tooMuch] at hgr; omega
    clear hgr
    obtain ⟨q0, q1, q2, q3, q4, q5, q6, q7, q8, q9, q10, q11⟩ := HK2.out.twelve
    go_wp2_with fail
    refine (refGood_any w2 nao nlen ncap b off n1 n2 n3 n4 n5 n6 n7 n8 n9 n10 n11 vs HL.out (by omega) HST.out ((HS.out.keep HB2.out).more HB2.out.size)).mono ?_
    rintro e w3 ⟨rfl, hb3⟩
    have HK3 := Lib.hid (HK2.out.below hb3 HK2.out.lt)
    have HB3 := Lib.hid (HB2.out.trans (hb3.mono HB2.out.size))
    clear q0 q1 q2 q3 q4 q5 q6 q7 q8 q9 q10 q11 hb3 HK2 HB2
    cases hgd : goodB (nums nlen n1 n2 n3 n4 n5 n6 n7 n8 n9 n10 n11) vs with
    | false =>
      clear hgd
      go_wp2_with fail
      go_ret
      exact ⟨rfl, HB3.out⟩
    | true =>
      have h1 := goodB_nums hgd (v := (n1, 32)) (by simp [nums])
      simp only at h1
      obtain ⟨h1, h1'⟩ := h1
      clear hgd
      by_cases hs0 : slot < 0
      · go_wp2_with fail
        go_ret
        exact ⟨rfl, HB3.out⟩
      · by_cases hs1 : (1099511627776 : Int) < slot
        · go_wp2_with fail
          go_ret
          exact ⟨rfl, HB3.out⟩
        · obtain ⟨E, hE⟩ : ∃ E, E = slot / n1 := ⟨_, rfl⟩
          have hE0 : 0 ≤ E := by rw [hE]; exact Int.ediv_nonneg (by omega) (by omega)
          have hE1 : E ≤ slot := by rw [hE]; exact Int.ediv_le_self _ (by omega)
          have hE2 : (slot + n1) / n1 = E + 1 := by rw [hE, Int.add_ediv_of_dvd_right (Int.dvd_refl _), Int.ediv_self (by omega)]
          have hM0 : 0 ≤ E * n1 := Int.mul_nonneg hE0 (by omega)
          have hM1 : E * n1 ≤ slot := by rw [hE]; exact Int.ediv_mul_le _ (by omega)
          have hE3 : (E * n1) / n1 = E := Int.mul_ediv_cancel _ (by omega)
          have hE4 : (E * n1 + n1 - 1) / n1 = E := by
            rw [show E * n1 + n1 - 1 = (n1 - 1) + E * n1 by omega, Int.add_mul_ediv_right _ _ (by omega), Int.ediv_eq_zero_of_lt (by omega) (by omega)]; omega
          obtain ⟨M, hM⟩ : ∃ M, M = E * n1 := ⟨_, rfl⟩
          rw [← hM] at hM0 hM1 hE3 hE4
          have HE := Lib.hid hE
          have HM := Lib.hid hM
          have HE2 := Lib.hid hE2
          have HE3 := Lib.hid hE3
          have HE4 := Lib.hid hE4
          have hw1 : wrap64 (E * n1) = M := by rw [← HM.out]; unfold wrap64; omega
          clear hE hM hE2 hE3 hE4
          obtain ⟨q0, q1, q2, q3, q4, q5, q6, q7, q8, q9, q10, q11⟩ := HK3.out.twelve
          go_wp2_with fail
          refine (epoch_any w3 nao nlen ncap n1 n2 n3 n4 n5 n6 n7 n8 n9 n10 n11 slot h1 (by omega) (by omega)).mono ?_
          rintro e w4 ⟨rfl, hb4⟩
          rw [← HE.out]
          have HK4 := Lib.hid (HK3.out.below hb4 HK3.out.lt)
          have HB4 := Lib.hid (HB3.out.trans (hb4.mono HB3.out.size))
          clear q0 q1 q2 q3 q4 q5 q6 q7 q8 q9 q10 q11 hb4 HK3 HB3
          obtain ⟨q0, q1, q2, q3, q4, q5, q6, q7, q8, q9, q10, q11⟩ := HK4.out.twelve
          go_wp2_with fail
          refine (epoch_any w4 nao nlen ncap n1 n2 n3 n4 n5 n6 n7 n8 n9 n10 n11 (slot + n1) h1 (by omega) (by omega)).mono ?_
          rintro e w5 ⟨rfl, hb5⟩
          rw [HE2.out]
          have HK5 := Lib.hid (HK4.out.below hb5 HK4.out.lt)
          have HB5 := Lib.hid (HB4.out.trans (hb5.mono HB4.out.size))
          clear q0 q1 q2 q3 q4 q5 q6 q7 q8 q9 q10 q11 hb5 HK4 HB4
          obtain ⟨q0, q1, q2, q3, q4, q5, q6, q7, q8, q9, q10, q11⟩ := HK5.out.twelve
          go_wp2_with fail
          refine (epoch_any w5 nao nlen ncap n1 n2 n3 n4 n5 n6 n7 n8 n9 n10 n11 M h1 (by omega) (by omega)).mono ?_
          rintro e w6 ⟨rfl, hb6⟩
          rw [HE3.out]
          have HK6 := Lib.hid (HK5.out.below hb6 HK5.out.lt)
          have HB6 := Lib.hid (HB5.out.trans (hb6.mono HB5.out.size))
          clear q0 q1 q2 q3 q4 q5 q6 q7 q8 q9 q10 q11 hb6 HK5 HB5
          obtain ⟨q0, q1, q2, q3, q4, q5, q6, q7, q8, q9, q10, q11⟩ := HK6.out.twelve
          go_wp2_with fail
          refine (epoch_any w6 nao nlen ncap n1 n2 n3 n4 n5 n6 n7 n8 n9 n10 n11 (M + n1 - 1) h1 (by omega) (by omega)).mono ?_
          rintro e w7 ⟨rfl, hb7⟩
          rw [HE4.out]
          have HB7 := Lib.hid (HB6.out.trans (hb7.mono HB6.out.size))
          clear q0 q1 q2 q3 q4 q5 q6 q7 q8 q9 q10 q11 hb7 HK6 HB6
          go_wp2_with fail
          go_ret
          exact ⟨rfl, HB7.out⟩
end Go.Proofs.Ytacoaiaddnlnaaa
