/-
  What the reference's Good answers.
-/
import Derived.Test.YtginfmbcljlneaaDoorGood0
namespace Go.Proofs.YtginfmbcljlneaaDoor
open Go.RowKit

theorem below_drewN {B : Nat} {a w : World} (h : Below B a w) (k : Nat) : Below B a (w.drewN k) := ⟨h.os, h.tape, h.output, h.size, h.block⟩

set_option maxHeartbeats 2000000 in
theorem refGood_any (w : World) (nao : Option Addr) (nlen ncap b off : Nat) (n1 n2 n3 n4 n5 n6 n7 n8 n9 n10 n11 : Int) (vs : List (Int × ByteArray)) (hl : vs.length = nlen) (hL : nlen ≤ 1000) (hst : Stakes vs) (hs : Lies w w.heap.size nao b off (vc vs)) :
    Calls Tryd.prog 10 #[.agg #[.slice nao nlen ncap, .int .i64 n1, .int .i64 n2, .int .i64 n3, .int .i64 n4, .int .i64 n5, .int .i64 n6, .int .i64 n7, .int .i64 n8, .int .i64 n9, .int .i64 n10, .int .i64 n11]] w fun e w' => e = .returned (.bool (goodB (nums nlen n1 n2 n3 n4 n5 n6 n7 n8 n9 n10 n11) vs)) ∧ Below w.heap.size w w' := by
  have HS := Lib.hid hs
  have HL := Lib.hid hl
  have HST := Lib.hid hst
  have hB0 := (Below.refl w.heap.size w).alloc (Nat.le_refl _) (.cells #[.slice nao nlen ncap, .int .i64 n1, .int .i64 n2, .int .i64 n3, .int .i64 n4, .int .i64 n5, .int .i64 n6, .int .i64 n7, .int .i64 n8, .int .i64 n9, .int .i64 n10, .int .i64 n11] 24)
  have hk0 := Blk.new w 24 #[.slice nao nlen ncap, .int .i64 n1, .int .i64 n2, .int .i64 n3, .int .i64 n4, .int .i64 n5, .int .i64 n6, .int .i64 n7, .int .i64 n8, .int .i64 n9, .int .i64 n10, .int .i64 n11]
  have HB0 := Lib.hid hB0
  have HK0 := Lib.hid hk0
  clear hs hl hst hB0 hk0
  go_enter Tryd.func10, Tryd.ntmps10
  go_wp2_with fail
  refine (refNumbers_any _ nao nlen ncap n1 n2 n3 n4 n5 n6 n7 n8 n9 n10 n11).mono ?_
  rintro e w1 ⟨g, rfl, hg, hb1⟩
  have HK := Lib.hid (HK0.out.below hb1 (by simp))
  have HB := Lib.hid (HB0.out.trans (hb1.mono HB0.out.size))
  have HG := Lib.hid hg
  obtain ⟨L, hLL⟩ : ∃ L, L = nums nlen n1 n2 n3 n4 n5 n6 n7 n8 n9 n10 n11 := ⟨_, rfl⟩
  have hlen : L.length = 12 := by rw [hLL]; rfl
  rw [← hLL] at HG
  have HLL := Lib.hid hLL
  have HLen := Lib.hid hlen
  generalize w.heap.size = A at HK ⊢
  clear hLL hlen hg hb1 HK0 HB0
  go_wp2_with fail
  go_loopw [4] (fun i wr => ∃ (j k : Nat), j ≤ 12 ∧ Hid (k = j * 2) ∧ i = .int .i64 k ∧ Hid (goodL L = goodL (L.drop j)) ∧ Hid (Below w1.heap.size w1 wr)) (fun i _ => 24 - (intOf i).toNat)
  case atStart => exact ⟨0, 0, Nat.zero_le _, Lib.hid rfl, rfl, Lib.hid rfl, Lib.hid (Below.refl _ _)⟩
  case round =>
    obtain ⟨j, k, hj, HKJ, rfl, HT, HBel⟩ := hrel
    by_cases hlt : j < 12
    · obtain ⟨v, hv⟩ : ∃ v, L[j]? = some v := ⟨_, List.getElem?_eq_getElem (by rw [HLen.out]; exact hlt)⟩
      obtain ⟨c0, c1⟩ := HG.out.num HBel.out hv
      rw [← HKJ.out] at c0 c1
      have k1 : k < 24 := by rw [HKJ.out]; omega
      have k2 : (k : Int) + 1 < 24 := by rw [HKJ.out]; omega
      have k5 : IntKind.i64.wrap ((k : Int) + 1) = (k : Int) + 1 := by rw [IntKind.wrap_i64]; omega
      have k3 : (0 : Int) ≤ (k : Int) + 1 := by omega
      have k4 : ((k : Int) + 1).toNat = k + 1 := by omega
      have HD := Lib.hid (drop_at hv)
      obtain ⟨x, m⟩ := v
      simp only at c0 c1
      have HBF := Lib.hid (HB.out.trans (HBel.out.mono HB.out.size))
      clear hv
      by_cases h1 : x < 1
      · have HR := Lib.hid (show goodB L vs = false by rw [goodB, HT.out, HD.out, goodL_cons, show decide (1 ≤ x) = false by simp; omega]; rfl)
        go_wp2_with fail
        go_quiet (fail)
        go_wp2_with fail
        go_ret
        rw [← HLL.out, HR.out]
        exact ⟨rfl, below_drewN HBF.out _⟩
      · by_cases h2 : m < x
        · have HR := Lib.hid (show goodB L vs = false by rw [goodB, HT.out, HD.out, goodL_cons, show decide (x ≤ m) = false by simp; omega, Bool.and_false]; rfl)
          go_wp2_with fail
          go_quiet (fail)
          go_wp2_with fail
          go_ret
          rw [← HLL.out, HR.out]
          exact ⟨rfl, below_drewN HBF.out _⟩
        · have HR := Lib.hid (show goodL L = goodL (L.drop (j + 1)) by rw [HT.out, HD.out, goodL_cons, show decide (1 ≤ x) = true by simp; omega, show decide (x ≤ m) = true by simp; omega]; rfl)
          go_wp2_with fail
          go_quiet (fail)
          go_wp2_with fail
          go_roundw
          case rel => exact ⟨j + 1, k + 2, by omega, Lib.hid (by rw [HKJ.out]; omega), by go_num, HR, Lib.hid (below_drewN HBel.out _)⟩
          case measure => simp [intOf]; omega
    · have hjl : j = 12 := by omega
      have hkl : k = 24 := by rw [HKJ.out]; omega
      have HR := Lib.hid (show goodL L = true by rw [HT.out, hjl, ← HLen.out, List.drop_length]; rfl)
      have c0 := (HK.out.below HBel.out HK.out.lt).cell 0
      simp only [List.getElem?_cons_zero] at c0
      have HBF := Lib.hid (HB.out.trans (HBel.out.mono HB.out.size))
      subst hkl
      clear hjl
      go_wp2_with fail
      refine (refTotal_any wr nao nlen ncap b off vs HL.out hL HST.out ((HS.out.keep HBF.out).more HBF.out.size)).mono ?_
      rintro e w2 ⟨rfl, hb2⟩
      have HBG := Lib.hid (HBF.out.trans (hb2.mono HBF.out.size))
      clear hb2 c0
      cases ht : totFrom 0 vs with
      | none =>
        have HRR := Lib.hid (show goodB L vs = false by rw [goodB, ht]; simp)
        clear ht
        simp only [totV]
        go_wp2_with fail
        go_ret
        rw [← HLL.out, HRR.out]
        exact ⟨rfl, HBG.out⟩
      | some z =>
        have HRR := Lib.hid (show goodB L vs = true by rw [goodB, ht, HR.out]; rfl)
        clear ht
        simp only [totV]
        go_wp2_with fail
        go_ret
        rw [← HLL.out, HRR.out]
        exact ⟨rfl, HBG.out⟩
end Go.Proofs.YtginfmbcljlneaaDoor
