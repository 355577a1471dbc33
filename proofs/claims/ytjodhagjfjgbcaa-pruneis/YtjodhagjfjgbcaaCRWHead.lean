/-
  The texts RWHead, one behind the other.
-/
import Derived.Test.YtjodhagjfjgbcaaCRWBest
import Derived.Deep.LoopGhost
/-
  The document's weights: the head.
-/
namespace Go.Proofs.Ytjodhagjfjgbcaa
open Go Go.RowKit
set_option maxRecDepth 10000


set_option maxHeartbeats 8000000 in
theorem rhead_any (w : World) (M : List Nat) (mb : Nat) (t : List Nd) (R : List Nat) (rb : Nat) (own : List Int) (most : Int) (h : DW w M mb t R rb own most) (h0 : 0 < own.length) :
    Calls Try.prog 18 #[.pointer (some ⟨rb, 0, none⟩)] w fun e w' => e = .returned (.agg (bv (pnm t (hdW t own : Int))).toArray) ∧ Below w.heap.size w w' := by
  have hb1 : Below w.heap.size w (w.alloc (.cells #[.int .u8 0, .int .u8 0, .int .u8 0, .int .u8 0, .int .u8 0, .int .u8 0, .int .u8 0, .int .u8 0, .int .u8 0, .int .u8 0, .int .u8 0, .int .u8 0, .int .u8 0, .int .u8 0, .int .u8 0, .int .u8 0, .int .u8 0, .int .u8 0, .int .u8 0, .int .u8 0, .int .u8 0, .int .u8 0, .int .u8 0, .int .u8 0, .int .u8 0, .int .u8 0, .int .u8 0, .int .u8 0, .int .u8 0, .int .u8 0, .int .u8 0, .int .u8 0] 24)) := (Below.refl _ w).alloc (Nat.le_refl _) _
  have HZ := Lib.hid (blk_zeroR w)
  have HB := Lib.hid hb1
  have HD := Lib.hid (h.below hb1)
  have HGD := Lib.hid h.ref.1
  have HOL := Lib.hid h.ol
  have HZL := Lib.hid zero32_len
  have HPO := Lib.hid h0
  have HLM := Lib.hid (show Low w M ∧ Low w R from ⟨h.ref.low, h.rw.low⟩)
  clear hb1 h h0
  go_enter Try.func18, Try.ntmps18
  go_upto_region 1 with fail
  generalize w.alloc (.cells #[.int .u8 0, .int .u8 0, .int .u8 0, .int .u8 0, .int .u8 0, .int .u8 0, .int .u8 0, .int .u8 0, .int .u8 0, .int .u8 0, .int .u8 0, .int .u8 0, .int .u8 0, .int .u8 0, .int .u8 0, .int .u8 0, .int .u8 0, .int .u8 0, .int .u8 0, .int .u8 0, .int .u8 0, .int .u8 0, .int .u8 0, .int .u8 0, .int .u8 0, .int .u8 0, .int .u8 0, .int .u8 0, .int .u8 0, .int .u8 0, .int .u8 0, .int .u8 0] 24) = w1 at HZ HD HB ⊢
  obtain ⟨Z, hZ⟩ : ∃ Z, Z = w.heap.size := ⟨_, rfl⟩
  have HZE := Lib.hid (show w.heap.size ≤ Z by omega)
  rw [← hZ] at HZ ⊢
  clear hZ
  have HZA := Lib.hid (show Z < w1.heap.size from HZ.out.lt)
  obtain ⟨n0, hn0⟩ : ∃ n, t[0]? = some n := ⟨_, List.getElem?_eq_getElem (by have := HOL.out; have := HPO.out; omega)⟩
  obtain ⟨a1, c1, g1, o1, hs⟩ := HD.out.rw.open
  obtain ⟨ba1, ba2, ba3, bc1, bc2, bc3, bg1, bg2, bg3, bo1, bo2, bo3, ht⟩ := HD.out.ref.open
  obtain ⟨hba, hcq⟩ := ht.l1.name HGD.out.rts (rs_at hn0)
  subst hba
  rw [← pnm_at hn0] at hcq
  have k0 := hs.cell0
  have m0 := ht.cell0
  have d2 : (0 : Int) < (t.length : Int) := by have := HOL.out; have := HPO.out; omega
  have HCQ := Lib.hid (show ∀ j v, (bv (pnm t ((0 : Nat) : Int)))[j]? = some v → (w1.alloc (.cells #[.int .u8 0, .int .u8 0, .int .u8 0, .int .u8 0, .int .u8 0, .int .u8 0, .int .u8 0, .int .u8 0, .int .u8 0, .int .u8 0, .int .u8 0, .int .u8 0, .int .u8 0, .int .u8 0, .int .u8 0, .int .u8 0, .int .u8 0, .int .u8 0, .int .u8 0, .int .u8 0, .int .u8 0, .int .u8 0, .int .u8 0, .int .u8 0, .int .u8 0, .int .u8 0, .int .u8 0, .int .u8 0, .int .u8 0, .int .u8 0, .int .u8 0, .int .u8 0] 24)).cell? ⟨bg1, bo1 + j, none⟩ = some v from fun j v hj => by
    have h5 := hcq j v hj
    rw [Nat.zero_mul, Nat.add_zero] at h5
    rw [← h5]
    exact Below.cell (B := w1.heap.size) ((Below.refl _ _).alloc (Nat.le_refl _) _) (World.block_lt_of_cell? w1 _ h5))
  have HCR := Lib.hid (show ∀ j v, (bv (pnm t ((0 : Nat) : Int)))[j]? = some v → w1.cell? ⟨bg1, bo1 + j, none⟩ = some v from fun j v hj => by
    have h5 := hcq j v hj
    rw [Nat.zero_mul, Nat.add_zero] at h5
    exact h5)
  have HNL := Lib.hid (HGD.out.pnm_len ((0 : Nat) : Int))
  have HA0 := Lib.hid (blk_zeroR w1)
  have HA := Lib.hid (HA0.out.setRow (bv (pnm t ((0 : Nat) : Int))))
  have hbx : Below w1.heap.size w1 ((w1.alloc (.cells #[.int .u8 0, .int .u8 0, .int .u8 0, .int .u8 0, .int .u8 0, .int .u8 0, .int .u8 0, .int .u8 0, .int .u8 0, .int .u8 0, .int .u8 0, .int .u8 0, .int .u8 0, .int .u8 0, .int .u8 0, .int .u8 0, .int .u8 0, .int .u8 0, .int .u8 0, .int .u8 0, .int .u8 0, .int .u8 0, .int .u8 0, .int .u8 0, .int .u8 0, .int .u8 0, .int .u8 0, .int .u8 0, .int .u8 0, .int .u8 0, .int .u8 0, .int .u8 0] 24)).setRow w1.heap.size (bv (pnm t ((0 : Nat) : Int))).toArray) := below_row ((Below.refl _ w1).alloc (Nat.le_refl _) _) (Nat.le_refl _) _
  replace HZ := Lib.hid (HZ.out.below hbx HZ.out.lt)
  replace HD := Lib.hid (HD.out.below hbx)
  have HBA := Lib.hid HB.out.size
  replace HB := Lib.hid (HB.out.trans (hbx.mono HB.out.size))
  clear hbx hn0 hcq hs ht
  go_upto_region 2 with (first
    | ((with_reducible refine wpList_load_name (.tmp 13) ?_ ?_ bg1 bo1 (pnm t ((0 : Nat) : Int)) ?_ HNL.out HCR.out ?_); rfl; rfl; rfl)
    | ((with_reducible refine wpList_load_name (.tmp 13) ?_ ?_ bg1 bo1 (pnm t ((0 : Nat) : Int)) ?_ HNL.out HCQ.out ?_); rfl; rfl; rfl)
    | ((with_reducible refine wpList_store_name (.tmp 3) (.tmp 14) ?_ ?_ w1.heap.size zero32 (pnm t ((0 : Nat) : Int)) ?_ ?_ HA0.out HZL.out HNL.out ?_); rfl; rfl; rfl; rfl))
  try simp only [Act.put]
  obtain ⟨A, hA⟩ : ∃ A, A = w1.heap.size := ⟨_, rfl⟩
  rw [← hA] at HA HZA HBA ⊢
  rw [← hA] at HZ HD HB
  generalize (w1.alloc (.cells #[.int .u8 0, .int .u8 0, .int .u8 0, .int .u8 0, .int .u8 0, .int .u8 0, .int .u8 0, .int .u8 0, .int .u8 0, .int .u8 0, .int .u8 0, .int .u8 0, .int .u8 0, .int .u8 0, .int .u8 0, .int .u8 0, .int .u8 0, .int .u8 0, .int .u8 0, .int .u8 0, .int .u8 0, .int .u8 0, .int .u8 0, .int .u8 0, .int .u8 0, .int .u8 0, .int .u8 0, .int .u8 0, .int .u8 0, .int .u8 0, .int .u8 0, .int .u8 0] 24)).setRow A (bv (pnm t ((0 : Nat) : Int))).toArray = w2 at HA HZ HD HB ⊢
  clear hA HA0 HCQ HCR k0 m0 d2
  go_loopg [] own.length (fun gm wr => ∃ k : Nat, k < own.length ∧ gm = own.length - k ∧ Hid (hdF t own k = hdW t own) ∧ Hid (Blk wr A 24 (bv (pnm t (k : Int)))) ∧ Hid (Blk wr Z 24 (bv zero32)) ∧ Hid (DW wr M mb t R rb own most) ∧ Hid (Below w.heap.size w wr))
  case atStart => exact ⟨0, HPO.out, rfl, Lib.hid rfl, HA, HZ, HD, HB⟩
  case round =>
    clear HA HZ HD HB HNL
    obtain ⟨k, hk, rfl, HK, HA, HZ, HD, HB⟩ := hrel
    have HNL := Lib.hid (HGD.out.pnm_len (k : Int))
    have HBV := Lib.hid (show bstZ t own (pnm t (k : Int)) = bsW t own k by
      obtain ⟨n, hn⟩ : ∃ n, t[k]? = some n := ⟨_, List.getElem?_eq_getElem (by have := HOL.out; omega)⟩
      rw [pnm_at hn]
      exact tellZ_at HGD.out hn hk (-1) (bsW t own))
    go_wp2_with ((with_reducible refine wpList_load_name (.tmp 3) ?_ ?_ A 0 (pnm t (k : Int)) ?_ HNL.out HA.out.rootAll ?_); rfl; rfl; rfl)
    refine (rbest_any wr M mb t R rb own most (pnm t (k : Int)) HD.out HNL.out).mono ?_
    rintro e w3 ⟨rfl, hbc⟩
    rw [HBV.out]
    replace HA := Lib.hid (HA.out.below hbc HA.out.lt)
    replace HZ := Lib.hid (HZ.out.below hbc HZ.out.lt)
    replace HD := Lib.hid (HD.out.below hbc)
    replace HB := Lib.hid (HB.out.trans (hbc.mono HB.out.size))
    clear hbc
    have HNB := Lib.hid (HGD.out.pnm_len (bsW t own k))
    have HC0 := Lib.hid (blk_zeroR w3)
    have HC := Lib.hid (HC0.out.setRow (bv (pnm t (bsW t own k))))
    have hbx : Below w3.heap.size w3 ((w3.alloc (.cells #[.int .u8 0, .int .u8 0, .int .u8 0, .int .u8 0, .int .u8 0, .int .u8 0, .int .u8 0, .int .u8 0, .int .u8 0, .int .u8 0, .int .u8 0, .int .u8 0, .int .u8 0, .int .u8 0, .int .u8 0, .int .u8 0, .int .u8 0, .int .u8 0, .int .u8 0, .int .u8 0, .int .u8 0, .int .u8 0, .int .u8 0, .int .u8 0, .int .u8 0, .int .u8 0, .int .u8 0, .int .u8 0, .int .u8 0, .int .u8 0, .int .u8 0, .int .u8 0] 24)).setRow w3.heap.size (bv (pnm t (bsW t own k))).toArray) := below_row ((Below.refl _ w3).alloc (Nat.le_refl _) _) (Nat.le_refl _) _
    replace HA := Lib.hid (HA.out.below hbx HA.out.lt)
    replace HZ := Lib.hid (HZ.out.below hbx HZ.out.lt)
    replace HD := Lib.hid (HD.out.below hbx)
    have HCE := Lib.hid (show w.heap.size ≤ w3.heap.size from HB.out.size)
    replace HB := Lib.hid (HB.out.trans (hbx.mono HB.out.size))
    clear hbx
    go_upto_region 3 with ((with_reducible refine wpList_store_name (.tmp 4) (.tmp 19) ?_ ?_ w3.heap.size zero32 (pnm t (bsW t own k)) ?_ ?_ HC0.out HZL.out HNB.out ?_); rfl; rfl; rfl; rfl)
    try simp only [Act.put]
    obtain ⟨C, hC⟩ : ∃ C, C = w3.heap.size := ⟨_, rfl⟩
    rw [← hC] at HC HCE ⊢
    rw [← hC] at HA HZ HD HB
    generalize (w3.alloc (.cells #[.int .u8 0, .int .u8 0, .int .u8 0, .int .u8 0, .int .u8 0, .int .u8 0, .int .u8 0, .int .u8 0, .int .u8 0, .int .u8 0, .int .u8 0, .int .u8 0, .int .u8 0, .int .u8 0, .int .u8 0, .int .u8 0, .int .u8 0, .int .u8 0, .int .u8 0, .int .u8 0, .int .u8 0, .int .u8 0, .int .u8 0, .int .u8 0, .int .u8 0, .int .u8 0, .int .u8 0, .int .u8 0, .int .u8 0, .int .u8 0, .int .u8 0, .int .u8 0] 24)).setRow C (bv (pnm t (bsW t own k))).toArray = w4 at HA HZ HD HB HC ⊢
    clear hC HC0
    rcases HGD.out.bsW_place HOL.out k with ⟨hb, _⟩ | ⟨q, hb, hkq, hq, _⟩
    · rw [hb] at HC ⊢
      have HE := Lib.hid (show hdW t own = k by rw [← HK.out, HGD.out.hdF_end (by omega)])
      clear hb
      have d1 : decide ((0 : Int) ≤ -1) = false := by decide
      have HZF := Lib.hid (HZ.out.setRow (bv (pnm t (k : Int))))
      have HBF := Lib.hid (below_row HB.out HZE.out (bv (pnm t (k : Int))).toArray)
      go_wp2_with (first
        | ((with_reducible refine wpList_load_name (.tmp 3) ?_ ?_ A 0 (pnm t (k : Int)) ?_ HNL.out HA.out.rootAll ?_); rfl; rfl; rfl)
        | ((with_reducible refine wpList_store_name (.tmp 2) (.tmp 23) ?_ ?_ Z zero32 (pnm t (k : Int)) ?_ ?_ HZ.out HZL.out HNL.out ?_); rfl; rfl; rfl; rfl))
      refine ret_name rfl rfl HZF.out HNL.out rfl ?_
      exact ⟨by rw [HE.out], HBF.out⟩
    · rw [hb] at HC HNB ⊢
      have HE := Lib.hid (show hdF t own q = hdW t own by rw [← HK.out, HGD.out.hdF_next HOL.out hb])
      clear hb
      have d1 : decide ((0 : Int) ≤ (q : Int)) = true := decide_eq_true (by omega)
      have hbA : Below w.heap.size w (w4.setRow A (bv (pnm t (q : Int))).toArray) := below_row HB.out HBA.out _
      have HA2 := Lib.hid (HA.out.setRow (bv (pnm t (q : Int))))
      have HZ2 := Lib.hid (HZ.out.setRow_other (bv (pnm t (q : Int))).toArray (show Z ≠ A by have := HZA.out; omega))
      have hkp : Kept [A] w4 (w4.setRow A (bv (pnm t (q : Int))).toArray) := (Kept.refl _ _).setRow (.inl (by simp)) _
      have HD2 := Lib.hid (show DW (w4.setRow A (bv (pnm t (q : Int))).toArray) M mb t R rb own most from ⟨HD.out.ref.keep hkp (fun x hx hm => by simp at hm; have := HLM.out.1 x hx; have := HBA.out; omega), HD.out.rw.keep hkp (fun x hx hm => by simp at hm; have := HLM.out.2 x hx; have := HBA.out; omega), HD.out.ol, HD.out.og⟩)
      clear hkp
      go_wp2_with (first
        | ((with_reducible refine wpList_load_name (.tmp 4) ?_ ?_ C 0 (pnm t (q : Int)) ?_ HNB.out HC.out.rootAll ?_); rfl; rfl; rfl)
        | ((with_reducible refine wpList_store_name (.tmp 3) (.tmp 24) ?_ ?_ A (pnm t (k : Int)) (pnm t (q : Int)) ?_ ?_ HA.out HNL.out HNB.out ?_); rfl; rfl; rfl; rfl))
      try simp only [Act.put]
      go_roundg (own.length - q)
      case measure => omega
      case rel => exact ⟨q, hq, rfl, HE, HA2, HZ2, HD2, Lib.hid hbA⟩
end Go.Proofs.Ytjodhagjfjgbcaa
