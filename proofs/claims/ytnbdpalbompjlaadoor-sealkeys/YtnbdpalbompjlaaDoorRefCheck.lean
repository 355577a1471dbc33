/-
  What the reference's Check answers.
-/
import Derived.Test.YtnbdpalbompjlaaDoorRefTag8
namespace Go.Proofs.YtnbdpalbompjlaaDoor
open Go.RowKit
set_option maxRecDepth 100000

set_option maxHeartbeats 4000000 in
theorem refcheck_any (w : World) {cs : List Value} {C : Nat} {vs : List (Int × ByteArray)} (hc : CfgOk w cs C vs) (M : Msg) (sl : Value) (hf : M.Fits) (hr : BRow w w.heap.size sl M.l) (hbl : M.l.length ≤ 500) :
    Calls Tryd.prog 17 #[.agg cs.toArray, .agg (mc M sl).toArray] w fun e w' => e = .returned (.bool (sealC vs (comm M.s vs.length C) M)) ∧ Below w.heap.size w w' := by
  have HF := Lib.hid hf
  have HC0 := Lib.hid ((Blk.new w 24 cs.toArray).alloc (.cells (mc M sl).toArray 32))
  have HM0 := Lib.hid (Blk.newAt (w.alloc (.cells cs.toArray 24)) 32 (mc M sl).toArray (w.heap.size + 1) (by simp))
  have hb0 : Below w.heap.size w ((w.alloc (.cells cs.toArray 24)).alloc (.cells (mc M sl).toArray 32)) := ((Below.refl w.heap.size w).alloc (Nat.le_refl _) _).alloc (by simp) _
  have HR0 := Lib.hid (hr.bits hb0)
  have HCF0 := Lib.hid (hc.below hb0)
  have HB0 := Lib.hid hb0
  have HTGC := Lib.hid (rsealTag_any _ HCF0.out M sl hf HR0.out hbl)
  obtain ⟨K, hK⟩ : ∃ K, K = comm M.s vs.length C := ⟨_, rfl⟩
  rw [← hK] at HTGC ⊢
  have hsl := sealT_length vs K M
  have hsc : sealC vs K M = ((spk K M).isSome && (sealT vs K M == M.G)) := rfl
  obtain ⟨ST, hST⟩ : ∃ ST, sealT vs K M = ST := ⟨_, rfl⟩
  obtain ⟨Y, hY⟩ : ∃ Y, (spk K M).isSome = Y := ⟨_, rfl⟩
  obtain ⟨SC, hSC⟩ : ∃ SC, sealC vs K M = SC := ⟨_, rfl⟩
  rw [hST, hY, hSC] at hsc
  rw [hST, hY] at HTGC
  rw [hST] at hsl
  rw [hSC]
  have HSC := Lib.hid hsc
  clear hK hb0 hr hc hf hST hY hSC hsc
  obtain ⟨G, hG⟩ : ∃ G, G = w.heap.size + 1 := ⟨_, rfl⟩
  obtain ⟨D, hD⟩ : ∃ D, D = w.heap.size := ⟨_, rfl⟩
  go_enter Tryd.func17, Tryd.ntmps17
  go_upto_region 1 with fail
  generalize (w.alloc (.cells cs.toArray 24)).alloc (.cells (mc M sl).toArray 32) = w0 at HB0 HC0 HM0 HR0 HCF0 HTGC ⊢
  rw [← hG] at HM0 ⊢
  rw [← hD] at HC0 ⊢
  clear hG hD
  go_wp2_with (first
    | ((with_reducible refine wpList_load_msgG (.tmp 3) ?_ ?_ G M sl ?_ HM0.out HF.out ?_); rfl; rfl; rfl)
    | ((with_reducible refine wpList_load_cfg (.tmp 2) ?_ ?_ D cs ?_ HC0.out HCF0.out.len ?_); rfl; rfl; rfl))
  refine HTGC.out.mono ?_
  rintro e w1 ⟨rfl, hb1⟩
  have HM1 := Lib.hid (HM0.out.below hb1 HM0.out.lt)
  have HB1 := Lib.hid (HB0.out.trans (hb1.mono HB0.out.size))
  have HZ1 := Lib.hid (z16_blk w1)
  have HM2 := Lib.hid (HM1.out.alloc (.cells z16 30))
  have HB2 := Lib.hid (HB1.out.alloc HB1.out.size (.cells z16 30))
  have HZ3 := Lib.hid (HZ1.out.setRow (bv ST))
  have hne : G ≠ w1.heap.size := by have := HM1.out.lt; omega
  have HM3 := Lib.hid (HM2.out.setRow_other (bv ST).toArray hne)
  have HB3 := Lib.hid (below_setRow HB2.out HB1.out.size (bv ST).toArray)
  obtain ⟨w3, hw3⟩ : ∃ x, (w1.alloc (.cells z16 30)).setRow w1.heap.size (bv ST).toArray = x := ⟨_, rfl⟩
  rw [hw3] at HZ3 HM3 HB3
  have HW3 := Lib.hid hw3
  clear hb1 HC0 HM0 HR0 HCF0 HB0 hw3 hne HM1 HM2 HB1 HB2 HTGC
  go_upto_region 2 with ((with_reducible refine wpList_store_tag (.tmp 5) (.tmp 11) ?_ ?_ w1.heap.size (List.replicate 16 0) ST ?_ ?_ ?_ zeros16 hsl ?_); rfl; rfl; rfl; rfl; exact HZ1.out)
  rw [z16_lit, HW3.out]
  clear HW3 HZ1
  generalize w1.heap.size = Z at HZ3 ⊢
  have HTM := Lib.hid (fun j v hj => (HM3.out.cell (37 + j)).trans (mc_G HF.out sl j v hj))
  have HTZ := Lib.hid (show ∀ (j : Nat) (v : Value), (bv ST)[j]? = some v → w3.cell? ⟨Z, 0 + j, none⟩ = some v from fun j v hj => by rw [Nat.zero_add]; exact (HZ3.out.cell j).trans hj)
  have hte := tag_eq w3 ST M.G hsl HF.out.G
  cases Y with
  | false =>
    rw [Bool.false_and] at HSC
    clear hte
    go_wp2_with fail
    go_ret
    exact ⟨by rw [HSC.out]; rfl, HB3.out⟩
  | true =>
    rw [Bool.true_and] at HSC
    rw [← HSC.out] at hte
    go_wp2_with (first
      | ((with_reducible refine wpList_load_tag (.tmp 5) ?_ ?_ Z 0 ST ?_ hsl HTZ.out ?_); rfl; rfl; rfl)
      | ((with_reducible refine wpList_load_tag (.tmp 16) ?_ ?_ G 37 M.G ?_ HF.out.G HTM.out ?_); rfl; rfl; rfl))
    go_ret
    exact ⟨rfl, HB3.out⟩
end Go.Proofs.YtnbdpalbompjlaaDoor
