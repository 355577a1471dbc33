/-
  What wire.Root and the document's Root answer, of a message whose numbers fit.
-/
import Derived.Test.YtickcajihaejkaaDoorWRefB
import Derived.Test.YtickcajihaejkaaDoorRefOf
import Derived.Test.YtickcajihaejkaaDoorStrs
namespace Go.Proofs.YtickcajihaejkaaDoor
open Go.RowKit
set_option maxRecDepth 10000

theorem msgB_small {M : Msg} (h : M.Ranged) (hl : M.l.length ≤ 500) : (msgB M).length ≤ 1000 := by
  rw [msgB_length h]
  split
  · omega
  · split <;> omega

set_option maxHeartbeats 4000000 in
theorem wroot_any (w : World) (hT : Tabs w) (M : Msg) (sl : Value) (hm : M.Ranged) (hr : BRow w w.heap.size sl M.l) (hl : M.l.length ≤ 500) :
    Calls Tryd.prog 12 #[.agg (mc M sl).toArray] w fun e w' => e = .returned (.agg (bv (digest (msgB M))).toArray) ∧ Below w.heap.size w w' := by
  have HLN := Lib.hid (msgB_small hm hl)
  have HB0 := Lib.hid (((Below.refl w.heap.size w).alloc (Nat.le_refl _) (.cells (mc M sl).toArray 29)).alloc (by simp) (.cells (Array.replicate 32 (.int .u8 0)) 23))
  have HR0 := Lib.hid (Blk.newAt (w.alloc (.cells (mc M sl).toArray 29)) 23 (Array.replicate 32 (.int .u8 0)) (w.heap.size + 1) (by simp))
  have HK0 := Lib.hid (show Blk ((w.alloc (.cells (mc M sl).toArray 29)).alloc (.cells (Array.replicate 32 (.int .u8 0)) 23)) w.heap.size 29 (mc M sl) from (Blk.new w 29 (mc M sl).toArray).alloc _)
  have HBT := Lib.hid (hr.bits HB0.out)
  have HF := Lib.hid hm.fits
  have HM := Lib.hid hm
  have hwR : w.heap.size ≤ w.heap.size + 1 := by omega
  clear hr hm
  go_enter Tryd.func12, Tryd.ntmps12
  go_upto_region 1 with fail
  have hrep : (Array.replicate 32 (Value.int .u8 0)) = #[.int .u8 0, .int .u8 0, .int .u8 0, .int .u8 0, .int .u8 0, .int .u8 0, .int .u8 0, .int .u8 0, .int .u8 0, .int .u8 0, .int .u8 0, .int .u8 0, .int .u8 0, .int .u8 0, .int .u8 0, .int .u8 0, .int .u8 0, .int .u8 0, .int .u8 0, .int .u8 0, .int .u8 0, .int .u8 0, .int .u8 0, .int .u8 0, .int .u8 0, .int .u8 0, .int .u8 0, .int .u8 0, .int .u8 0, .int .u8 0, .int .u8 0, .int .u8 0] := rfl
  rw [← hrep]
  generalize (w.alloc (.cells (mc M sl).toArray 29)).alloc (.cells (Array.replicate 32 (.int .u8 0)) 23) = w1 at HB0 HR0 HK0 HBT ⊢
  obtain ⟨R, hR⟩ : ∃ R, R = w.heap.size + 1 := ⟨_, rfl⟩
  rw [← hR] at hwR HR0 ⊢
  clear hrep hR
  generalize hg : w.heap.size = g at HK0 ⊢
  have HG := Lib.hid hg
  rw [hg] at hwR
  have HBG := Lib.hid (show Below g w w1 by rw [← hg]; exact HB0.out)
  clear hg
  go_wp2_with ((with_reducible refine wpList_load_msg (.tmp 1) ?_ ?_ g M sl ?_ HK0.out HF.out ?_); rfl; rfl; rfl)
  refine (whole_any w1 M sl HM.out HBT.out (by omega)).mono ?_
  rintro e w2 ⟨rfl, hb2⟩
  have HB2 := Lib.hid (HB0.out.trans (hb2.mono HB0.out.size))
  have HR2 := Lib.hid (HR0.out.below hb2 HR0.out.lt)
  clear hb2
  go_wp2_with fail
  refine (of_one w2 (msgB M) (hT.below HB2.out hT.size) (by have := HLN.out; omega)).mono ?_
  rintro e w3 ⟨rfl, hb3⟩
  have hr3 := HR2.out.below hb3 HR2.out.lt
  have hb4 : Below g w w3 := by rw [← HG.out]; exact HB2.out.trans (hb3.mono HB2.out.size)
  clear hb3
  obtain ⟨D, hD⟩ : ∃ D, D = digest (msgB M) := ⟨_, rfl⟩
  rw [← hD]
  have hdl : D.length = 32 := by rw [hD]; exact digest_length _
  have HR3 := Lib.hid hr3
  have HSZ := Lib.hid (show (Tryd.prog.info? 23).map (·.size) = some (bv D).length by rw [bv_length, hdl]; exact Tryd.size23)
  have HLE := Lib.hid (show 0 + (bv D).length ≤ (Array.replicate 32 (Value.int .u8 0)).toList.length by rw [bv_length, hdl]; simp)
  have HSP := Lib.hid (splice_all (Array.replicate 32 (Value.int .u8 0)).toList (bv D) (by rw [bv_length, hdl]; simp))
  have HR4 := Lib.hid (hr3.setRow (bv D))
  have HB4 := Lib.hid (below_setRow hb4 hwR (bv D).toArray)
  have HD := Lib.hid hD
  clear hr3 hdl hD hb4
  go_wp2_with ((with_reducible refine wpList_store_part ?_ 23 (.tmp 2) (.tmp 6) ?_ R 0 (bv D) ?_ ?_ 23 _ HR3.out HSZ.out HLE.out (bv_one _) ?_); rfl; rfl; rfl; rfl; rw [HSP.out])
  refine bodyPost_ret (v := .agg (bv D).toArray) ?_ rfl ⟨by rw [HD.out], by rw [HG.out]; exact HB4.out⟩
  exact results_cell_row rfl _ _ R 23 _ (0, 0) (.array 32 5) rfl HR4.out Tryd.underlying23 rfl (by rw [List.size_toArray]; exact HSZ.out)

set_option maxHeartbeats 4000000 in
theorem refroot_any (w : World) (M : Msg) (sl : Value) (hm : M.Ranged) (hr : BRow w w.heap.size sl M.l) (hl : M.l.length ≤ 500) :
    Calls Tryd.prog 13 #[.agg (mc M sl).toArray] w fun e w' => e = .returned (.agg (bv (digest (msgB M))).toArray) ∧ Below w.heap.size w w' := by
  have HLN := Lib.hid (msgB_small hm hl)
  have HB0 := Lib.hid (((Below.refl w.heap.size w).alloc (Nat.le_refl _) (.cells (mc M sl).toArray 29)).alloc (by simp) (.cells (Array.replicate 32 (.int .u8 0)) 23))
  have HR0 := Lib.hid (Blk.newAt (w.alloc (.cells (mc M sl).toArray 29)) 23 (Array.replicate 32 (.int .u8 0)) (w.heap.size + 1) (by simp))
  have HK0 := Lib.hid (show Blk ((w.alloc (.cells (mc M sl).toArray 29)).alloc (.cells (Array.replicate 32 (.int .u8 0)) 23)) w.heap.size 29 (mc M sl) from (Blk.new w 29 (mc M sl).toArray).alloc _)
  have HBT := Lib.hid (hr.bits HB0.out)
  have HF := Lib.hid hm.fits
  have HM := Lib.hid hm
  have hwR : w.heap.size ≤ w.heap.size + 1 := by omega
  clear hr hm
  go_enter Tryd.func13, Tryd.ntmps13
  go_upto_region 1 with fail
  have hrep : (Array.replicate 32 (Value.int .u8 0)) = #[.int .u8 0, .int .u8 0, .int .u8 0, .int .u8 0, .int .u8 0, .int .u8 0, .int .u8 0, .int .u8 0, .int .u8 0, .int .u8 0, .int .u8 0, .int .u8 0, .int .u8 0, .int .u8 0, .int .u8 0, .int .u8 0, .int .u8 0, .int .u8 0, .int .u8 0, .int .u8 0, .int .u8 0, .int .u8 0, .int .u8 0, .int .u8 0, .int .u8 0, .int .u8 0, .int .u8 0, .int .u8 0, .int .u8 0, .int .u8 0, .int .u8 0, .int .u8 0] := rfl
  rw [← hrep]
  generalize (w.alloc (.cells (mc M sl).toArray 29)).alloc (.cells (Array.replicate 32 (.int .u8 0)) 23) = w1 at HB0 HR0 HK0 HBT ⊢
  obtain ⟨R, hR⟩ : ∃ R, R = w.heap.size + 1 := ⟨_, rfl⟩
  rw [← hR] at hwR HR0 ⊢
  clear hrep hR
  generalize hg : w.heap.size = g at HK0 ⊢
  have HG := Lib.hid hg
  rw [hg] at hwR
  have HBG := Lib.hid (show Below g w w1 by rw [← hg]; exact HB0.out)
  clear hg
  go_wp2_with ((with_reducible refine wpList_load_msg (.tmp 1) ?_ ?_ g M sl ?_ HK0.out HF.out ?_); rfl; rfl; rfl)
  refine (refbytes_any w1 M sl HM.out HBT.out hl).mono ?_
  rintro e w2 ⟨rfl, hb2⟩
  have HB2 := Lib.hid (HB0.out.trans (hb2.mono HB0.out.size))
  have HR2 := Lib.hid (HR0.out.below hb2 HR0.out.lt)
  clear hb2
  go_wp2_with fail
  refine (refof_any w2 (msgB M) (by have := HLN.out; omega)).mono ?_
  rintro e w3 ⟨rfl, hb3⟩
  have hr3 := HR2.out.below hb3 HR2.out.lt
  have hb4 : Below g w w3 := by rw [← HG.out]; exact HB2.out.trans (hb3.mono HB2.out.size)
  clear hb3
  obtain ⟨D, hD⟩ : ∃ D, D = digest (msgB M) := ⟨_, rfl⟩
  rw [← hD]
  have hdl : D.length = 32 := by rw [hD]; exact digest_length _
  have HR3 := Lib.hid hr3
  have HSZ := Lib.hid (show (Tryd.prog.info? 23).map (·.size) = some (bv D).length by rw [bv_length, hdl]; exact Tryd.size23)
  have HLE := Lib.hid (show 0 + (bv D).length ≤ (Array.replicate 32 (Value.int .u8 0)).toList.length by rw [bv_length, hdl]; simp)
  have HSP := Lib.hid (splice_all (Array.replicate 32 (Value.int .u8 0)).toList (bv D) (by rw [bv_length, hdl]; simp))
  have HR4 := Lib.hid (hr3.setRow (bv D))
  have HB4 := Lib.hid (below_setRow hb4 hwR (bv D).toArray)
  have HD := Lib.hid hD
  clear hr3 hdl hD hb4
  go_wp2_with ((with_reducible refine wpList_store_part ?_ 23 (.tmp 2) (.tmp 5) ?_ R 0 (bv D) ?_ ?_ 23 _ HR3.out HSZ.out HLE.out (bv_one _) ?_); rfl; rfl; rfl; rfl; rw [HSP.out])
  refine bodyPost_ret (v := .agg (bv D).toArray) ?_ rfl ⟨by rw [HD.out], by rw [HG.out]; exact HB4.out⟩
  exact results_cell_row rfl _ _ R 23 _ (0, 0) (.array 32 5) rfl HR4.out Tryd.underlying23 rfl (by rw [List.size_toArray]; exact HSZ.out)
end Go.Proofs.YtickcajihaejkaaDoor
