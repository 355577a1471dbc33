/-
  What alive answers: true.
-/
import Derived.Test.YtnbdpalbompjlaaDoorM14
import Derived.Test.YtnbdpalbompjlaaDoorSealSign
import Derived.Test.YtnbdpalbompjlaaDoorM15
import Derived.Test.YtnbdpalbompjlaaDoorSeal1
import Derived.Test.YtnbdpalbompjlaaDoorGreat8
namespace Go.Proofs.YtnbdpalbompjlaaDoor
open Go.RowKit
set_option maxRecDepth 100000

theorem comm_sole (s : Int) (h : 0 ≤ s ∧ s ≤ 1073741824) : comm s 1 1 = [0] := by
  have hl := comm_length s 1 1 h (by omega)
  have hm := comm_mem s 1 1
  match hc : comm s 1 1, hl with
  | [x], _ =>
    rw [hc] at hm
    have := hm x (by simp)
    have : x = 0 := by omega
    rw [this]
def alV : List (Int × ByteArray) := [(5, ⟨#[107]⟩)]
/-- The block, and the sum, that alive asks for. -/
def alB : Msg := startMsg 1 3
def alS : Msg := ⟨3, 3, List.replicate 32 0, 0, 0, [true], List.replicate 16 0⟩
theorem alS_fits : alS.Fits := ⟨by simp [alS], by simp [alS], by simp [alS]⟩
theorem alB_spk : spk [0] alB = some [0] := by decide +kernel
theorem alS_votes : votesM [0] alS = [(0, 3, List.replicate 32 0)] := by decide +kernel
theorem alB_tag : (sealT alV [0] alB == List.replicate 16 0) = false := by
  have e : sealT alV [0] alB = tag [107] (msgP alB) := sealT_sole (vs := alV) alB_spk (by decide)
  rw [e]
  decide +kernel

set_option maxHeartbeats 8000000 in
theorem alive_any (w : World) (hT : Tabs w) : Calls Tryd.prog 9 #[] w fun e w' => e = .returned (.bool true) ∧ Below w.heap.size w w' := by
  have HT := Lib.hid hT
  clear hT
  go_enter Tryd.func9, Tryd.ntmps9
  go_upto_region 2 with fail
  have hv0 := Blk.new w 59 #[.int .i64 5, .string ⟨#[107]⟩]
  have hb0 := (Below.refl w.heap.size w).alloc (Nat.le_refl _) (.cells #[.int .i64 5, .string ⟨#[107]⟩] 59)
  obtain ⟨cs, hcs⟩ : ∃ cs : List Value, cs = [.slice (some ⟨w.heap.size, 0, none⟩) 1 1, .int .i64 4, .int .i64 1, .int .i64 1, .int .i64 1, .int .i64 1, .int .i64 1, .int .i64 1, .int .i64 1, .int .i64 1, .int .i64 1, .int .i64 1] := ⟨_, rfl⟩
  rw [show (#[.slice (some ⟨w.heap.size, 0, none⟩) 1 1, .int .i64 4, .int .i64 1, .int .i64 1, .int .i64 1, .int .i64 1, .int .i64 1, .int .i64 1, .int .i64 1, .int .i64 1, .int .i64 1, .int .i64 1] : Array Value) = cs.toArray by rw [hcs]]
  have hk1 : Blk _ (w.heap.size + 1) 24 cs := Blk.newAt (w.alloc (.cells #[.int .i64 5, .string ⟨#[107]⟩] 59)) 24 cs.toArray (w.heap.size + 1) (by simp)
  have hv1 := hv0.alloc (.cells cs.toArray 24)
  have hb1 := hb0.alloc hb0.size (.cells cs.toArray 24)
  generalize (w.alloc (.cells #[.int .i64 5, .string ⟨#[107]⟩] 59)).alloc (.cells cs.toArray 24) = w1 at hk1 hv1 hb1 ⊢
  have HC1 := Lib.hid hk1
  have HB1 := Lib.hid hb1
  have HCF1 := Lib.hid (show CfgOk w1 cs 1 alV from ⟨some ⟨w.heap.size, 0, none⟩, 1, w.heap.size, 0, 4, 1, 1, 1, 1, 1, 1, 1, 1, 1, hcs, by decide, by decide, by decide, by decide, by decide, by decide, fun _ => rfl, fun _ => hv1.lt, fun j u hj => by rw [Nat.zero_add]; exact (hv1.cell j).trans hj⟩)
  have HT1 := Lib.hid (HT.out.below hb1 HT.out.size)
  clear hv0 hb0 hcs hk1 hv1 hb1 HT
  obtain ⟨D, hD⟩ : ∃ D, D = w.heap.size + 1 := ⟨_, rfl⟩
  rw [← hD] at HC1 ⊢
  clear hD
  have hcm := comm_sole 3 (by omega)
  have HSG := Lib.hid (sign_any w1 HT1.out HCF1.out alB (.slice none 0 0) (startMsg_fits 1 3) (BRow.nil _ _))
  rw [show comm alB.s alV.length 1 = [0] from hcm, alB_spk] at HSG
  obtain ⟨SM, hSM⟩ : ∃ SM, SM = signM alV [0] alB := ⟨_, rfl⟩
  rw [← hSM] at HSG
  have hSF : SM.Fits := by rw [hSM]; exact signM_fits (startMsg_fits 1 3)
  have HSF := Lib.hid hSF
  have hSY : SM = { alB with G := sealT alV [0] alB } := by rw [hSM]; exact signM_yes (by rw [alB_spk]; rfl)
  have HSC := Lib.hid (show sealC alV (comm SM.s alV.length 1) SM = true by
    have h := sealC_sign (vs := alV) (K := [0]) (M := alB) (by rw [alB_spk]; rfl)
    rw [← hSM] at h
    rw [show SM.s = 3 by rw [hSY]; rfl, show comm 3 alV.length 1 = [0] from hcm]
    exact h)
  have HSN := Lib.hid (show (SM.G == List.replicate 16 0) = false by rw [hSY]; exact alB_tag)
  clear hSM hSF hSY
  go_wp2_with (first
    | ((with_reducible refine wpList_load_cfg (.tmp 1) ?_ ?_ D cs ?_ HC1.out HCF1.out.len ?_); rfl; rfl; rfl)
    | ((with_reducible refine wpList_build_msg ?_ 32 #[(0, .const (.int .i64 1)), (1, .const (.int .i64 3))] ?_ (mc alB (.slice none 0 0)).toArray ?_ ?_); rfl; rfl; exact msg_built 1 3))
  refine HSG.out.mono ?_
  rintro e w2 ⟨su, rfl, hrow, hb2⟩
  have HC2 := Lib.hid (HC1.out.below hb2 HC1.out.lt)
  have HB2 := Lib.hid (HB1.out.trans (hb2.mono HB1.out.size))
  have HCF2 := Lib.hid (HCF1.out.below hb2)
  have HT2 := Lib.hid (HT1.out.below hb2 HT1.out.size)
  have HO := Lib.hid hrow.one
  have hb3 := below_setRow ((Below.refl w2.heap.size w2).alloc (Nat.le_refl _) (.cells zcells 32)) (Nat.le_refl w2.heap.size) (mc SM su).toArray
  have HZ := Lib.hid (zero_msg w2)
  have hm3 := HZ.out.setRow (mc SM su)
  have hr3 := hrow.bits hb3
  obtain ⟨w3, hw3⟩ : ∃ x, (w2.alloc (.cells zcells 32)).setRow w2.heap.size (mc SM su).toArray = x := ⟨_, rfl⟩
  rw [hw3] at hb3 hm3 hr3
  have HM3 := Lib.hid hm3
  have HR3 := Lib.hid hr3
  have HC3 := Lib.hid (HC2.out.below hb3 HC2.out.lt)
  have HB3 := Lib.hid (HB2.out.trans (hb3.mono HB2.out.size))
  have HCF3 := Lib.hid (HCF2.out.below hb3)
  have HT3 := Lib.hid (HT2.out.below hb3 HT2.out.size)
  have HW3 := Lib.hid hw3
  clear hrow hb2 hb3 hm3 hr3 hw3 HC1 HC2 HB1 HB2 HCF1 HCF2 HT1 HT2 HSG
  go_upto_region 3 with ((with_reducible refine wpList_store_msg (.tmp 2) (.tmp 12) ?_ ?_ w2.heap.size zeroMsg SM (.slice none 0 0) su ?_ ?_ ?_ zeroMsg_fits HSF.out ?_ ?_); rfl; rfl; rfl; rfl; exact HZ.out; exact HO.out)
  rw [zcells_lit, HW3.out]
  clear HZ HO HW3
  generalize w2.heap.size = G at HM3 ⊢
  have hb4 := (Below.refl w3.heap.size w3).alloc (Nat.le_refl _) (.cells #[.bool true] 4)
  have HBT := Lib.hid (show BRow (w3.alloc (.cells #[.bool true] 4)) (w3.alloc (.cells #[.bool true] 4)).heap.size (.slice (some ⟨w3.heap.size, 0, none⟩) 1 1) [true] from (held_new w3 4 (ov [true]) 1 rfl (by unfold maxLen; omega)).brow)
  have HVT := Lib.hid (votes_any (w3.alloc (.cells #[.bool true] 4)) (HT3.out.below hb4 HT3.out.size) (HCF3.out.below hb4) alS (.slice (some ⟨w3.heap.size, 0, none⟩) 1 1) alS_fits HBT.out)
  rw [show comm alS.s alV.length 1 = [0] from hcm, alS_votes] at HVT
  have HC4 := Lib.hid (HC3.out.alloc (.cells #[.bool true] 4))
  have HM4 := Lib.hid (HM3.out.alloc (.cells #[.bool true] 4))
  have HR4 := Lib.hid (HR3.out.bits hb4)
  have HB4 := Lib.hid (HB3.out.alloc HB3.out.size (.cells #[.bool true] 4))
  have HCF4 := Lib.hid (HCF3.out.below hb4)
  have HT4 := Lib.hid (HT3.out.below hb4 HT3.out.size)
  clear hb4 HBT hcm
  go_wp2_with (first
    | ((with_reducible refine wpList_load_cfg (.tmp 1) ?_ ?_ D cs ?_ HC3.out HCF3.out.len ?_); rfl; rfl; rfl)
    | ((with_reducible refine wpList_build_msg ?_ 32 #[(0, .const (.int .i64 3)), (1, .const (.int .i64 3)), (5, .tmp 15)] ?_ (mc alS (.slice (some ⟨w3.heap.size, 0, none⟩) 1 1)).toArray ?_ ?_); rfl; rfl; exact built_bits 3 3 (some ⟨w3.heap.size, 0, none⟩) 1 1 [true]))
  generalize w3.alloc (.cells #[.bool true] 4) = w4 at HVT HC4 HM4 HR4 HB4 HCF4 HT4 ⊢
  refine HVT.out.mono ?_
  rintro e w5 ⟨v, rfl, hwd, hb5⟩
  have HC5 := Lib.hid (HC4.out.below hb5 HC4.out.lt)
  have HM5 := Lib.hid (HM4.out.below hb5 HM4.out.lt)
  have HR5 := Lib.hid (HR4.out.bits hb5)
  have HB5 := Lib.hid (HB4.out.trans (hb5.mono HB4.out.size))
  have HCF5 := Lib.hid (HCF4.out.below hb5)
  have HT5 := Lib.hid (HT4.out.below hb5 HT4.out.size)
  obtain ⟨_, ao, cap, vb, vo, rfl, hls⟩ := hwd.vrow (by intro x hx; rw [List.mem_singleton] at hx; rw [hx]; simp)
  have ha := hls.addr (by simp [vv, vcell])
  subst ha
  have hc1 := hls.cells 1 (.int .i64 3) (by simp [vv, vcell])
  have HLS := Lib.hid hls
  clear hwd hb5 hc1 hls HC3 HM3 HR3 HB3 HCF3 HT3 HC4 HM4 HR4 HB4 HCF4 HT4 HVT
  rw [List.length_singleton]
  have HCK := Lib.hid (check_any w5 HT5.out HCF5.out SM su HSF.out HR5.out)
  rw [HSC.out] at HCK
  go_wp2_with (first
    | ((with_reducible refine wpList_load_msgG (.tmp 2) ?_ ?_ G SM su ?_ HM5.out HSF.out ?_); rfl; rfl; rfl)
    | ((with_reducible refine wpList_load_cfg (.tmp 1) ?_ ?_ D cs ?_ HC5.out HCF5.out.len ?_); rfl; rfl; rfl))
  refine HCK.out.mono ?_
  rintro e w6 ⟨rfl, hb6⟩
  have HM6 := Lib.hid (HM5.out.below hb6 HM5.out.lt)
  have HB6 := Lib.hid (HB5.out.trans (hb6.mono HB5.out.size))
  have HL6 := Lib.hid (HLS.out.below hb6)
  have HTM := Lib.hid (fun j v hj => (HM6.out.cell (37 + j)).trans (mc_G HSF.out su j v hj))
  have hte := tag_eq w6 SM.G (List.replicate 16 0) HSF.out.G zeros16
  rw [HSN.out, zero16] at hte
  have hc1 := HL6.out.cells 1 (.int .i64 3) (by simp [vv, vcell])
  clear hb6 HM5 HB5 HC5 HR5 HCF5 HT5 HCK
  go_wp2_with ((with_reducible refine wpList_load_tag (.tmp 25) ?_ ?_ G 37 SM.G ?_ HSF.out.G HTM.out ?_); rfl; rfl; rfl)
  go_ret
  exact ⟨rfl, HB6.out⟩
end Go.Proofs.YtnbdpalbompjlaaDoor
