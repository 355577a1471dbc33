/-
  The texts Alive11, one behind the other.
-/
import Derived.Test.YtpamifdcbnkcdaaCDo11
import Derived.Lib.BytesEntry
/-
  The document's and the program's weights of two children (alive).
-/
namespace Go.Proofs.Ytpamifdcbnkcdaa
open Go Go.RowKit
set_option maxRecDepth 10000
attribute [local go_sem] root_eqW

def al1 : List Nd := [(nmN 0, 0, -1), (nmN 1, 1, 0)]
def al2 : List Nd := [(nmN 0, 0, -1), (nmN 1, 1, 0), (nmN 2, 1, 0)]
theorem al_add1 : addT 9 [(nmN 0, 0, -1)] (nmN 1) (nmN 0) 1 = (0, al1) := by decide +kernel
theorem al_add2 : addT 9 al1 (nmN 2) (nmN 0) 1 = (0, al2) := by decide +kernel
theorem al_head0 : pnm al2 (hdW al2 (List.replicate al2.length 0) : Int) = nmN 2 := by decide +kernel
theorem al_app : appW al2 (List.replicate al2.length 0) [(nmN 1, 5)] = (0, [0, 5, 0]) := by decide +kernel
theorem al_head1 : pnm al2 (hdW al2 [0, 5, 0] : Int) = nmN 1 := by decide +kernel
theorem al_wt : tellZ al2 ([0, 5, 0] : List Int).length (nmN 0) 0 (wtW al2 [0, 5, 0]) = 5 := by decide +kernel
theorem al_own : tellZ al2 ([0, 5, 0] : List Int).length (nmN 0) 0 (owZ [0, 5, 0]) = 0 := by decide +kernel

set_option maxHeartbeats 8000000 in
theorem alive_any (w : World) : Calls Try.prog 9 #[] w fun e w' => e = .returned (.bool true) ∧ Below w.heap.size w w' := by
  obtain ⟨i1, hi1, hz1, hy1, hb1'⟩ := info_parts Try.infoDl
  have HL1 := Lib.hid (nmN_len 1)
  have HL2 := Lib.hid (nmN_len 2)
  have HL0 := Lib.hid (nmN_len 0)
  have HBD := Lib.hid (built_dl (nmN 1) 5 HL1.out)
  have HD33 := Lib.hid (dlv_length (d := (nmN 1, 5)) HL1.out)
  have H033 := Lib.hid (show 0 < 33 by decide)
  have H24 := Lib.hid (show 1 * 33 ≤ 2 ^ 24 by decide)
  have HB := Lib.hid (Below.refl w.heap.size w)
  go_enter Try.func9, Try.ntmps9
  go_wp2_with fail
  refine (name_any w 0).mono ?_
  rintro e w0 ⟨rfl, hbc⟩
  replace HB := Lib.hid (HB.out.trans (hbc.mono HB.out.size))
  clear hbc
  go_wp2_with fail
  refine (new_ok w0 (nmN 0) 0 9 (nmN_len 0) (by decide) (by decide) (by decide) (by decide)).mono ?_
  rintro e w1 ⟨G, tb, rfl, ht, hg, hbc⟩
  have HT := Lib.hid ht
  have HG := Lib.hid (hg.mono HB.out.size)
  replace HB := Lib.hid (HB.out.trans (hbc.mono HB.out.size))
  clear ht hg hbc
  go_wp2_with fail
  refine (name_any w1 1).mono ?_
  rintro e w2 ⟨rfl, hbc⟩
  replace HT := Lib.hid (HT.out.below hbc)
  replace HB := Lib.hid (HB.out.trans (hbc.mono HB.out.size))
  clear hbc
  go_wp2_with fail
  refine (name_any w2 0).mono ?_
  rintro e w3 ⟨rfl, hbc⟩
  replace HT := Lib.hid (HT.out.below hbc)
  replace HB := Lib.hid (HB.out.trans (hbc.mono HB.out.size))
  clear hbc
  go_wp2_with fail
  refine (add_any w3 G tb [(nmN 0, 0, -1)] 9 (nmN 1) (nmN 0) 1 HT.out (nmN_len _) (nmN_len _)).mono ?_
  rintro e w4 ⟨rfl, G1, ht, hk, hn⟩
  rw [al_add1] at ht ⊢
  have HT := Lib.hid ht
  have HG' := HG.out.new hn HB.out.size
  replace HB := Lib.hid (HB.out.trans (hk.below HB.out.size HG.out))
  have HG := Lib.hid HG'
  clear ht hk hn HG'
  go_wp2_with fail
  refine (name_any w4 2).mono ?_
  rintro e w5 ⟨rfl, hbc⟩
  replace HT := Lib.hid (HT.out.below hbc)
  replace HB := Lib.hid (HB.out.trans (hbc.mono HB.out.size))
  clear hbc
  go_wp2_with fail
  refine (name_any w5 0).mono ?_
  rintro e w6 ⟨rfl, hbc⟩
  replace HT := Lib.hid (HT.out.below hbc)
  replace HB := Lib.hid (HB.out.trans (hbc.mono HB.out.size))
  clear hbc
  go_wp2_with fail
  refine (add_any w6 G1 tb al1 9 (nmN 2) (nmN 0) 1 HT.out (nmN_len _) (nmN_len _)).mono ?_
  rintro e wc ⟨rfl, G2, ht, hk, hn⟩
  rw [al_add2] at ht ⊢
  have HT := Lib.hid ht
  have HG' := HG.out.new hn HB.out.size
  replace HB := Lib.hid (HB.out.trans (hk.below HB.out.size HG.out))
  have HG := Lib.hid HG'
  clear ht hk hn HG'
  go_wp2_with fail
  refine (wnew_any wc G2 tb al2 9 HT.out).mono ?_
  rintro e w7 ⟨F, wb, rfl, hw, hg, hbc⟩
  have HA := Lib.hid (Away.high HT.out.low hg)
  have HW := Lib.hid hw
  have HF := Lib.hid (hg.mono HB.out.size)
  replace HT := Lib.hid (HT.out.below hbc)
  replace HB := Lib.hid (HB.out.trans (hbc.mono HB.out.size))
  clear hw hg hbc
  go_wp2_with fail
  refine (head_any w7 G2 tb al2 9 F wb (List.replicate al2.length 0) HT.out HW.out).mono ?_
  rintro e w8 ⟨rfl, hbc⟩
  rw [al_head0]
  replace HT := Lib.hid (HT.out.below hbc)
  replace HW := Lib.hid (HW.out.below hbc)
  replace HB := Lib.hid (HB.out.trans (hbc.mono HB.out.size))
  clear hbc
  go_wp2_with fail
  refine (name_any w8 2).mono ?_
  rintro e w9 ⟨rfl, hbc⟩
  replace HT := Lib.hid (HT.out.below hbc)
  replace HW := Lib.hid (HW.out.below hbc)
  replace HB := Lib.hid (HB.out.trans (hbc.mono HB.out.size))
  clear hbc
  have he2 := root_eqW w9 (nmN 2) (nmN 2) HL2.out HL2.out
  rw [show (nmN 2 == nmN 2) = true from beq_self_eq_true _] at he2
  go_wp2_with fail
  refine (name_any w9 1).mono ?_
  rintro e wd ⟨rfl, hbc⟩
  replace HT := Lib.hid (HT.out.below hbc)
  replace HW := Lib.hid (HW.out.below hbc)
  replace HB := Lib.hid (HB.out.trans (hbc.mono HB.out.size))
  clear hbc he2
  go_wp2_with (first
    | ((with_reducible refine wpList_build_l 57 #[(0, .tmp 25), (1, .const (.int .i64 5))] _ _ HBD.out ?_ ?_ ?_ ?_); rfl; rfl; rfl)
    | ((with_reducible refine wpList_build_row ?_ 54 57 (.tmp 26) ?_ (dlv (nmN 1, 5)) ?_ i1 (.agg (dlv dl0).toArray) (s := 33) H033.out HD33.out Try.underlying54 hi1 hz1 hy1 H24.out ?_); rfl; rfl; rfl))
  have hbx : Below wd.heap.size wd (wd.alloc (.cells (dlv (nmN 1, 5)).toArray 57)) := (Below.refl _ _).alloc (Nat.le_refl _) _
  have hL : Lies (wd.alloc (.cells (dlv (nmN 1, 5)).toArray 57)) (wd.alloc (.cells (dlv (nmN 1, 5)).toArray 57)).heap.size (some ⟨wd.heap.size, 0, none⟩) wd.heap.size 0 (dvs [(nmN 1, 5)]) := by
    have hbk := Blk.new wd 57 (dlv (nmN 1, 5)).toArray
    rw [dvs_sole]
    exact ⟨fun _ => rfl, fun _ => by simp, fun j u hj => by rw [Nat.zero_add, hbk.cell]; exact hj⟩
  refine (apply_any (wd.alloc (.cells (dlv (nmN 1, 5)).toArray 57)) G2 tb al2 9 F wb (List.replicate al2.length 0) _ _ [(nmN 1, 5)] (some ⟨wd.heap.size, 0, none⟩) 1 wd.heap.size 0 (HT.out.below hbx) (HW.out.below hbx).2.2.2 HA.out HW.out.2.1 HW.out.1 (dls_one _ _ HL1.out) (by decide) hL (fun _ hm => by have := HW.out.low _ hm; omega)).mono ?_
  rintro e we ⟨rfl, F2, hw2, hk2, hn2⟩
  rw [al_app] at hw2 ⊢
  have HB1 := HB.out.trans (hbx.mono HB.out.size)
  have HWe := Lib.hid hw2
  have HTe := Lib.hid ((HT.out.below hbx).keep hk2 HA.out)
  replace HB := Lib.hid (HB1.trans (hk2.below HB1.size HF.out))
  clear HB1 hbx hL hw2 hk2 hn2 HT HW HA HF
  go_wp2_with fail
  refine (head_any we G2 tb al2 9 F2 wb [0, 5, 0] HTe.out HWe.out).mono ?_
  rintro e wf ⟨rfl, hbc⟩
  rw [al_head1]
  replace HTe := Lib.hid (HTe.out.below hbc)
  replace HWe := Lib.hid (HWe.out.below hbc)
  replace HB := Lib.hid (HB.out.trans (hbc.mono HB.out.size))
  clear hbc
  go_wp2_with fail
  refine (name_any wf 1).mono ?_
  rintro e wg ⟨rfl, hbc⟩
  replace HTe := Lib.hid (HTe.out.below hbc)
  replace HWe := Lib.hid (HWe.out.below hbc)
  replace HB := Lib.hid (HB.out.trans (hbc.mono HB.out.size))
  clear hbc
  have he1 := root_eqW wg (nmN 1) (nmN 1) HL1.out HL1.out
  rw [show (nmN 1 == nmN 1) = true from beq_self_eq_true _] at he1
  go_wp2_with fail
  refine (name_any wg 0).mono ?_
  rintro e wh ⟨rfl, hbc⟩
  replace HTe := Lib.hid (HTe.out.below hbc)
  replace HWe := Lib.hid (HWe.out.below hbc)
  replace HB := Lib.hid (HB.out.trans (hbc.mono HB.out.size))
  clear hbc he1
  go_wp2_with fail
  refine (wt_any wh G2 tb al2 9 F2 wb [0, 5, 0] (nmN 0) HTe.out HWe.out HL0.out).mono ?_
  rintro e wi ⟨rfl, hbc⟩
  rw [al_wt]
  replace HTe := Lib.hid (HTe.out.below hbc)
  replace HWe := Lib.hid (HWe.out.below hbc)
  replace HB := Lib.hid (HB.out.trans (hbc.mono HB.out.size))
  clear hbc
  go_wp2_with fail
  refine (name_any wi 0).mono ?_
  rintro e wj ⟨rfl, hbc⟩
  replace HTe := Lib.hid (HTe.out.below hbc)
  replace HWe := Lib.hid (HWe.out.below hbc)
  replace HB := Lib.hid (HB.out.trans (hbc.mono HB.out.size))
  clear hbc
  go_wp2_with fail
  refine (own_any wj G2 tb al2 9 F2 wb [0, 5, 0] (nmN 0) HTe.out HWe.out HL0.out).mono ?_
  rintro e wk ⟨rfl, hbc⟩
  rw [al_own]
  replace HB := Lib.hid (HB.out.trans (hbc.mono HB.out.size))
  clear hbc
  go_wp2_with fail
  go_ret
  exact ⟨rfl, HB.out⟩
end Go.Proofs.Ytpamifdcbnkcdaa
