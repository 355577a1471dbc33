/-
  The texts TwiceWalk12, one behind the other.
-/
import Derived.Test.YtjodhagjfjgbcaaCAlive12
import Derived.Test.YtjodhagjfjgbcaaCKeep12
import Derived.Test.YtjodhagjfjgbcaaTwiceM9
/-
  PruneTwice: the walk.
-/
namespace Go.Proofs.Ytjodhagjfjgbcaa
open Go Go.RowKit
set_option maxRecDepth 10000

set_option maxHeartbeats 16000000 in
theorem twice_any (w : World) (ao : Option Addr) (len cap g off : Nat) (l : List Bk) (na nb : Int) (hl : l.length = len) (h : Lies w w.heap.size ao g off (bks l)) :
    Calls Try.prog 5 #[.slice ao len cap, .int .i64 na, .int .i64 nb] w fun e w' => e = .returned (.bool true) ∧ Below w.heap.size w w' := by
  have HL0 := Lib.hid h
  clear h
  go_enter Try.func5, Try.ntmps5
  go_wp2_with fail
  refine (alive_any w).mono ?_
  rintro e w1 ⟨rfl, hbc⟩
  have HB1 := Lib.hid hbc
  clear hbc
  go_wp2_with fail
  refine (made_any w1 ao len cap g off l hl (HL0.out.below HB1.out)).mono ?_
  rintro e w2 (⟨_, rfl, hbc⟩ | ⟨tb, wb, rb, _, rfl, ho⟩)
  · have HB := Lib.hid (HB1.out.trans (hbc.mono HB1.out.size))
    clear hbc
    go_wp2_with fail
    go_ret
    exact ⟨rfl, HB.out⟩
  obtain ⟨⟨G, F, M, R, mb, ht, hw, hd⟩, hbc⟩ := ho
  have HT := Lib.hid ht
  have HW := Lib.hid hw
  have HD := Lib.hid hd
  have HB := Lib.hid (HB1.out.trans (hbc.mono HB1.out.size))
  have HGD := Lib.hid (mkT_good l)
  have HLW := Lib.hid (mkO_length l)
  have HR0 := Lib.hid (mkT_root l)
  clear ht hw hd hbc HB1 HL0 hl
  generalize mkT l = t at HT HW HD HGD HLW HR0
  generalize mkO l = own at HW HD HLW
  have HM256 := Lib.hid (show t.length ≤ 256 ∧ 1 ≤ t.length by have := HGD.out.room; have := HGD.out.most256; have := HGD.out.pos; omega)
  clear HD
  go_wp2_with fail
  refine (name_any w2 na).mono ?_
  rintro e w3 ⟨rfl, hbc⟩
  replace HT := Lib.hid (HT.out.below hbc)
  replace HW := Lib.hid (HW.out.below hbc)
  replace HB := Lib.hid (HB.out.trans (hbc.mono HB.out.size))
  clear hbc
  go_wp2_with fail
  refine (name_any w3 nb).mono ?_
  rintro e w4 ⟨rfl, hbc⟩
  replace HT := Lib.hid (HT.out.below hbc)
  replace HW := Lib.hid (HW.out.below hbc)
  replace HB := Lib.hid (HB.out.trans (hbc.mono HB.out.size))
  clear hbc
  have HXL := Lib.hid (nmN_len na)
  have HYL := Lib.hid (nmN_len nb)
  obtain ⟨x, hx⟩ : ∃ x, nmN na = x := ⟨_, rfl⟩
  obtain ⟨y, hy⟩ : ∃ y, nmN nb = y := ⟨_, rfl⟩
  rw [hx] at HXL ⊢
  rw [hy] at HYL ⊢
  clear hx hy
  have hxl := HXL.out
  have hyl := HYL.out
  have HZL := Lib.hid zero32_len
  have HZ1 := Lib.hid (show Blk ((w4.alloc (.cells #[.int .u8 0, .int .u8 0, .int .u8 0, .int .u8 0, .int .u8 0, .int .u8 0, .int .u8 0, .int .u8 0, .int .u8 0, .int .u8 0, .int .u8 0, .int .u8 0, .int .u8 0, .int .u8 0, .int .u8 0, .int .u8 0, .int .u8 0, .int .u8 0, .int .u8 0, .int .u8 0, .int .u8 0, .int .u8 0, .int .u8 0, .int .u8 0, .int .u8 0, .int .u8 0, .int .u8 0, .int .u8 0, .int .u8 0, .int .u8 0, .int .u8 0, .int .u8 0] 24)).alloc (.cells #[.int .u8 0, .int .u8 0, .int .u8 0, .int .u8 0, .int .u8 0, .int .u8 0, .int .u8 0, .int .u8 0, .int .u8 0, .int .u8 0, .int .u8 0, .int .u8 0, .int .u8 0, .int .u8 0, .int .u8 0, .int .u8 0, .int .u8 0, .int .u8 0, .int .u8 0, .int .u8 0, .int .u8 0, .int .u8 0, .int .u8 0, .int .u8 0, .int .u8 0, .int .u8 0, .int .u8 0, .int .u8 0, .int .u8 0, .int .u8 0, .int .u8 0, .int .u8 0] 24)) w4.heap.size 24 (bv zero32) from (blk_zeroR w4).alloc _)
  have HZ2 := Lib.hid (show Blk (((w4.alloc (.cells #[.int .u8 0, .int .u8 0, .int .u8 0, .int .u8 0, .int .u8 0, .int .u8 0, .int .u8 0, .int .u8 0, .int .u8 0, .int .u8 0, .int .u8 0, .int .u8 0, .int .u8 0, .int .u8 0, .int .u8 0, .int .u8 0, .int .u8 0, .int .u8 0, .int .u8 0, .int .u8 0, .int .u8 0, .int .u8 0, .int .u8 0, .int .u8 0, .int .u8 0, .int .u8 0, .int .u8 0, .int .u8 0, .int .u8 0, .int .u8 0, .int .u8 0, .int .u8 0] 24)).alloc (.cells #[.int .u8 0, .int .u8 0, .int .u8 0, .int .u8 0, .int .u8 0, .int .u8 0, .int .u8 0, .int .u8 0, .int .u8 0, .int .u8 0, .int .u8 0, .int .u8 0, .int .u8 0, .int .u8 0, .int .u8 0, .int .u8 0, .int .u8 0, .int .u8 0, .int .u8 0, .int .u8 0, .int .u8 0, .int .u8 0, .int .u8 0, .int .u8 0, .int .u8 0, .int .u8 0, .int .u8 0, .int .u8 0, .int .u8 0, .int .u8 0, .int .u8 0, .int .u8 0] 24)).setRow w4.heap.size (bv x).toArray) (w4.heap.size + 1) 24 (bv zero32) from (Blk.newAt (w4.alloc (.cells #[.int .u8 0, .int .u8 0, .int .u8 0, .int .u8 0, .int .u8 0, .int .u8 0, .int .u8 0, .int .u8 0, .int .u8 0, .int .u8 0, .int .u8 0, .int .u8 0, .int .u8 0, .int .u8 0, .int .u8 0, .int .u8 0, .int .u8 0, .int .u8 0, .int .u8 0, .int .u8 0, .int .u8 0, .int .u8 0, .int .u8 0, .int .u8 0, .int .u8 0, .int .u8 0, .int .u8 0, .int .u8 0, .int .u8 0, .int .u8 0, .int .u8 0, .int .u8 0] 24)) 24 (bv zero32).toArray (w4.heap.size + 1) (by simp)).setRow_other _ (by omega))
  have HX := Lib.hid ((HZ1.out.setRow (bv x)).setRow_other (k := w4.heap.size + 1) (bv y).toArray (by omega))
  have HY := Lib.hid (HZ2.out.setRow (bv y))
  have hbx : Below w4.heap.size w4 ((((w4.alloc (.cells #[.int .u8 0, .int .u8 0, .int .u8 0, .int .u8 0, .int .u8 0, .int .u8 0, .int .u8 0, .int .u8 0, .int .u8 0, .int .u8 0, .int .u8 0, .int .u8 0, .int .u8 0, .int .u8 0, .int .u8 0, .int .u8 0, .int .u8 0, .int .u8 0, .int .u8 0, .int .u8 0, .int .u8 0, .int .u8 0, .int .u8 0, .int .u8 0, .int .u8 0, .int .u8 0, .int .u8 0, .int .u8 0, .int .u8 0, .int .u8 0, .int .u8 0, .int .u8 0] 24)).alloc (.cells #[.int .u8 0, .int .u8 0, .int .u8 0, .int .u8 0, .int .u8 0, .int .u8 0, .int .u8 0, .int .u8 0, .int .u8 0, .int .u8 0, .int .u8 0, .int .u8 0, .int .u8 0, .int .u8 0, .int .u8 0, .int .u8 0, .int .u8 0, .int .u8 0, .int .u8 0, .int .u8 0, .int .u8 0, .int .u8 0, .int .u8 0, .int .u8 0, .int .u8 0, .int .u8 0, .int .u8 0, .int .u8 0, .int .u8 0, .int .u8 0, .int .u8 0, .int .u8 0] 24)).setRow w4.heap.size (bv x).toArray).setRow (w4.heap.size + 1) (bv y).toArray) := below_row (below_row (((Below.refl _ w4).alloc (Nat.le_refl _) _).alloc (by simp) _) (Nat.le_refl _) _) (by omega) _
  replace HT := Lib.hid (HT.out.below hbx)
  replace HW := Lib.hid (HW.out.below hbx)
  replace HB := Lib.hid (HB.out.trans (hbx.mono HB.out.size))
  go_upto_region 7 with (first
    | ((with_reducible refine wpList_store_name (.tmp 11) (.tmp 34) ?_ ?_ w4.heap.size zero32 x ?_ ?_ HZ1.out HZL.out hxl ?_); rfl; rfl; rfl; rfl)
    | ((with_reducible refine wpList_store_name (.tmp 12) (.tmp 36) ?_ ?_ (w4.heap.size + 1) zero32 y ?_ ?_ HZ2.out HZL.out hyl ?_); rfl; rfl; rfl; rfl))
  try simp only [Act.put]
  obtain ⟨X, hX⟩ : ∃ X, X = w4.heap.size := ⟨_, rfl⟩
  obtain ⟨Y, hY⟩ : ∃ Y, Y = w4.heap.size + 1 := ⟨_, rfl⟩
  rw [← hY] at HX HY HT HW HB ⊢
  rw [← hX] at HX HY HT HW HB ⊢
  generalize (((w4.alloc (.cells #[.int .u8 0, .int .u8 0, .int .u8 0, .int .u8 0, .int .u8 0, .int .u8 0, .int .u8 0, .int .u8 0, .int .u8 0, .int .u8 0, .int .u8 0, .int .u8 0, .int .u8 0, .int .u8 0, .int .u8 0, .int .u8 0, .int .u8 0, .int .u8 0, .int .u8 0, .int .u8 0, .int .u8 0, .int .u8 0, .int .u8 0, .int .u8 0, .int .u8 0, .int .u8 0, .int .u8 0, .int .u8 0, .int .u8 0, .int .u8 0, .int .u8 0, .int .u8 0] 24)).alloc (.cells #[.int .u8 0, .int .u8 0, .int .u8 0, .int .u8 0, .int .u8 0, .int .u8 0, .int .u8 0, .int .u8 0, .int .u8 0, .int .u8 0, .int .u8 0, .int .u8 0, .int .u8 0, .int .u8 0, .int .u8 0, .int .u8 0, .int .u8 0, .int .u8 0, .int .u8 0, .int .u8 0, .int .u8 0, .int .u8 0, .int .u8 0, .int .u8 0, .int .u8 0, .int .u8 0, .int .u8 0, .int .u8 0, .int .u8 0, .int .u8 0, .int .u8 0, .int .u8 0] 24)).setRow X (bv x).toArray).setRow Y (bv y).toArray = w5 at HX HY HT HW HB ⊢
  clear HZ1 HZ2 HZL hbx hX hY
  have HXC := Lib.hid HX.out.rootAll
  go_wp2_with ((with_reducible refine wpList_load_name (.tmp 11) ?_ ?_ X 0 x ?_ hxl HXC.out ?_); rfl; rfl; rfl)
  rcases plc_cases t x with ⟨p, np, hpn, hpe, hpp, _⟩ | ⟨_, hpp⟩
  rotate_left
  · refine (pall_none w5 G tb t 100 _ x hpp HT.out hxl).mono ?_
    rintro e w6 ⟨rfl, hbc⟩
    replace HB := Lib.hid (HB.out.trans (hbc.mono HB.out.size))
    clear hbc
    go_wp2_with fail
    go_ret
    exact ⟨rfl, HB.out⟩
  refine (pall_ok w5 G tb t 100 F wb own x p hpp HT.out HW.out HLW.out hxl).mono ?_
  rintro e w6 ⟨U, ub, V, vb, rfl, hu, hv, _, hbc⟩
  replace HT := Lib.hid (HT.out.below hbc)
  replace HW := Lib.hid (HW.out.below hbc)
  replace HB := Lib.hid (HB.out.trans (hbc.mono HB.out.size))
  replace HX := Lib.hid (HX.out.below hbc HX.out.lt)
  replace HY := Lib.hid (HY.out.below hbc HY.out.lt)
  have HPL := Lib.hid (List.getElem?_eq_some_iff.1 hpn).1
  have HPN := Lib.hid hpn
  have HPE := Lib.hid hpe
  have HU := Lib.hid hu
  have HV := Lib.hid hv
  have HXC := Lib.hid HX.out.rootAll
  have HYC := Lib.hid HY.out.rootAll
  clear hbc hu hv hpn hpe hpp
  go_wp2_with (first
    | ((with_reducible refine wpList_load_name (.tmp 11) ?_ ?_ X 0 x ?_ hxl HXC.out ?_); rfl; rfl; rfl)
    | ((with_reducible refine wpList_load_name (.tmp 12) ?_ ?_ Y 0 y ?_ hyl HYC.out ?_); rfl; rfl; rfl))
  refine (below_any w6 G tb t 100 x y HT.out hxl hyl).mono ?_
  rintro e w7 ⟨rfl, hbc⟩
  replace HT := Lib.hid (HT.out.below hbc)
  replace HW := Lib.hid (HW.out.below hbc)
  replace HB := Lib.hid (HB.out.trans (hbc.mono HB.out.size))
  replace HX := Lib.hid (HX.out.below hbc HX.out.lt)
  replace HY := Lib.hid (HY.out.below hbc HY.out.lt)
  replace HU := Lib.hid (HU.out.below hbc)
  replace HV := Lib.hid (HV.out.below hbc)
  clear hbc HXC HYC
  obtain ⟨B, hB⟩ : ∃ B, belowT t x y = B := ⟨_, rfl⟩
  rw [hB]
  cases B with
  | false =>
    go_wp2_with fail
    go_ret
    exact ⟨rfl, HB.out⟩
  | true =>
    obtain ⟨q, _, hq, _, _, ⟨ny, hyn, hye⟩, _⟩ := HGD.out.below_at hB
    have HQA := Lib.hid (show abW t p q = true by rw [← HGD.out.below_ab HPN.out hyn, HPE.out, hye]; exact hB)
    have HQL := Lib.hid (List.getElem?_eq_some_iff.1 hyn).1
    have HYN := Lib.hid hyn
    have HYE := Lib.hid hye
    have HQP := Lib.hid hq
    have HUP := Lib.hid (show plc (cutT t p) y = (nuN t p q : Int) by
      have h1 := HGD.out.keep_plc HPL.out hyn
      rw [hye, if_pos HQA.out] at h1
      exact h1)
    have HCG := Lib.hid (HGD.out.cut HPL.out)
    have HYC := Lib.hid HY.out.rootAll
    clear hB hq hyn hye
    go_wp2_with ((with_reducible refine wpList_load_name (.tmp 12) ?_ ?_ Y 0 y ?_ hyl HYC.out ?_); rfl; rfl; rfl)
    refine (pall_ok w7 U ub (cutT t p) 100 V vb (cutO t own p) y (nuN t p q) HUP.out HU.out HV.out (cutO_length t own p) hyl).mono ?_
    rintro e w8 ⟨U1, ub1, V1, vb1, rfl, hu, hv, _, hbc⟩
    replace HT := Lib.hid (HT.out.below hbc)
    replace HW := Lib.hid (HW.out.below hbc)
    replace HB := Lib.hid (HB.out.trans (hbc.mono HB.out.size))
    replace HX := Lib.hid (HX.out.below hbc HX.out.lt)
    replace HY := Lib.hid (HY.out.below hbc HY.out.lt)
    replace HU := Lib.hid (HU.out.below hbc)
    replace HV := Lib.hid (HV.out.below hbc)
    have HU1 := Lib.hid hu
    have HV1 := Lib.hid hv
    clear hbc hu hv HYC HU HV
    have HYC := Lib.hid HY.out.rootAll
    go_wp2_with ((with_reducible refine wpList_load_name (.tmp 12) ?_ ?_ Y 0 y ?_ hyl HYC.out ?_); rfl; rfl; rfl)
    refine (pall_ok w8 G tb t 100 F wb own y q HQP.out HT.out HW.out HLW.out hyl).mono ?_
    rintro e w9 ⟨U2, ub2, V2, vb2, rfl, hu, hv, _, hbc⟩
    replace HT := Lib.hid (HT.out.below hbc)
    replace HW := Lib.hid (HW.out.below hbc)
    replace HB := Lib.hid (HB.out.trans (hbc.mono HB.out.size))
    replace HX := Lib.hid (HX.out.below hbc HX.out.lt)
    replace HY := Lib.hid (HY.out.below hbc HY.out.lt)
    replace HU1 := Lib.hid (HU1.out.below hbc)
    replace HV1 := Lib.hid (HV1.out.below hbc)
    have HU2 := Lib.hid hu
    have HV2 := Lib.hid hv
    clear hbc hu hv HYC
    have HRS := Lib.hid (HGD.out.cut_two HPL.out HQA.out)
    have HLN := Lib.hid (HGD.out.cut_two_len HPL.out HQA.out)
    have HHH := Lib.hid (HGD.out.cut_two_head (own := own) HPL.out HLW.out HQL.out HQA.out)
    have hw2 := HGD.out.keep_wt (own := own) HQL.out HLW.out HYN.out (HGD.out.abW_self q)
    have hw1 := HGD.out.keep_wt (own := own) HPL.out HLW.out HYN.out HQA.out
    have hw0 := HCG.out.keep_wt (own := cutO t own p) (nuN_lt_cut HQA.out HQL.out) (cutO_length t own p) (cut_at HQA.out HQL.out) (HCG.out.abW_self (nuN t p q))
    rw [show (cutE t p q).1 = y from (pnm_at HYN.out).trans HYE.out] at hw0
    rw [HYE.out] at hw1 hw2
    have HWW := Lib.hid (hw0.trans (hw1.trans hw2.symm))
    clear hw0 hw1 hw2
    have HG1 := Lib.hid (HCG.out.cut (nuN_lt_cut HQA.out HQL.out))
    have HG2 := Lib.hid (HGD.out.cut HQL.out)
    generalize cutO (cutT t p) (cutO t own p) (nuN t p q) = O1 at HV1 HHH HWW
    generalize cutT (cutT t p) (nuN t p q) = T1 at HU1 HV1 HRS HLN HHH HWW HG1
    generalize cutO t own q = O2 at HV2 HHH HWW
    generalize cutT t q = T2 at HU2 HV2 HRS HLN HHH HWW HG2
    have HR1 := Lib.hid HG1.out.rts
    have HR2 := Lib.hid HG2.out.rts
    have HSM := Lib.hid (show sameR (rs T1) (rs T2) = true by rw [HRS.out]; exact beq_self_eq_true _)
    have HRL0 := Lib.hid (show (rs T1).length ≤ 1000 by rw [rs_length]; have := HG1.out.room; have := HG1.out.most256; omega)
    obtain ⟨hd, hhd⟩ : ∃ hd, pnm T2 (hdW T2 O2 : Int) = hd := ⟨_, rfl⟩
    have hhl : hd.length = 32 := by rw [← hhd]; exact HG2.out.pnm_len _
    rw [hhd] at HHH
    have HHD := Lib.hid hhd
    obtain ⟨wt, hwt⟩ : ∃ wt, tellZ T2 O2.length y 0 (wtW T2 O2) = wt := ⟨_, rfl⟩
    rw [hwt] at HWW
    have HWT := Lib.hid hwt
    obtain ⟨rm, hrm⟩ : ∃ rm, (100 : Int) - (T2.length : Int) = rm := ⟨_, rfl⟩
    have HRM := Lib.hid hrm
    have HRM1 := Lib.hid (show (100 : Int) - (T1.length : Int) = rm by rw [HLN.out]; exact hrm)
    clear hhd hwt hrm
    go_upto_region 12 with fail
    refine wp_region_free (P := Try.prog) 36 (fun w' => Below w9.heap.size w9 w') (fun oq v w' => match oq with
        | 0 => v = .int .i64 0
        | 1 => v = .bool true
        | 2 => v = .bool true
        | 3 => v = .int .i64 0
        | 4 => v = .bool true
        | 5 => v = .bool true
        | 6 => v = .bool true
        | 7 => v = .pointer (some ⟨ub1, 0, none⟩)
        | 8 => ∃ ao cap g off, v = .slice ao (rs T1).length cap ∧ Lies w' w'.heap.size ao g off (rv (rs T1))
        | 9 => v = .pointer (some ⟨ub2, 0, none⟩)
        | 10 => ∃ ao cap g off, v = .slice ao (rs T2).length cap ∧ Lies w' w'.heap.size ao g off (rv (rs T2))
        | 11 => v = .bool true
        | 12 => v = .bool true
        | 13 => v = .bool true
        | 14 => v = .pointer (some ⟨vb1, 0, none⟩)
        | 15 => v = .agg (bv hd).toArray
        | 16 => v = .pointer (some ⟨vb2, 0, none⟩)
        | 17 => v = .agg (bv hd).toArray
        | 18 => v = .bool true
        | 19 => v = .bool true
        | 20 => v = .bool true
        | 21 => v = .pointer (some ⟨vb1, 0, none⟩)
        | 22 => v = .agg (bv y).toArray
        | 23 => v = .int .i64 wt
        | 24 => v = .pointer (some ⟨vb2, 0, none⟩)
        | 25 => v = .agg (bv y).toArray
        | 26 => v = .int .i64 wt
        | 27 => v = .bool true
        | 28 => v = .bool true
        | 29 => v = .bool true
        | 30 => v = .pointer (some ⟨ub1, 0, none⟩)
        | 31 => v = .int .i64 rm
        | 32 => v = .pointer (some ⟨ub2, 0, none⟩)
        | 33 => v = .int .i64 rm
        | 34 => v = .bool true
        | 35 => v = .bool true
        | _ => True) (by kernel_rfl) (by kernel_rfl) (Below.refl _ _).drew ?gb ?vb ?steps ?fin
    case gb => exact fun a b h1 h2 => h1.trans (h2.mono h1.size)
    case vb =>
      intro oq v a b h hb
      match oq with
      | 0 => exact h
      | 1 => exact h
      | 2 => exact h
      | 3 => exact h
      | 4 => exact h
      | 5 => exact h
      | 6 => exact h
      | 7 => exact h
      | 8 => (obtain ⟨ao, cap, g, off, h1, h2⟩ := h; exact ⟨ao, cap, g, off, h1, h2.below hb⟩)
      | 9 => exact h
      | 10 => (obtain ⟨ao, cap, g, off, h1, h2⟩ := h; exact ⟨ao, cap, g, off, h1, h2.below hb⟩)
      | 11 => exact h
      | 12 => exact h
      | 13 => exact h
      | 14 => exact h
      | 15 => exact h
      | 16 => exact h
      | 17 => exact h
      | 18 => exact h
      | 19 => exact h
      | 20 => exact h
      | 21 => exact h
      | 22 => exact h
      | 23 => exact h
      | 24 => exact h
      | 25 => exact h
      | 26 => exact h
      | 27 => exact h
      | 28 => exact h
      | 29 => exact h
      | 30 => exact h
      | 31 => exact h
      | 32 => exact h
      | 33 => exact h
      | 34 => exact h
      | 35 => exact h
      | _ + 36 => trivial
    case steps =>
      intro vals
      simp only [List.take_succ_cons, List.take_zero, freeSteps, Act.put, List.setIfInBounds_toArray, List.set_cons_zero, List.set_cons_succ, Nat.reduceAdd]
      refine ⟨fun w8 hG hW => ?_, fun w8 hG hW => ?_, fun w8 hG hW => ?_, fun w8 hG hW => ?_, fun w8 hG hW => ?_, fun w8 hG hW => ?_, fun w8 hG hW => ?_, fun w8 hG hW => ?_, fun w8 hG hW => ?_, fun w8 hG hW => ?_, fun w8 hG hW => ?_, fun w8 hG hW => ?_, fun w8 hG hW => ?_, fun w8 hG hW => ?_, fun w8 hG hW => ?_, fun w8 hG hW => ?_, fun w8 hG hW => ?_, fun w8 hG hW => ?_, fun w8 hG hW => ?_, fun w8 hG hW => ?_, fun w8 hG hW => ?_, fun w8 hG hW => ?_, fun w8 hG hW => ?_, fun w8 hG hW => ?_, fun w8 hG hW => ?_, fun w8 hG hW => ?_, fun w8 hG hW => ?_, fun w8 hG hW => ?_, fun w8 hG hW => ?_, fun w8 hG hW => ?_, fun w8 hG hW => ?_, fun w8 hG hW => ?_, fun w8 hG hW => ?_, fun w8 hG hW => ?_, fun w8 hG hW => ?_, fun w8 hG hW => ?_, trivial⟩
      · clear hW
        refine stepAt_value rfl rfl rfl (.int .i64 0) w8 ?_ ⟨rfl, Below.refl _ _⟩
        go_simp
      · have q0 := hW 0 (by decide)
        simp only at q0
        rw [q0]
        clear hW
        refine stepAt_value rfl rfl rfl (.bool true) w8 ?_ ⟨rfl, Below.refl _ _⟩
        go_simp
      · have q1 := hW 1 (by decide)
        simp only at q1
        rw [q1]
        clear hW
        refine stepAt_value rfl rfl rfl (.bool true) w8 ?_ ⟨rfl, Below.refl _ _⟩
        go_simp
      · have q2 := hW 2 (by decide)
        simp only at q2
        rw [q2]
        clear hW
        refine stepAt_value rfl rfl rfl (.int .i64 0) w8 ?_ ⟨rfl, Below.refl _ _⟩
        go_simp
      · have q2 := hW 2 (by decide)
        simp only at q2
        have q3 := hW 3 (by decide)
        simp only at q3
        rw [q2, q3]
        clear hW
        refine stepAt_value rfl rfl rfl (.bool true) w8 ?_ ⟨rfl, Below.refl _ _⟩
        go_simp
      · have q2 := hW 2 (by decide)
        simp only at q2
        have q4 := hW 4 (by decide)
        simp only at q4
        rw [q2, q4]
        clear hW
        refine stepAt_value rfl rfl rfl (.bool true) w8 ?_ ⟨rfl, Below.refl _ _⟩
        go_simp
      · have q5 := hW 5 (by decide)
        simp only at q5
        rw [q5]
        clear hW
        refine stepAt_value rfl rfl rfl (.bool true) w8 ?_ ⟨rfl, Below.refl _ _⟩
        go_simp
      · have q6 := hW 6 (by decide)
        simp only at q6
        rw [q6]
        clear hW
        refine stepAt_value rfl rfl rfl (.pointer (some ⟨ub1, 0, none⟩)) w8 ?_ ⟨rfl, Below.refl _ _⟩
        go_simp
      · have q6 := hW 6 (by decide)
        simp only at q6
        have q7 := hW 7 (by decide)
        simp only at q7
        rw [q6, q7]
        clear hW
        refine stepAt_call rfl rfl rfl 15 #[.pointer (some ⟨ub1, 0, none⟩)] (by go_simp) ((roots_any w8 U1 ub1 T1 100 (HU1.out.below hG)).mono fun e w' ⟨v, h1, h2, h3⟩ => ⟨v, h1, (by obtain ⟨ao, cap, g, off, e1, e2⟩ := wide_names h2 HR1.out; exact ⟨ao, cap, g, off, e1, e2⟩), h3⟩)
      · have q6 := hW 6 (by decide)
        simp only at q6
        rw [q6]
        clear hW
        refine stepAt_value rfl rfl rfl (.pointer (some ⟨ub2, 0, none⟩)) w8 ?_ ⟨rfl, Below.refl _ _⟩
        go_simp
      · have q6 := hW 6 (by decide)
        simp only at q6
        have q9 := hW 9 (by decide)
        simp only at q9
        rw [q6, q9]
        clear hW
        refine stepAt_call rfl rfl rfl 15 #[.pointer (some ⟨ub2, 0, none⟩)] (by go_simp) ((roots_any w8 U2 ub2 T2 100 (HU2.out.below hG)).mono fun e w' ⟨v, h1, h2, h3⟩ => ⟨v, h1, (by obtain ⟨ao, cap, g, off, e1, e2⟩ := wide_names h2 HR2.out; exact ⟨ao, cap, g, off, e1, e2⟩), h3⟩)
      · have q6 := hW 6 (by decide)
        simp only at q6
        obtain ⟨a0, k0, g0, o0, q0, l0⟩ := hW 8 (by decide)
        obtain ⟨a1, k1, g1, o1, q1, l1⟩ := hW 10 (by decide)
        rw [q6, q0, q1]
        clear hW
        refine stepAt_call rfl rfl rfl 14 #[.slice a0 (rs T1).length k0, .slice a1 (rs T2).length k1] (by go_simp) ((rsame_any w8 a0 a1 k0 k1 g0 g1 o0 o1 (rs T1) (rs T2) HR1.out HR2.out l0 l1 HRL0.out).mono fun e w' ⟨h1, n, h2⟩ => ⟨_, h1, by rw [HSM.out], by rw [h2]; exact below_dN (Below.refl _ _) _⟩)
      · have q6 := hW 6 (by decide)
        simp only at q6
        have q11 := hW 11 (by decide)
        simp only at q11
        rw [q6, q11]
        clear hW
        refine stepAt_value rfl rfl rfl (.bool true) w8 ?_ ⟨rfl, Below.refl _ _⟩
        go_simp
      · have q12 := hW 12 (by decide)
        simp only at q12
        rw [q12]
        clear hW
        refine stepAt_value rfl rfl rfl (.bool true) w8 ?_ ⟨rfl, Below.refl _ _⟩
        go_simp
      · have q13 := hW 13 (by decide)
        simp only at q13
        rw [q13]
        clear hW
        refine stepAt_value rfl rfl rfl (.pointer (some ⟨vb1, 0, none⟩)) w8 ?_ ⟨rfl, Below.refl _ _⟩
        go_simp
      · have q13 := hW 13 (by decide)
        simp only at q13
        have q14 := hW 14 (by decide)
        simp only at q14
        rw [q13, q14]
        clear hW
        refine stepAt_call rfl rfl rfl 17 #[.pointer (some ⟨vb1, 0, none⟩)] (by go_simp) ((head_any w8 U1 ub1 T1 100 V1 vb1 O1 (HU1.out.below hG) (HV1.out.below hG)).mono fun e w' ⟨h1, h2⟩ => ⟨_, h1, by rw [HHH.out], h2⟩)
      · have q13 := hW 13 (by decide)
        simp only at q13
        rw [q13]
        clear hW
        refine stepAt_value rfl rfl rfl (.pointer (some ⟨vb2, 0, none⟩)) w8 ?_ ⟨rfl, Below.refl _ _⟩
        go_simp
      · have q13 := hW 13 (by decide)
        simp only at q13
        have q16 := hW 16 (by decide)
        simp only at q16
        rw [q13, q16]
        clear hW
        refine stepAt_call rfl rfl rfl 17 #[.pointer (some ⟨vb2, 0, none⟩)] (by go_simp) ((head_any w8 U2 ub2 T2 100 V2 vb2 O2 (HU2.out.below hG) (HV2.out.below hG)).mono fun e w' ⟨h1, h2⟩ => ⟨_, h1, by rw [HHD.out], h2⟩)
      · have q13 := hW 13 (by decide)
        simp only at q13
        have q15 := hW 15 (by decide)
        simp only at q15
        have q17 := hW 17 (by decide)
        simp only at q17
        rw [q13, q15, q17]
        clear hW
        refine stepAt_value rfl rfl rfl (.bool true) w8 ?_ ⟨rfl, Below.refl _ _⟩
        have he := root_eqW w8 hd hd hhl hhl
        rw [show (hd == hd) = true from beq_self_eq_true _] at he
        go_simp
      · have q13 := hW 13 (by decide)
        simp only at q13
        have q18 := hW 18 (by decide)
        simp only at q18
        rw [q13, q18]
        clear hW
        refine stepAt_value rfl rfl rfl (.bool true) w8 ?_ ⟨rfl, Below.refl _ _⟩
        go_simp
      · have q19 := hW 19 (by decide)
        simp only at q19
        rw [q19]
        clear hW
        refine stepAt_value rfl rfl rfl (.bool true) w8 ?_ ⟨rfl, Below.refl _ _⟩
        go_simp
      · have q20 := hW 20 (by decide)
        simp only at q20
        rw [q20]
        clear hW
        refine stepAt_value rfl rfl rfl (.pointer (some ⟨vb1, 0, none⟩)) w8 ?_ ⟨rfl, Below.refl _ _⟩
        go_simp
      · have q20 := hW 20 (by decide)
        simp only at q20
        rw [q20]
        clear hW
        exact stepAt_load_run rfl rfl rfl _ _ rfl _ _ rfl (run_load_root hyl (HY.out.below hG HY.out.lt).rootAll) ⟨rfl, Below.refl _ _⟩
      · have q20 := hW 20 (by decide)
        simp only at q20
        have q21 := hW 21 (by decide)
        simp only at q21
        have q22 := hW 22 (by decide)
        simp only at q22
        rw [q20, q21, q22]
        clear hW
        refine stepAt_call rfl rfl rfl 26 #[.pointer (some ⟨vb1, 0, none⟩), .agg (bv y).toArray] (by go_simp) ((wt_any w8 U1 ub1 T1 100 V1 vb1 O1 y (HU1.out.below hG) (HV1.out.below hG) hyl).mono fun e w' ⟨h1, h2⟩ => ⟨_, h1, by rw [HWW.out], h2⟩)
      · have q20 := hW 20 (by decide)
        simp only at q20
        rw [q20]
        clear hW
        refine stepAt_value rfl rfl rfl (.pointer (some ⟨vb2, 0, none⟩)) w8 ?_ ⟨rfl, Below.refl _ _⟩
        go_simp
      · have q20 := hW 20 (by decide)
        simp only at q20
        rw [q20]
        clear hW
        exact stepAt_load_run rfl rfl rfl _ _ rfl _ _ rfl (run_load_root hyl (HY.out.below hG HY.out.lt).rootAll) ⟨rfl, Below.refl _ _⟩
      · have q20 := hW 20 (by decide)
        simp only at q20
        have q24 := hW 24 (by decide)
        simp only at q24
        have q25 := hW 25 (by decide)
        simp only at q25
        rw [q20, q24, q25]
        clear hW
        refine stepAt_call rfl rfl rfl 26 #[.pointer (some ⟨vb2, 0, none⟩), .agg (bv y).toArray] (by go_simp) ((wt_any w8 U2 ub2 T2 100 V2 vb2 O2 y (HU2.out.below hG) (HV2.out.below hG) hyl).mono fun e w' ⟨h1, h2⟩ => ⟨_, h1, by rw [HWT.out], h2⟩)
      · have q20 := hW 20 (by decide)
        simp only at q20
        have q23 := hW 23 (by decide)
        simp only at q23
        have q26 := hW 26 (by decide)
        simp only at q26
        rw [q20, q23, q26]
        clear hW
        refine stepAt_value rfl rfl rfl (.bool true) w8 ?_ ⟨rfl, Below.refl _ _⟩
        go_simp
      · have q20 := hW 20 (by decide)
        simp only at q20
        have q27 := hW 27 (by decide)
        simp only at q27
        rw [q20, q27]
        clear hW
        refine stepAt_value rfl rfl rfl (.bool true) w8 ?_ ⟨rfl, Below.refl _ _⟩
        go_simp
      · have q28 := hW 28 (by decide)
        simp only at q28
        rw [q28]
        clear hW
        refine stepAt_value rfl rfl rfl (.bool true) w8 ?_ ⟨rfl, Below.refl _ _⟩
        go_simp
      · have q29 := hW 29 (by decide)
        simp only at q29
        rw [q29]
        clear hW
        refine stepAt_value rfl rfl rfl (.pointer (some ⟨ub1, 0, none⟩)) w8 ?_ ⟨rfl, Below.refl _ _⟩
        go_simp
      · have q29 := hW 29 (by decide)
        simp only at q29
        have q30 := hW 30 (by decide)
        simp only at q30
        rw [q29, q30]
        clear hW
        refine stepAt_call rfl rfl rfl 16 #[.pointer (some ⟨ub1, 0, none⟩)] (by go_simp) ((room_any w8 U1 ub1 T1 100 (HU1.out.below hG)).mono fun e w' ⟨h1, n, h2⟩ => ⟨_, h1, by rw [HRM1.out], by rw [h2]; exact below_dN (Below.refl _ _) _⟩)
      · have q29 := hW 29 (by decide)
        simp only at q29
        rw [q29]
        clear hW
        refine stepAt_value rfl rfl rfl (.pointer (some ⟨ub2, 0, none⟩)) w8 ?_ ⟨rfl, Below.refl _ _⟩
        go_simp
      · have q29 := hW 29 (by decide)
        simp only at q29
        have q32 := hW 32 (by decide)
        simp only at q32
        rw [q29, q32]
        clear hW
        refine stepAt_call rfl rfl rfl 16 #[.pointer (some ⟨ub2, 0, none⟩)] (by go_simp) ((room_any w8 U2 ub2 T2 100 (HU2.out.below hG)).mono fun e w' ⟨h1, n, h2⟩ => ⟨_, h1, by rw [HRM.out], by rw [h2]; exact below_dN (Below.refl _ _) _⟩)
      · have q29 := hW 29 (by decide)
        simp only at q29
        have q31 := hW 31 (by decide)
        simp only at q31
        have q33 := hW 33 (by decide)
        simp only at q33
        rw [q29, q31, q33]
        clear hW
        refine stepAt_value rfl rfl rfl (.bool true) w8 ?_ ⟨rfl, Below.refl _ _⟩
        go_simp
      · have q29 := hW 29 (by decide)
        simp only at q29
        have q34 := hW 34 (by decide)
        simp only at q34
        rw [q29, q34]
        clear hW
        refine stepAt_value rfl rfl rfl (.bool true) w8 ?_ ⟨rfl, Below.refl _ _⟩
        go_simp
    case fin =>
      intro vals w10 hG hV
      replace HB := Lib.hid (HB.out.trans (hG.mono HB.out.size))
      have q35 := hV 35 (by omega)
      simp only at q35
      simp only [List.take_succ_cons, List.take_zero, List.drop_succ_cons, List.drop_zero, putAll, Act.put, List.setIfInBounds_toArray, List.set_cons_zero, List.set_cons_succ, Nat.reduceAdd]
      rw [q35]
      clear hV q35
      generalize vals 0 = y0
      generalize vals 1 = y1
      generalize vals 2 = y2
      generalize vals 3 = y3
      generalize vals 4 = y4
      generalize vals 5 = y5
      generalize vals 6 = y6
      generalize vals 7 = y7
      generalize vals 8 = y8
      generalize vals 9 = y9
      generalize vals 10 = y10
      generalize vals 11 = y11
      generalize vals 12 = y12
      generalize vals 13 = y13
      generalize vals 14 = y14
      generalize vals 15 = y15
      generalize vals 16 = y16
      generalize vals 17 = y17
      generalize vals 18 = y18
      generalize vals 19 = y19
      generalize vals 20 = y20
      generalize vals 21 = y21
      generalize vals 22 = y22
      generalize vals 23 = y23
      generalize vals 24 = y24
      generalize vals 25 = y25
      generalize vals 26 = y26
      generalize vals 27 = y27
      generalize vals 28 = y28
      generalize vals 29 = y29
      generalize vals 30 = y30
      generalize vals 31 = y31
      generalize vals 32 = y32
      generalize vals 33 = y33
      generalize vals 34 = y34
      clear hG
      go_wp2_with fail
      go_ret
      exact ⟨rfl, HB.out⟩
end Go.Proofs.Ytjodhagjfjgbcaa
