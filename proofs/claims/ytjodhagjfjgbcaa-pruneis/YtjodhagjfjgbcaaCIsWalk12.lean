/-
  The texts IsWalk12, one behind the other.
-/
import Derived.Test.YtjodhagjfjgbcaaCAlive12
import Derived.Test.YtjodhagjfjgbcaaIsM19
import Derived.Test.YtjodhagjfjgbcaaIsM9
import Derived.Test.YtjodhagjfjgbcaaCRWHead
import Derived.Test.YtjodhagjfjgbcaaCRefAll
/-
  PruneIs: the walk.
-/
namespace Go.Proofs.Ytjodhagjfjgbcaa
open Go Go.RowKit
set_option maxRecDepth 10000

set_option maxHeartbeats 16000000 in
theorem is_any (w : World) (ao : Option Addr) (len cap g off : Nat) (l : List Bk) (root : Int) (od : List UInt8) (hod : od.length = 32) (hl : l.length = len) (h : Lies w w.heap.size ao g off (bks l)) :
    Calls Try.prog 3 #[.slice ao len cap, .int .i64 root, .agg (bv od).toArray] w fun e w' => e = .returned (.bool true) ∧ Below w.heap.size w w' := by
  have HL0 := Lib.hid h
  clear h
  go_enter Try.func3, Try.ntmps3
  have HB0 := Lib.hid (show Below w.heap.size w (w.alloc (.cells (bv od).toArray 24)) from (Below.refl _ w).alloc (Nat.le_refl _) _)
  have HX := Lib.hid (Blk.new w 24 (bv od).toArray)
  obtain ⟨X, hX⟩ : ∃ X, X = w.heap.size := ⟨_, rfl⟩
  rw [← hX] at HX
  go_upto_region 1 with fail
  rw [← hX]
  generalize w.alloc (.cells (bv od).toArray 24) = w0 at HB0 HX ⊢
  clear hX
  go_wp2_with fail
  refine (alive_any w0).mono ?_
  rintro e w1 ⟨rfl, hbc⟩
  have HB1 := Lib.hid (HB0.out.trans (hbc.mono HB0.out.size))
  replace HX := Lib.hid (HX.out.below hbc HX.out.lt)
  clear hbc HB0
  go_wp2_with fail
  refine (made_any w1 ao len cap g off l hl (HL0.out.below HB1.out)).mono ?_
  rintro e w2 (⟨_, rfl, hbc⟩ | ⟨tb, wb, rb, _, rfl, ho⟩)
  · have HB := Lib.hid (HB1.out.trans (hbc.mono HB1.out.size))
    clear hbc
    go_wp2_with fail
    go_ret
    exact ⟨rfl, HB.out⟩
  obtain ⟨⟨G, F, M, R, mb, ht, hw, hd⟩, hbc⟩ := ho
  have HT := Lib.hid ht
  have HW := Lib.hid hw
  have HD := Lib.hid hd
  have HB := Lib.hid (HB1.out.trans (hbc.mono HB1.out.size))
  have HGD := Lib.hid (mkT_good l)
  have HLW := Lib.hid (mkO_length l)
  have HR0 := Lib.hid (mkT_root l)
  replace HX := Lib.hid (HX.out.below hbc HX.out.lt)
  clear ht hw hd hbc HB1 HL0 hl
  generalize mkT l = t at HT HW HD HGD HLW HR0
  generalize mkO l = own at HW HD HLW
  have HM256 := Lib.hid (show t.length ≤ 256 ∧ 1 ≤ t.length by have := HGD.out.room; have := HGD.out.most256; have := HGD.out.pos; omega)
  obtain ⟨i0, hi0, hz0, hz1, hz2⟩ := info_parts Try.infoRootB
  have HXC := Lib.hid HX.out.rootAll
  go_wp2_with ((with_reducible refine wpList_load_name (.tmp 5) ?_ ?_ X 0 od ?_ hod HXC.out ?_); rfl; rfl; rfl)
  refine (ptree_nil w2 od).mono ?_
  rintro e w3 ⟨rfl, hbc⟩
  replace HT := Lib.hid (HT.out.below hbc)
  replace HW := Lib.hid (HW.out.below hbc)
  replace HD := Lib.hid (HD.out.below hbc)
  replace HX := Lib.hid (HX.out.below hbc HX.out.lt)
  replace HB := Lib.hid (HB.out.trans (hbc.mono HB.out.size))
  clear hbc HXC
  have HXC := Lib.hid HX.out.rootAll
  go_wp2_with ((with_reducible refine wpList_load_name (.tmp 5) ?_ ?_ X 0 od ?_ hod HXC.out ?_); rfl; rfl; rfl)
  refine (pall_nil w3 _ od hod).mono ?_
  rintro e w4 ⟨rfl, hbc⟩
  replace HT := Lib.hid (HT.out.below hbc)
  replace HW := Lib.hid (HW.out.below hbc)
  replace HD := Lib.hid (HD.out.below hbc)
  replace HX := Lib.hid (HX.out.below hbc HX.out.lt)
  replace HB := Lib.hid (HB.out.trans (hbc.mono HB.out.size))
  clear hbc HXC
  obtain ⟨nm, hnm⟩ : ∃ nm, nmN root = nm := ⟨_, rfl⟩
  have HNME := Lib.hid hnm
  have hnl : nm.length = 32 := by rw [← hnm]; exact nmN_len root
  clear hnm
  go_upto_region 10 with fail
  refine wp_region_free (P := Try.prog) 6 (fun w' => Below w4.heap.size w4 w') (fun oq v w' => match oq with
      | 0 => v = .int .i64 root
      | 1 => v = .agg (bv nm).toArray
      | 2 => v = .agg (bv od).toArray
      | 3 => ∃ gg, v = .slice (some ⟨gg, 0, none⟩) 2 2 ∧ Lies w' w'.heap.size (some ⟨gg, 0, none⟩) gg 0 (rv [nm, od])
      | 4 => v = .int .i64 2
      | 5 => v = .int .i64 0
      | _ => True) (by kernel_rfl) (by kernel_rfl) (Below.refl _ _).drew ?gb ?vb ?steps ?fin
  case gb => exact fun a b h1 h2 => h1.trans (h2.mono h1.size)
  case vb =>
    intro oq v a b h hb
    match oq with
    | 0 => exact h
    | 1 => exact h
    | 2 => exact h
    | 3 => (obtain ⟨gg, h1, h2⟩ := h; exact ⟨gg, h1, h2.below hb⟩)
    | 4 => exact h
    | 5 => exact h
    | _ + 6 => trivial
  case steps =>
    intro vals
    simp only [List.take_succ_cons, List.take_zero, freeSteps, Act.put, List.setIfInBounds_toArray, List.set_cons_zero, List.set_cons_succ, Nat.reduceAdd]
    refine ⟨fun w8 hG hW => ?_, fun w8 hG hW => ?_, fun w8 hG hW => ?_, fun w8 hG hW => ?_, fun w8 hG hW => ?_, fun w8 hG hW => ?_, trivial⟩
    · clear hW
      refine stepAt_value rfl rfl rfl (.int .i64 root) w8 ?_ ⟨rfl, Below.refl _ _⟩
      go_simp
    · have q0 := hW 0 (by decide)
      simp only at q0
      rw [q0]
      clear hW
      refine stepAt_call rfl rfl rfl 12 #[.int .i64 root] (by go_simp) ((name_any w8 root).mono fun e w' ⟨h1, h2⟩ => ⟨_, h1, by rw [HNME.out], h2⟩)
    · clear hW
      exact stepAt_load_run rfl rfl rfl _ _ rfl _ _ rfl (run_load_root hod (HX.out.below hG HX.out.lt).rootAll) ⟨rfl, Below.refl _ _⟩
    · have q1 := hW 1 (by decide)
      simp only at q1
      have q2 := hW 2 (by decide)
      simp only at q2
      rw [q1, q2]
      clear hW
      refine stepAt_build_rows rfl rfl rfl 37 24 2 _ rfl i0 (.agg (bv zero32).toArray) (s := 32) (by omega) [bv nm, bv od] (fun rr hrr => by simp at hrr; rcases hrr with rfl | rfl <;> simp [bv_length, hnl, hod]) Try.underlying37 hi0 hz0 hz1 rfl (by omega) (by omega) rfl ⟨⟨w8.heap.size, rfl, ?_⟩, (Below.refl _ _).alloc (Nat.le_refl _) _⟩
      rw [show ([bv nm, bv od] : List (List Value)).flatten = rv [nm, od] by simp [rv]]
      exact ⟨fun _ => rfl, fun _ => by simp, fun j u hj => by rw [Nat.zero_add]; exact ((Blk.new w8 24 (rv [nm, od]).toArray).cell j).trans hj⟩
    · obtain ⟨gg, q3, _⟩ := hW 3 (by decide)
      rw [q3]
      clear hW
      refine stepAt_value rfl rfl rfl (.int .i64 2) w8 ?_ ⟨rfl, Below.refl _ _⟩
      go_simp
    · clear hW
      refine stepAt_value rfl rfl rfl (.int .i64 0) w8 ?_ ⟨rfl, Below.refl _ _⟩
      go_simp
  case fin =>
    intro vals w6 hG hV
    have q4 := hV 4 (by omega)
    have q5 := hV 5 (by omega)
    simp only at q4 q5
    obtain ⟨gg, q3, hrl⟩ := hV 3 (by omega)
    simp only [List.take_succ_cons, List.take_zero, List.drop_succ_cons, List.drop_zero, putAll, Act.put, List.setIfInBounds_toArray, List.set_cons_zero, List.set_cons_succ, Nat.reduceAdd]
    rw [q3, q4, q5]
    clear hV q3 q4 q5
    generalize vals 0 = y0
    generalize vals 1 = y1
    generalize vals 2 = y2
    replace HT := Lib.hid (HT.out.below hG)
    replace HW := Lib.hid (HW.out.below hG)
    replace HD := Lib.hid (HD.out.below hG)
    replace HX := Lib.hid (HX.out.below hG HX.out.lt)
    replace HB := Lib.hid (HB.out.trans (hG.mono HB.out.size))
    have HRW := Lib.hid hrl
    have HRR := Lib.hid (show Rts [nm, od] from fun r hr => by simp at hr; rcases hr with rfl | rfl; exact hnl; exact hod)
    have HRT := Lib.hid HGD.out.rts
    have HSM := Lib.hid (show sameR (rs t) (rs t) = true from beq_self_eq_true _)
    have HRL0 := Lib.hid (show (rs t).length ≤ 1000 by rw [rs_length]; have := HM256.out; omega)
    have HO0 := Lib.hid (show 0 < own.length by rw [HLW.out]; have := HM256.out; omega)
    clear hrl hG HX HNME hnl hod
    go_wp2_with fail
    go_loopw [63] (fun i wx => ∃ k : Nat, k ≤ 2 ∧ i = .int .i64 k ∧ Hid (Below w6.heap.size w6 wx)) (fun i _ => 2 - (intOf i).toNat)
    case atStart => exact ⟨0, by omega, rfl, Lib.hid (Below.refl _ _)⟩
    case round =>
      obtain ⟨k, hk, rfl, HL⟩ := hrel
      obtain ⟨wx, rfl⟩ : ∃ x, x = wr := ⟨_, rfl⟩
      have HRx := Lib.hid (HRW.out.below HL.out)
      have HTx := Lib.hid (HT.out.below HL.out)
      have HWx := Lib.hid (HW.out.below HL.out)
      have HDx := Lib.hid (HD.out.below HL.out)
      have HBx := Lib.hid (HB.out.trans (HL.out.mono HB.out.size))
      by_cases hlt : k < 2
      · obtain ⟨r, hr⟩ : ∃ r, ([nm, od] : List (List UInt8))[k]? = some r := ⟨_, List.getElem?_eq_getElem (by simpa using hlt)⟩
        obtain ⟨_, hrc⟩ := HRx.out.name HRR.out hr
        have HRC := Lib.hid (show ∀ j v, (bv r)[j]? = some v → wx.cell? ⟨gg, k * 32 + j, none⟩ = some v from fun j v hj => by have h0 := hrc j v hj; rwa [Nat.zero_add] at h0)
        have HRN := Lib.hid (HRR.out r (List.mem_of_getElem? hr))
        have HLT := Lib.hid hlt
        have hlt' : (k : Int) < 2 := by omega
        have HWK := Lib.hid (show wrap64 ((k : Int) + 1) = ((k + 1 : Nat) : Int) by have := HLT.out; unfold wrap64; omega)
        clear hr hrc hk hlt HRx
        have HZ := Lib.hid (blk_zeroR wx)
        have HZL := Lib.hid zero32_len
        have HQ := Lib.hid (HZ.out.setRow (bv r))
        have hbx : Below wx.heap.size wx ((wx.alloc (.cells #[.int .u8 0, .int .u8 0, .int .u8 0, .int .u8 0, .int .u8 0, .int .u8 0, .int .u8 0, .int .u8 0, .int .u8 0, .int .u8 0, .int .u8 0, .int .u8 0, .int .u8 0, .int .u8 0, .int .u8 0, .int .u8 0, .int .u8 0, .int .u8 0, .int .u8 0, .int .u8 0, .int .u8 0, .int .u8 0, .int .u8 0, .int .u8 0, .int .u8 0, .int .u8 0, .int .u8 0, .int .u8 0, .int .u8 0, .int .u8 0, .int .u8 0, .int .u8 0] 24)).setRow wx.heap.size (bv r).toArray) := below_row ((Below.refl _ wx).alloc (Nat.le_refl _) _) (Nat.le_refl _) _
        replace HTx := Lib.hid (HTx.out.below hbx)
        replace HWx := Lib.hid (HWx.out.below hbx)
        replace HDx := Lib.hid (HDx.out.below hbx)
        replace HBx := Lib.hid (HBx.out.trans (hbx.mono HBx.out.size))
        replace HL := Lib.hid (HL.out.trans (hbx.mono HL.out.size))
        clear hbx
        obtain ⟨Q, hRR⟩ : ∃ Q, Q = wx.heap.size := ⟨_, rfl⟩
        go_upto_region 13 with (first | ((with_reducible refine wpList_load_name (.tmp 65) ?_ ?_ gg (k * 32) r ?_ HRN.out HRC.out ?_); rfl; rfl; rfl) | ((with_reducible refine wpList_store_name (.tmp 17) (.tmp 66) ?_ ?_ wx.heap.size zero32 r ?_ ?_ HZ.out HZL.out HRN.out ?_); rfl; rfl; rfl; rfl))
        try simp only [Act.put]
        rw [← hRR] at HQ HTx HWx HDx HBx HL ⊢
        generalize (wx.alloc (.cells #[.int .u8 0, .int .u8 0, .int .u8 0, .int .u8 0, .int .u8 0, .int .u8 0, .int .u8 0, .int .u8 0, .int .u8 0, .int .u8 0, .int .u8 0, .int .u8 0, .int .u8 0, .int .u8 0, .int .u8 0, .int .u8 0, .int .u8 0, .int .u8 0, .int .u8 0, .int .u8 0, .int .u8 0, .int .u8 0, .int .u8 0, .int .u8 0, .int .u8 0, .int .u8 0, .int .u8 0, .int .u8 0, .int .u8 0, .int .u8 0, .int .u8 0, .int .u8 0] 24)).setRow Q (bv r).toArray = w8 at HQ HTx HWx HDx HBx HL ⊢
        clear HZ HZL hRR
        clear HRC
        have hrl := HRN.out
        rcases plc_cases t r with ⟨p, np, hpn, hpe, hpp, _⟩ | ⟨_, hpp⟩
        rotate_left
        · have HQC := Lib.hid HQ.out.rootAll
          go_wp2_with ((with_reducible refine wpList_load_name (.tmp 17) ?_ ?_ Q 0 r ?_ hrl HQC.out ?_); rfl; rfl; rfl)
          refine (pall_none w8 G tb t 100 _ r hpp HTx.out hrl).mono ?_
          rintro e w9 ⟨rfl, hbc⟩
          replace HTx := Lib.hid (HTx.out.below hbc)
          replace HWx := Lib.hid (HWx.out.below hbc)
          replace HDx := Lib.hid (HDx.out.below hbc)
          replace HBx := Lib.hid (HBx.out.trans (hbc.mono HBx.out.size))
          replace HL := Lib.hid (HL.out.trans (hbc.mono HL.out.size))
          replace HQ := Lib.hid (HQ.out.below hbc HQ.out.lt)
          clear HQC
          clear hbc
          have HQC := Lib.hid HQ.out.rootAll
          go_wp2_with ((with_reducible refine wpList_load_name (.tmp 17) ?_ ?_ Q 0 r ?_ hrl HQC.out ?_); rfl; rfl; rfl)
          refine (ptree_none w9 G tb t 100 r hpp HTx.out hrl).mono ?_
          rintro e w10 ⟨rfl, hbc⟩
          replace HTx := Lib.hid (HTx.out.below hbc)
          replace HWx := Lib.hid (HWx.out.below hbc)
          replace HDx := Lib.hid (HDx.out.below hbc)
          replace HBx := Lib.hid (HBx.out.trans (hbc.mono HBx.out.size))
          replace HL := Lib.hid (HL.out.trans (hbc.mono HL.out.size))
          replace HQ := Lib.hid (HQ.out.below hbc HQ.out.lt)
          clear HQC
          clear hbc
          have HQC := Lib.hid HQ.out.rootAll
          go_wp2_with ((with_reducible refine wpList_load_name (.tmp 17) ?_ ?_ Q 0 r ?_ hrl HQC.out ?_); rfl; rfl; rfl)
          refine (rall_none w10 M mb t R rb own 100 r hpp HDx.out hrl).mono ?_
          rintro e w11 ⟨rfl, hbc⟩
          replace HTx := Lib.hid (HTx.out.below hbc)
          replace HWx := Lib.hid (HWx.out.below hbc)
          replace HDx := Lib.hid (HDx.out.below hbc)
          replace HBx := Lib.hid (HBx.out.trans (hbc.mono HBx.out.size))
          replace HL := Lib.hid (HL.out.trans (hbc.mono HL.out.size))
          replace HQ := Lib.hid (HQ.out.below hbc HQ.out.lt)
          clear HQC
          clear hbc
          clear HQ HTx HWx HDx HBx
          have hlk := HLT.out
          go_wp2_with fail
          go_roundw
          case rel => exact ⟨k + 1, by omega, by first | rw [HWK.out] | rw [Int.natCast_succ], HL⟩
          case measure => first | exact measK 2 k 1 ((k : Int) + 1) (by omega) hlk Nat.zero_lt_one | exact measK 2 k 1 (wrap64 ((k : Int) + 1)) HWK.out hlk Nat.zero_lt_one
        have HPL := Lib.hid (List.getElem?_eq_some_iff.1 hpn).1
        have HPP := Lib.hid hpp
        clear hpn hpe hpp
        have HQC := Lib.hid HQ.out.rootAll
        go_wp2_with ((with_reducible refine wpList_load_name (.tmp 17) ?_ ?_ Q 0 r ?_ hrl HQC.out ?_); rfl; rfl; rfl)
        refine (pall_ok w8 G tb t 100 F wb own r p HPP.out HTx.out HWx.out HLW.out hrl).mono ?_
        rintro e w9 ⟨U, ub, V, vb, rfl, hu, hv, _, hbc⟩
        replace HTx := Lib.hid (HTx.out.below hbc)
        replace HWx := Lib.hid (HWx.out.below hbc)
        replace HDx := Lib.hid (HDx.out.below hbc)
        replace HBx := Lib.hid (HBx.out.trans (hbc.mono HBx.out.size))
        replace HL := Lib.hid (HL.out.trans (hbc.mono HL.out.size))
        replace HQ := Lib.hid (HQ.out.below hbc HQ.out.lt)
        clear HQC
        have HUx := Lib.hid hu
        have HVx := Lib.hid hv
        clear hbc hu hv
        have HQC := Lib.hid HQ.out.rootAll
        go_wp2_with ((with_reducible refine wpList_load_name (.tmp 17) ?_ ?_ Q 0 r ?_ hrl HQC.out ?_); rfl; rfl; rfl)
        refine (ptree_ok w9 G tb t 100 r p HPP.out HTx.out hrl).mono ?_
        rintro e w10 ⟨U2, sb, rfl, hu, _, hbc⟩
        replace HTx := Lib.hid (HTx.out.below hbc)
        replace HWx := Lib.hid (HWx.out.below hbc)
        replace HDx := Lib.hid (HDx.out.below hbc)
        replace HBx := Lib.hid (HBx.out.trans (hbc.mono HBx.out.size))
        replace HL := Lib.hid (HL.out.trans (hbc.mono HL.out.size))
        replace HQ := Lib.hid (HQ.out.below hbc HQ.out.lt)
        replace HUx := Lib.hid (HUx.out.below hbc)
        replace HVx := Lib.hid (HVx.out.below hbc)
        clear HQC
        have HSx := Lib.hid hu
        clear hbc hu
        have HQC := Lib.hid HQ.out.rootAll
        go_wp2_with ((with_reducible refine wpList_load_name (.tmp 17) ?_ ?_ Q 0 r ?_ hrl HQC.out ?_); rfl; rfl; rfl)
        refine (rall_ok w10 M mb t R rb own 100 r p HPP.out HLW.out HDx.out hrl).mono ?_
        rintro e w11 ⟨M', mb', R', rb', rfl, hd', hbc⟩
        replace HTx := Lib.hid (HTx.out.below hbc)
        replace HWx := Lib.hid (HWx.out.below hbc)
        replace HDx := Lib.hid (HDx.out.below hbc)
        replace HBx := Lib.hid (HBx.out.trans (hbc.mono HBx.out.size))
        replace HL := Lib.hid (HL.out.trans (hbc.mono HL.out.size))
        replace HQ := Lib.hid (HQ.out.below hbc HQ.out.lt)
        replace HUx := Lib.hid (HUx.out.below hbc)
        replace HVx := Lib.hid (HVx.out.below hbc)
        replace HSx := Lib.hid (HSx.out.below hbc)
        clear HQC
        have HNx := Lib.hid hd'
        have HCG := Lib.hid (HGD.out.cut HPL.out)
        have HCO := Lib.hid (cutO_length t own p)
        clear hbc hd' HQ HPP
        generalize cutO t own p = O1 at HVx HNx HCO
        generalize cutT t p = T1 at HUx HVx HSx HNx HCG HCO
        have HR1 := Lib.hid HCG.out.rts
        have HSM1 := Lib.hid (show sameR (rs T1) (rs T1) = true from beq_self_eq_true _)
        have HT256 := Lib.hid (show T1.length ≤ 256 ∧ 1 ≤ T1.length by have := HCG.out.room; have := HCG.out.most256; have := HCG.out.pos; omega)
        have HRL1 := Lib.hid (show (rs T1).length ≤ 1000 by rw [rs_length]; have := HT256.out; omega)
        have HO1 := Lib.hid (show 0 < O1.length by rw [HCO.out]; have := HT256.out; omega)
        obtain ⟨hd, hhd⟩ : ∃ hd, pnm T1 (hdW T1 O1 : Int) = hd := ⟨_, rfl⟩
        have hhl : hd.length = 32 := by rw [← hhd]; exact HCG.out.pnm_len _
        have HHD := Lib.hid hhd
        obtain ⟨rm, hrm⟩ : ∃ rm, (100 : Int) - (T1.length : Int) = rm := ⟨_, rfl⟩
        have HRM := Lib.hid hrm
        have HSB := Lib.hid (show IntKind.i64.wrap ((100 : Int) - ((rs T1).length : Int)) = rm by rw [rs_length, ← hrm, IntKind.wrap_i64]; have := HT256.out; omega)
        obtain ⟨a1, a2, a3, c1, c2, c3, g1, g2, g3, o1, o2, o3, hrs⟩ := HNx.out.ref.open
        have HRS := Lib.hid hrs
        clear hhd hrm hrs
        go_upto_region 19 with fail
        refine wp_region_free (P := Try.prog) 60 (fun w' => Below w11.heap.size w11 w') (fun oq v w' => match oq with
            | 0 => v = .int .i64 0
            | 1 => v = .bool false
            | 2 => v = .bool false
            | 3 => v = .int .i64 0
            | 4 => v = .bool false
            | 5 => v = .bool false
            | 6 => v = .bool false
            | 7 => v = .pointer (some ⟨ub, 0, none⟩)
            | 8 => ∃ ao cap g off, v = .slice ao (rs T1).length cap ∧ Lies w' w'.heap.size ao g off (rv (rs T1))
            | 9 => v = .pointer (some ⟨rb', 0, none⟩)
            | 10 => v = .pointer (some ⟨rb', 0, none⟩)
            | 11 => v = .pointer (some ⟨rb', 0, none⟩)
            | 12 => v = .pointer (some ⟨mb', 0, none⟩)
            | 13 => v = .pointer (some ⟨mb', 0, none⟩)
            | 14 => v = .pointer (some ⟨mb', 0, none⟩)
            | 15 => v = .slice a1 (rs T1).length c1
            | 16 => v = .bool true
            | 17 => v = .bool false
            | 18 => v = .bool false
            | 19 => v = .bool false
            | 20 => v = .pointer (some ⟨sb, 0, none⟩)
            | 21 => ∃ ao cap g off, v = .slice ao (rs T1).length cap ∧ Lies w' w'.heap.size ao g off (rv (rs T1))
            | 22 => v = .pointer (some ⟨rb', 0, none⟩)
            | 23 => v = .pointer (some ⟨rb', 0, none⟩)
            | 24 => v = .pointer (some ⟨rb', 0, none⟩)
            | 25 => v = .pointer (some ⟨mb', 0, none⟩)
            | 26 => v = .pointer (some ⟨mb', 0, none⟩)
            | 27 => v = .pointer (some ⟨mb', 0, none⟩)
            | 28 => v = .slice a1 (rs T1).length c1
            | 29 => v = .bool true
            | 30 => v = .bool false
            | 31 => v = .bool false
            | 32 => v = .bool false
            | 33 => v = .pointer (some ⟨ub, 0, none⟩)
            | 34 => v = .int .i64 rm
            | 35 => v = .pointer (some ⟨rb', 0, none⟩)
            | 36 => v = .pointer (some ⟨rb', 0, none⟩)
            | 37 => v = .pointer (some ⟨rb', 0, none⟩)
            | 38 => v = .pointer (some ⟨mb', 0, none⟩)
            | 39 => v = .pointer (some ⟨mb', 0, none⟩)
            | 40 => v = .pointer (some ⟨mb', 3, none⟩)
            | 41 => v = .int .i64 100
            | 42 => v = .pointer (some ⟨rb', 0, none⟩)
            | 43 => v = .pointer (some ⟨rb', 0, none⟩)
            | 44 => v = .pointer (some ⟨rb', 0, none⟩)
            | 45 => v = .pointer (some ⟨mb', 0, none⟩)
            | 46 => v = .pointer (some ⟨mb', 0, none⟩)
            | 47 => v = .pointer (some ⟨mb', 0, none⟩)
            | 48 => v = .slice a1 (rs T1).length c1
            | 49 => v = .int .i64 ((rs T1).length : Int)
            | 50 => v = .int .i64 rm
            | 51 => v = .bool false
            | 52 => v = .bool false
            | 53 => v = .bool false
            | 54 => v = .pointer (some ⟨vb, 0, none⟩)
            | 55 => v = .agg (bv hd).toArray
            | 56 => v = .pointer (some ⟨rb', 0, none⟩)
            | 57 => v = .agg (bv hd).toArray
            | 58 => v = .bool false
            | 59 => v = .bool false
            | _ => True) (by kernel_rfl) (by kernel_rfl) (Below.refl _ _).drew ?gb ?vb ?steps ?fin
        case gb => exact fun a b h1 h2 => h1.trans (h2.mono h1.size)
        case vb =>
          intro oq v a b h hb
          match oq with
          | 0 => exact h
          | 1 => exact h
          | 2 => exact h
          | 3 => exact h
          | 4 => exact h
          | 5 => exact h
          | 6 => exact h
          | 7 => exact h
          | 8 => (obtain ⟨ao, cap, g, off, h1, h2⟩ := h; exact ⟨ao, cap, g, off, h1, h2.below hb⟩)
          | 9 => exact h
          | 10 => exact h
          | 11 => exact h
          | 12 => exact h
          | 13 => exact h
          | 14 => exact h
          | 15 => exact h
          | 16 => exact h
          | 17 => exact h
          | 18 => exact h
          | 19 => exact h
          | 20 => exact h
          | 21 => (obtain ⟨ao, cap, g, off, h1, h2⟩ := h; exact ⟨ao, cap, g, off, h1, h2.below hb⟩)
          | 22 => exact h
          | 23 => exact h
          | 24 => exact h
          | 25 => exact h
          | 26 => exact h
          | 27 => exact h
          | 28 => exact h
          | 29 => exact h
          | 30 => exact h
          | 31 => exact h
          | 32 => exact h
          | 33 => exact h
          | 34 => exact h
          | 35 => exact h
          | 36 => exact h
          | 37 => exact h
          | 38 => exact h
          | 39 => exact h
          | 40 => exact h
          | 41 => exact h
          | 42 => exact h
          | 43 => exact h
          | 44 => exact h
          | 45 => exact h
          | 46 => exact h
          | 47 => exact h
          | 48 => exact h
          | 49 => exact h
          | 50 => exact h
          | 51 => exact h
          | 52 => exact h
          | 53 => exact h
          | 54 => exact h
          | 55 => exact h
          | 56 => exact h
          | 57 => exact h
          | 58 => exact h
          | 59 => exact h
          | _ + 60 => trivial
        case steps =>
          intro vals
          simp only [List.take_succ_cons, List.take_zero, freeSteps, Act.put, List.setIfInBounds_toArray, List.set_cons_zero, List.set_cons_succ, Nat.reduceAdd]
          refine ⟨fun w8 hG hW => ?_, fun w8 hG hW => ?_, fun w8 hG hW => ?_, fun w8 hG hW => ?_, fun w8 hG hW => ?_, fun w8 hG hW => ?_, fun w8 hG hW => ?_, fun w8 hG hW => ?_, fun w8 hG hW => ?_, fun w8 hG hW => ?_, fun w8 hG hW => ?_, fun w8 hG hW => ?_, fun w8 hG hW => ?_, fun w8 hG hW => ?_, fun w8 hG hW => ?_, fun w8 hG hW => ?_, fun w8 hG hW => ?_, fun w8 hG hW => ?_, fun w8 hG hW => ?_, fun w8 hG hW => ?_, fun w8 hG hW => ?_, fun w8 hG hW => ?_, fun w8 hG hW => ?_, fun w8 hG hW => ?_, fun w8 hG hW => ?_, fun w8 hG hW => ?_, fun w8 hG hW => ?_, fun w8 hG hW => ?_, fun w8 hG hW => ?_, fun w8 hG hW => ?_, fun w8 hG hW => ?_, fun w8 hG hW => ?_, fun w8 hG hW => ?_, fun w8 hG hW => ?_, fun w8 hG hW => ?_, fun w8 hG hW => ?_, fun w8 hG hW => ?_, fun w8 hG hW => ?_, fun w8 hG hW => ?_, fun w8 hG hW => ?_, fun w8 hG hW => ?_, fun w8 hG hW => ?_, fun w8 hG hW => ?_, fun w8 hG hW => ?_, fun w8 hG hW => ?_, fun w8 hG hW => ?_, fun w8 hG hW => ?_, fun w8 hG hW => ?_, fun w8 hG hW => ?_, fun w8 hG hW => ?_, fun w8 hG hW => ?_, fun w8 hG hW => ?_, fun w8 hG hW => ?_, fun w8 hG hW => ?_, fun w8 hG hW => ?_, fun w8 hG hW => ?_, fun w8 hG hW => ?_, fun w8 hG hW => ?_, fun w8 hG hW => ?_, fun w8 hG hW => ?_, trivial⟩
          · clear hW
            refine stepAt_value rfl rfl rfl (.int .i64 0) w8 ?_ ⟨rfl, Below.refl _ _⟩
            go_simp
          · have q0 := hW 0 (by decide)
            simp only at q0
            rw [q0]
            clear hW
            refine stepAt_value rfl rfl rfl (.bool false) w8 ?_ ⟨rfl, Below.refl _ _⟩
            go_simp
          · have q1 := hW 1 (by decide)
            simp only at q1
            rw [q1]
            clear hW
            refine stepAt_value rfl rfl rfl (.bool false) w8 ?_ ⟨rfl, Below.refl _ _⟩
            go_simp
          · have q2 := hW 2 (by decide)
            simp only at q2
            rw [q2]
            clear hW
            refine stepAt_value rfl rfl rfl (.int .i64 0) w8 ?_ ⟨rfl, Below.refl _ _⟩
            go_simp
          · have q2 := hW 2 (by decide)
            simp only at q2
            have q3 := hW 3 (by decide)
            simp only at q3
            rw [q2, q3]
            clear hW
            refine stepAt_value rfl rfl rfl (.bool false) w8 ?_ ⟨rfl, Below.refl _ _⟩
            go_simp
          · have q2 := hW 2 (by decide)
            simp only at q2
            have q4 := hW 4 (by decide)
            simp only at q4
            rw [q2, q4]
            clear hW
            refine stepAt_value rfl rfl rfl (.bool false) w8 ?_ ⟨rfl, Below.refl _ _⟩
            go_simp
          · have q5 := hW 5 (by decide)
            simp only at q5
            rw [q5]
            clear hW
            refine stepAt_value rfl rfl rfl (.bool false) w8 ?_ ⟨rfl, Below.refl _ _⟩
            go_simp
          · have q6 := hW 6 (by decide)
            simp only at q6
            rw [q6]
            clear hW
            refine stepAt_value rfl rfl rfl (.pointer (some ⟨ub, 0, none⟩)) w8 ?_ ⟨rfl, Below.refl _ _⟩
            go_simp
          · have q6 := hW 6 (by decide)
            simp only at q6
            have q7 := hW 7 (by decide)
            simp only at q7
            rw [q6, q7]
            clear hW
            refine stepAt_call rfl rfl rfl 15 #[.pointer (some ⟨ub, 0, none⟩)] (by go_simp) ((roots_any w8 U ub T1 100 (HUx.out.below hG)).mono fun e w' ⟨v, h1, h2, h3⟩ => ⟨v, h1, (by obtain ⟨ao, cap, g, off, e1, e2⟩ := wide_names h2 HR1.out; exact ⟨ao, cap, g, off, e1, e2⟩), h3⟩)
          · have q6 := hW 6 (by decide)
            simp only at q6
            rw [q6]
            clear hW
            refine stepAt_value rfl rfl rfl (.pointer (some ⟨rb', 0, none⟩)) w8 ?_ ⟨rfl, Below.refl _ _⟩
            go_simp
          · have q6 := hW 6 (by decide)
            simp only at q6
            have q9 := hW 9 (by decide)
            simp only at q9
            rw [q6, q9]
            clear hW
            refine stepAt_value rfl rfl rfl (.pointer (some ⟨rb', 0, none⟩)) w8 ?_ ⟨rfl, Below.refl _ _⟩
            go_simp
          · have q6 := hW 6 (by decide)
            simp only at q6
            have q10 := hW 10 (by decide)
            simp only at q10
            rw [q6, q10]
            clear hW
            refine stepAt_value rfl rfl rfl (.pointer (some ⟨rb', 0, none⟩)) w8 ?_ ⟨rfl, Below.refl _ _⟩
            go_simp
          · have q6 := hW 6 (by decide)
            simp only at q6
            have q11 := hW 11 (by decide)
            simp only at q11
            rw [q6, q11]
            clear hW
            refine stepAt_value rfl rfl rfl (.pointer (some ⟨mb', 0, none⟩)) w8 ?_ ⟨rfl, Below.refl _ _⟩
            have c := (HNx.out.below hG).cellT
            go_simp
          · have q6 := hW 6 (by decide)
            simp only at q6
            have q12 := hW 12 (by decide)
            simp only at q12
            rw [q6, q12]
            clear hW
            refine stepAt_value rfl rfl rfl (.pointer (some ⟨mb', 0, none⟩)) w8 ?_ ⟨rfl, Below.refl _ _⟩
            go_simp
          · have q6 := hW 6 (by decide)
            simp only at q6
            have q13 := hW 13 (by decide)
            simp only at q13
            rw [q6, q13]
            clear hW
            refine stepAt_value rfl rfl rfl (.pointer (some ⟨mb', 0, none⟩)) w8 ?_ ⟨rfl, Below.refl _ _⟩
            go_simp
          · have q6 := hW 6 (by decide)
            simp only at q6
            have q14 := hW 14 (by decide)
            simp only at q14
            rw [q6, q14]
            clear hW
            refine stepAt_value rfl rfl rfl (.slice a1 (rs T1).length c1) w8 ?_ ⟨rfl, Below.refl _ _⟩
            have c := (HRS.out.below hG).cell0
            rw [← rs_length] at c
            go_simp
          · have q6 := hW 6 (by decide)
            simp only at q6
            have q15 := hW 15 (by decide)
            simp only at q15
            obtain ⟨a0, k0, g0, o0, q0, l0⟩ := hW 8 (by decide)
            rw [q6, q15, q0]
            clear hW
            refine stepAt_call rfl rfl rfl 14 #[.slice a0 (rs T1).length k0, .slice a1 (rs T1).length c1] (by go_simp) ((rsame_any w8 a0 a1 k0 c1 g0 g1 o0 o1 (rs T1) (rs T1) HR1.out HR1.out l0 (HRS.out.below hG).l1 HRL1.out).mono fun e w' ⟨h1, n, h2⟩ => ⟨_, h1, by rw [HSM1.out], by rw [h2]; exact below_dN (Below.refl _ _) _⟩)
          · have q6 := hW 6 (by decide)
            simp only at q6
            have q16 := hW 16 (by decide)
            simp only at q16
            rw [q6, q16]
            clear hW
            refine stepAt_value rfl rfl rfl (.bool false) w8 ?_ ⟨rfl, Below.refl _ _⟩
            go_simp
          · have q6 := hW 6 (by decide)
            simp only at q6
            have q17 := hW 17 (by decide)
            simp only at q17
            rw [q6, q17]
            clear hW
            refine stepAt_value rfl rfl rfl (.bool false) w8 ?_ ⟨rfl, Below.refl _ _⟩
            go_simp
          · have q18 := hW 18 (by decide)
            simp only at q18
            rw [q18]
            clear hW
            refine stepAt_value rfl rfl rfl (.bool false) w8 ?_ ⟨rfl, Below.refl _ _⟩
            go_simp
          · have q19 := hW 19 (by decide)
            simp only at q19
            rw [q19]
            clear hW
            refine stepAt_value rfl rfl rfl (.pointer (some ⟨sb, 0, none⟩)) w8 ?_ ⟨rfl, Below.refl _ _⟩
            go_simp
          · have q19 := hW 19 (by decide)
            simp only at q19
            have q20 := hW 20 (by decide)
            simp only at q20
            rw [q19, q20]
            clear hW
            refine stepAt_call rfl rfl rfl 15 #[.pointer (some ⟨sb, 0, none⟩)] (by go_simp) ((roots_any w8 U2 sb T1 100 (HSx.out.below hG)).mono fun e w' ⟨v, h1, h2, h3⟩ => ⟨v, h1, (by obtain ⟨ao, cap, g, off, e1, e2⟩ := wide_names h2 HR1.out; exact ⟨ao, cap, g, off, e1, e2⟩), h3⟩)
          · have q19 := hW 19 (by decide)
            simp only at q19
            rw [q19]
            clear hW
            refine stepAt_value rfl rfl rfl (.pointer (some ⟨rb', 0, none⟩)) w8 ?_ ⟨rfl, Below.refl _ _⟩
            go_simp
          · have q19 := hW 19 (by decide)
            simp only at q19
            have q22 := hW 22 (by decide)
            simp only at q22
            rw [q19, q22]
            clear hW
            refine stepAt_value rfl rfl rfl (.pointer (some ⟨rb', 0, none⟩)) w8 ?_ ⟨rfl, Below.refl _ _⟩
            go_simp
          · have q19 := hW 19 (by decide)
            simp only at q19
            have q23 := hW 23 (by decide)
            simp only at q23
            rw [q19, q23]
            clear hW
            refine stepAt_value rfl rfl rfl (.pointer (some ⟨rb', 0, none⟩)) w8 ?_ ⟨rfl, Below.refl _ _⟩
            go_simp
          · have q19 := hW 19 (by decide)
            simp only at q19
            have q24 := hW 24 (by decide)
            simp only at q24
            rw [q19, q24]
            clear hW
            refine stepAt_value rfl rfl rfl (.pointer (some ⟨mb', 0, none⟩)) w8 ?_ ⟨rfl, Below.refl _ _⟩
            have c := (HNx.out.below hG).cellT
            go_simp
          · have q19 := hW 19 (by decide)
            simp only at q19
            have q25 := hW 25 (by decide)
            simp only at q25
            rw [q19, q25]
            clear hW
            refine stepAt_value rfl rfl rfl (.pointer (some ⟨mb', 0, none⟩)) w8 ?_ ⟨rfl, Below.refl _ _⟩
            go_simp
          · have q19 := hW 19 (by decide)
            simp only at q19
            have q26 := hW 26 (by decide)
            simp only at q26
            rw [q19, q26]
            clear hW
            refine stepAt_value rfl rfl rfl (.pointer (some ⟨mb', 0, none⟩)) w8 ?_ ⟨rfl, Below.refl _ _⟩
            go_simp
          · have q19 := hW 19 (by decide)
            simp only at q19
            have q27 := hW 27 (by decide)
            simp only at q27
            rw [q19, q27]
            clear hW
            refine stepAt_value rfl rfl rfl (.slice a1 (rs T1).length c1) w8 ?_ ⟨rfl, Below.refl _ _⟩
            have c := (HRS.out.below hG).cell0
            rw [← rs_length] at c
            go_simp
          · have q19 := hW 19 (by decide)
            simp only at q19
            have q28 := hW 28 (by decide)
            simp only at q28
            obtain ⟨a0, k0, g0, o0, q0, l0⟩ := hW 21 (by decide)
            rw [q19, q28, q0]
            clear hW
            refine stepAt_call rfl rfl rfl 14 #[.slice a0 (rs T1).length k0, .slice a1 (rs T1).length c1] (by go_simp) ((rsame_any w8 a0 a1 k0 c1 g0 g1 o0 o1 (rs T1) (rs T1) HR1.out HR1.out l0 (HRS.out.below hG).l1 HRL1.out).mono fun e w' ⟨h1, n, h2⟩ => ⟨_, h1, by rw [HSM1.out], by rw [h2]; exact below_dN (Below.refl _ _) _⟩)
          · have q19 := hW 19 (by decide)
            simp only at q19
            have q29 := hW 29 (by decide)
            simp only at q29
            rw [q19, q29]
            clear hW
            refine stepAt_value rfl rfl rfl (.bool false) w8 ?_ ⟨rfl, Below.refl _ _⟩
            go_simp
          · have q19 := hW 19 (by decide)
            simp only at q19
            have q30 := hW 30 (by decide)
            simp only at q30
            rw [q19, q30]
            clear hW
            refine stepAt_value rfl rfl rfl (.bool false) w8 ?_ ⟨rfl, Below.refl _ _⟩
            go_simp
          · have q31 := hW 31 (by decide)
            simp only at q31
            rw [q31]
            clear hW
            refine stepAt_value rfl rfl rfl (.bool false) w8 ?_ ⟨rfl, Below.refl _ _⟩
            go_simp
          · have q32 := hW 32 (by decide)
            simp only at q32
            rw [q32]
            clear hW
            refine stepAt_value rfl rfl rfl (.pointer (some ⟨ub, 0, none⟩)) w8 ?_ ⟨rfl, Below.refl _ _⟩
            go_simp
          · have q32 := hW 32 (by decide)
            simp only at q32
            have q33 := hW 33 (by decide)
            simp only at q33
            rw [q32, q33]
            clear hW
            refine stepAt_call rfl rfl rfl 16 #[.pointer (some ⟨ub, 0, none⟩)] (by go_simp) ((room_any w8 U ub T1 100 (HUx.out.below hG)).mono fun e w' ⟨h1, n, h2⟩ => ⟨_, h1, by rw [HRM.out], by rw [h2]; exact below_dN (Below.refl _ _) _⟩)
          · have q32 := hW 32 (by decide)
            simp only at q32
            rw [q32]
            clear hW
            refine stepAt_value rfl rfl rfl (.pointer (some ⟨rb', 0, none⟩)) w8 ?_ ⟨rfl, Below.refl _ _⟩
            go_simp
          · have q32 := hW 32 (by decide)
            simp only at q32
            have q35 := hW 35 (by decide)
            simp only at q35
            rw [q32, q35]
            clear hW
            refine stepAt_value rfl rfl rfl (.pointer (some ⟨rb', 0, none⟩)) w8 ?_ ⟨rfl, Below.refl _ _⟩
            go_simp
          · have q32 := hW 32 (by decide)
            simp only at q32
            have q36 := hW 36 (by decide)
            simp only at q36
            rw [q32, q36]
            clear hW
            refine stepAt_value rfl rfl rfl (.pointer (some ⟨rb', 0, none⟩)) w8 ?_ ⟨rfl, Below.refl _ _⟩
            go_simp
          · have q32 := hW 32 (by decide)
            simp only at q32
            have q37 := hW 37 (by decide)
            simp only at q37
            rw [q32, q37]
            clear hW
            refine stepAt_value rfl rfl rfl (.pointer (some ⟨mb', 0, none⟩)) w8 ?_ ⟨rfl, Below.refl _ _⟩
            have c := (HNx.out.below hG).cellT
            go_simp
          · have q32 := hW 32 (by decide)
            simp only at q32
            have q38 := hW 38 (by decide)
            simp only at q38
            rw [q32, q38]
            clear hW
            refine stepAt_value rfl rfl rfl (.pointer (some ⟨mb', 0, none⟩)) w8 ?_ ⟨rfl, Below.refl _ _⟩
            go_simp
          · have q32 := hW 32 (by decide)
            simp only at q32
            have q39 := hW 39 (by decide)
            simp only at q39
            rw [q32, q39]
            clear hW
            refine stepAt_value rfl rfl rfl (.pointer (some ⟨mb', 3, none⟩)) w8 ?_ ⟨rfl, Below.refl _ _⟩
            go_simp
          · have q32 := hW 32 (by decide)
            simp only at q32
            have q40 := hW 40 (by decide)
            simp only at q40
            rw [q32, q40]
            clear hW
            refine stepAt_value rfl rfl rfl (.int .i64 100) w8 ?_ ⟨rfl, Below.refl _ _⟩
            have c := (HRS.out.below hG).cell3
            go_simp
          · have q32 := hW 32 (by decide)
            simp only at q32
            rw [q32]
            clear hW
            refine stepAt_value rfl rfl rfl (.pointer (some ⟨rb', 0, none⟩)) w8 ?_ ⟨rfl, Below.refl _ _⟩
            go_simp
          · have q32 := hW 32 (by decide)
            simp only at q32
            have q42 := hW 42 (by decide)
            simp only at q42
            rw [q32, q42]
            clear hW
            refine stepAt_value rfl rfl rfl (.pointer (some ⟨rb', 0, none⟩)) w8 ?_ ⟨rfl, Below.refl _ _⟩
            go_simp
          · have q32 := hW 32 (by decide)
            simp only at q32
            have q43 := hW 43 (by decide)
            simp only at q43
            rw [q32, q43]
            clear hW
            refine stepAt_value rfl rfl rfl (.pointer (some ⟨rb', 0, none⟩)) w8 ?_ ⟨rfl, Below.refl _ _⟩
            go_simp
          · have q32 := hW 32 (by decide)
            simp only at q32
            have q44 := hW 44 (by decide)
            simp only at q44
            rw [q32, q44]
            clear hW
            refine stepAt_value rfl rfl rfl (.pointer (some ⟨mb', 0, none⟩)) w8 ?_ ⟨rfl, Below.refl _ _⟩
            have c := (HNx.out.below hG).cellT
            go_simp
          · have q32 := hW 32 (by decide)
            simp only at q32
            have q45 := hW 45 (by decide)
            simp only at q45
            rw [q32, q45]
            clear hW
            refine stepAt_value rfl rfl rfl (.pointer (some ⟨mb', 0, none⟩)) w8 ?_ ⟨rfl, Below.refl _ _⟩
            go_simp
          · have q32 := hW 32 (by decide)
            simp only at q32
            have q46 := hW 46 (by decide)
            simp only at q46
            rw [q32, q46]
            clear hW
            refine stepAt_value rfl rfl rfl (.pointer (some ⟨mb', 0, none⟩)) w8 ?_ ⟨rfl, Below.refl _ _⟩
            go_simp
          · have q32 := hW 32 (by decide)
            simp only at q32
            have q47 := hW 47 (by decide)
            simp only at q47
            rw [q32, q47]
            clear hW
            refine stepAt_value rfl rfl rfl (.slice a1 (rs T1).length c1) w8 ?_ ⟨rfl, Below.refl _ _⟩
            have c := (HRS.out.below hG).cell0
            rw [← rs_length] at c
            go_simp
          · have q32 := hW 32 (by decide)
            simp only at q32
            have q48 := hW 48 (by decide)
            simp only at q48
            rw [q32, q48]
            clear hW
            refine stepAt_value rfl rfl rfl (.int .i64 ((rs T1).length : Int)) w8 ?_ ⟨rfl, Below.refl _ _⟩
            go_simp
          · have q32 := hW 32 (by decide)
            simp only at q32
            have q41 := hW 41 (by decide)
            simp only at q41
            have q49 := hW 49 (by decide)
            simp only at q49
            rw [q32, q41, q49]
            clear hW
            refine stepAt_value rfl rfl rfl (.int .i64 rm) w8 ?_ ⟨rfl, Below.refl _ _⟩
            go_simp
            exact HSB.out
          · have q32 := hW 32 (by decide)
            simp only at q32
            have q34 := hW 34 (by decide)
            simp only at q34
            have q50 := hW 50 (by decide)
            simp only at q50
            rw [q32, q34, q50]
            clear hW
            refine stepAt_value rfl rfl rfl (.bool false) w8 ?_ ⟨rfl, Below.refl _ _⟩
            go_simp
          · have q32 := hW 32 (by decide)
            simp only at q32
            have q51 := hW 51 (by decide)
            simp only at q51
            rw [q32, q51]
            clear hW
            refine stepAt_value rfl rfl rfl (.bool false) w8 ?_ ⟨rfl, Below.refl _ _⟩
            go_simp
          · have q52 := hW 52 (by decide)
            simp only at q52
            rw [q52]
            clear hW
            refine stepAt_value rfl rfl rfl (.bool false) w8 ?_ ⟨rfl, Below.refl _ _⟩
            go_simp
          · have q53 := hW 53 (by decide)
            simp only at q53
            rw [q53]
            clear hW
            refine stepAt_value rfl rfl rfl (.pointer (some ⟨vb, 0, none⟩)) w8 ?_ ⟨rfl, Below.refl _ _⟩
            go_simp
          · have q53 := hW 53 (by decide)
            simp only at q53
            have q54 := hW 54 (by decide)
            simp only at q54
            rw [q53, q54]
            clear hW
            refine stepAt_call rfl rfl rfl 17 #[.pointer (some ⟨vb, 0, none⟩)] (by go_simp) ((head_any w8 U ub T1 100 V vb O1 (HUx.out.below hG) (HVx.out.below hG)).mono fun e w' ⟨h1, h2⟩ => ⟨_, h1, by rw [HHD.out], h2⟩)
          · have q53 := hW 53 (by decide)
            simp only at q53
            rw [q53]
            clear hW
            refine stepAt_value rfl rfl rfl (.pointer (some ⟨rb', 0, none⟩)) w8 ?_ ⟨rfl, Below.refl _ _⟩
            go_simp
          · have q53 := hW 53 (by decide)
            simp only at q53
            have q56 := hW 56 (by decide)
            simp only at q56
            rw [q53, q56]
            clear hW
            refine stepAt_call rfl rfl rfl 18 #[.pointer (some ⟨rb', 0, none⟩)] (by go_simp) ((rhead_any w8 M' mb' T1 R' rb' O1 100 (HNx.out.below hG) HO1.out).mono fun e w' ⟨h1, h2⟩ => ⟨_, h1, by rw [HHD.out], h2⟩)
          · have q53 := hW 53 (by decide)
            simp only at q53
            have q55 := hW 55 (by decide)
            simp only at q55
            have q57 := hW 57 (by decide)
            simp only at q57
            rw [q53, q55, q57]
            clear hW
            refine stepAt_value rfl rfl rfl (.bool false) w8 ?_ ⟨rfl, Below.refl _ _⟩
            have he := root_eqW w8 hd hd hhl hhl
            rw [show (hd == hd) = true from beq_self_eq_true _] at he
            go_simp
          · have q53 := hW 53 (by decide)
            simp only at q53
            have q58 := hW 58 (by decide)
            simp only at q58
            rw [q53, q58]
            clear hW
            refine stepAt_value rfl rfl rfl (.bool false) w8 ?_ ⟨rfl, Below.refl _ _⟩
            go_simp
        case fin =>
          intro vals w12 hG hV
          replace HTx := Lib.hid (HTx.out.below hG)
          replace HWx := Lib.hid (HWx.out.below hG)
          replace HDx := Lib.hid (HDx.out.below hG)
          replace HBx := Lib.hid (HBx.out.trans (hG.mono HBx.out.size))
          replace HL := Lib.hid (HL.out.trans (hG.mono HL.out.size))
          replace HUx := Lib.hid (HUx.out.below hG)
          replace HVx := Lib.hid (HVx.out.below hG)
          replace HSx := Lib.hid (HSx.out.below hG)
          replace HNx := Lib.hid (HNx.out.below hG)
          replace HRS := Lib.hid (HRS.out.below hG)
          have q59 := hV 59 (by omega)
          simp only at q59
          simp only [List.take_succ_cons, List.take_zero, List.drop_succ_cons, List.drop_zero, putAll, Act.put, List.setIfInBounds_toArray, List.set_cons_zero, List.set_cons_succ, Nat.reduceAdd]
          rw [q59]
          clear hV q59
          generalize vals 0 = y0
          generalize vals 1 = y1
          generalize vals 2 = y2
          generalize vals 3 = y3
          generalize vals 4 = y4
          generalize vals 5 = y5
          generalize vals 6 = y6
          generalize vals 7 = y7
          generalize vals 8 = y8
          generalize vals 9 = y9
          generalize vals 10 = y10
          generalize vals 11 = y11
          generalize vals 12 = y12
          generalize vals 13 = y13
          generalize vals 14 = y14
          generalize vals 15 = y15
          generalize vals 16 = y16
          generalize vals 17 = y17
          generalize vals 18 = y18
          generalize vals 19 = y19
          generalize vals 20 = y20
          generalize vals 21 = y21
          generalize vals 22 = y22
          generalize vals 23 = y23
          generalize vals 24 = y24
          generalize vals 25 = y25
          generalize vals 26 = y26
          generalize vals 27 = y27
          generalize vals 28 = y28
          generalize vals 29 = y29
          generalize vals 30 = y30
          generalize vals 31 = y31
          generalize vals 32 = y32
          generalize vals 33 = y33
          generalize vals 34 = y34
          generalize vals 35 = y35
          generalize vals 36 = y36
          generalize vals 37 = y37
          generalize vals 38 = y38
          generalize vals 39 = y39
          generalize vals 40 = y40
          generalize vals 41 = y41
          generalize vals 42 = y42
          generalize vals 43 = y43
          generalize vals 44 = y44
          generalize vals 45 = y45
          generalize vals 46 = y46
          generalize vals 47 = y47
          generalize vals 48 = y48
          generalize vals 49 = y49
          generalize vals 50 = y50
          generalize vals 51 = y51
          generalize vals 52 = y52
          generalize vals 53 = y53
          generalize vals 54 = y54
          generalize vals 55 = y55
          generalize vals 56 = y56
          generalize vals 57 = y57
          generalize vals 58 = y58
          clear hG
          obtain ⟨N, hN⟩ : ∃ N, T1.length = N := ⟨_, rfl⟩
          have HN := Lib.hid hN
          have kt := HNx.out.cellT
          have kn := HRS.out.cell0
          rw [hN] at kn
          clear hN
          go_wp2_with fail
          clear kt kn
          go_loopw [175] (fun i wy => ∃ q : Nat, q ≤ N ∧ i = .int .i64 q ∧ Hid (Below w12.heap.size w12 wy)) (fun i _ => N - (intOf i).toNat)
          case atStart => exact ⟨0, Nat.zero_le _, rfl, Lib.hid (Below.refl _ _)⟩
          case round =>
            obtain ⟨q, hq, rfl, HLy⟩ := hrel
            obtain ⟨wy, rfl⟩ : ∃ x, x = wr := ⟨_, rfl⟩
            by_cases hlt : q < N
            · obtain ⟨y, hy⟩ : ∃ y, T1[q]? = some y := ⟨_, List.getElem?_eq_getElem (by rw [HN.out]; exact hlt)⟩
              have HRy := Lib.hid (HRS.out.below HLy.out)
              have HUy := Lib.hid (HUx.out.below HLy.out)
              have HVy := Lib.hid (HVx.out.below HLy.out)
              have HNy := Lib.hid (HNx.out.below HLy.out)
              obtain ⟨ha1, hrc⟩ := HRy.out.l1.name HR1.out (rs_at hy)
              obtain ⟨ha2, hsc⟩ := slots_at HRy.out.l2 hy
              subst ha1
              subst ha2
              have HRC := Lib.hid hrc
              have HYA := Lib.hid hy
              have HYL := Lib.hid (show y.1.length = 32 from HCG.out.nds y (List.mem_of_getElem? hy))
              have HYN := Lib.hid (nodeOr_at hy)
              have HYS := Lib.hid (show (nodeAt T1 (q : Int)).isSome = true by rw [nodeAt_nat, hy]; rfl)
              have HLQ := Lib.hid hlt
              have hlq' : (q : Int) < (N : Int) := by omega
              have HWQ := Lib.hid (show wrap64 ((q : Int) + 1) = ((q + 1 : Nat) : Int) by have := HT256.out; have := HN.out; have := HLQ.out; unfold wrap64; omega)
              obtain ⟨wo, hwo⟩ : ∃ wo, tellZ T1 O1.length y.1 0 (owZ O1) = wo := ⟨_, rfl⟩
              have HWO := Lib.hid hwo
              clear hy hrc hsc hq hlt hwo
              have HZ := Lib.hid (blk_zeroR wy)
              have HZL := Lib.hid zero32_len
              have HZZ := Lib.hid (HZ.out.setRow (bv y.1))
              have hbx : Below wy.heap.size wy ((wy.alloc (.cells #[.int .u8 0, .int .u8 0, .int .u8 0, .int .u8 0, .int .u8 0, .int .u8 0, .int .u8 0, .int .u8 0, .int .u8 0, .int .u8 0, .int .u8 0, .int .u8 0, .int .u8 0, .int .u8 0, .int .u8 0, .int .u8 0, .int .u8 0, .int .u8 0, .int .u8 0, .int .u8 0, .int .u8 0, .int .u8 0, .int .u8 0, .int .u8 0, .int .u8 0, .int .u8 0, .int .u8 0, .int .u8 0, .int .u8 0, .int .u8 0, .int .u8 0, .int .u8 0] 24)).setRow wy.heap.size (bv y.1).toArray) := below_row ((Below.refl _ wy).alloc (Nat.le_refl _) _) (Nat.le_refl _) _
              replace HRy := Lib.hid (HRy.out.below hbx)
              replace HUy := Lib.hid (HUy.out.below hbx)
              replace HVy := Lib.hid (HVy.out.below hbx)
              replace HNy := Lib.hid (HNy.out.below hbx)
              replace HLy := Lib.hid (HLy.out.trans (hbx.mono HLy.out.size))
              clear hbx
              obtain ⟨Z, hRR⟩ : ∃ Z, Z = wy.heap.size := ⟨_, rfl⟩
              go_upto_region 24 with (first | ((with_reducible refine wpList_load_name (.tmp 178) ?_ ?_ g1 (o1 + q * 32) y.1 ?_ HYL.out HRC.out ?_); rfl; rfl; rfl) | ((with_reducible refine wpList_store_name (.tmp 26) (.tmp 179) ?_ ?_ wy.heap.size zero32 y.1 ?_ ?_ HZ.out HZL.out HYL.out ?_); rfl; rfl; rfl; rfl))
              try simp only [Act.put]
              rw [← hRR] at HZZ HRy HUy HVy HNy HLy ⊢
              generalize (wy.alloc (.cells #[.int .u8 0, .int .u8 0, .int .u8 0, .int .u8 0, .int .u8 0, .int .u8 0, .int .u8 0, .int .u8 0, .int .u8 0, .int .u8 0, .int .u8 0, .int .u8 0, .int .u8 0, .int .u8 0, .int .u8 0, .int .u8 0, .int .u8 0, .int .u8 0, .int .u8 0, .int .u8 0, .int .u8 0, .int .u8 0, .int .u8 0, .int .u8 0, .int .u8 0, .int .u8 0, .int .u8 0, .int .u8 0, .int .u8 0, .int .u8 0, .int .u8 0, .int .u8 0] 24)).setRow Z (bv y.1).toArray = w13 at HZZ HRy HUy HVy HNy HLy ⊢
              clear HZ HZL hRR
              clear HRC
              have hyl := HYL.out
              go_wp2_with fail
              refine (node_any w13 U ub T1 100 (q : Int) HUy.out).mono ?_
              rintro e w14 ⟨rfl, hbc⟩
              replace HRy := Lib.hid (HRy.out.below hbc)
              replace HUy := Lib.hid (HUy.out.below hbc)
              replace HVy := Lib.hid (HVy.out.below hbc)
              replace HNy := Lib.hid (HNy.out.below hbc)
              replace HLy := Lib.hid (HLy.out.trans (hbc.mono HLy.out.size))
              replace HZZ := Lib.hid (HZZ.out.below hbc HZZ.out.lt)
              clear hbc
              rw [HYN.out, HYS.out]
              have HZ := Lib.hid (show Blk (w14.alloc (.cells #[.int .u8 0, .int .u8 0, .int .u8 0, .int .u8 0, .int .u8 0, .int .u8 0, .int .u8 0, .int .u8 0, .int .u8 0, .int .u8 0, .int .u8 0, .int .u8 0, .int .u8 0, .int .u8 0, .int .u8 0, .int .u8 0, .int .u8 0, .int .u8 0, .int .u8 0, .int .u8 0, .int .u8 0, .int .u8 0, .int .u8 0, .int .u8 0, .int .u8 0, .int .u8 0, .int .u8 0, .int .u8 0, .int .u8 0, .int .u8 0, .int .u8 0, .int .u8 0, .int .i64 0, .int .i64 0] 51)) w14.heap.size 51 (ndv nd0) from Blk.new w14 51 #[.int .u8 0, .int .u8 0, .int .u8 0, .int .u8 0, .int .u8 0, .int .u8 0, .int .u8 0, .int .u8 0, .int .u8 0, .int .u8 0, .int .u8 0, .int .u8 0, .int .u8 0, .int .u8 0, .int .u8 0, .int .u8 0, .int .u8 0, .int .u8 0, .int .u8 0, .int .u8 0, .int .u8 0, .int .u8 0, .int .u8 0, .int .u8 0, .int .u8 0, .int .u8 0, .int .u8 0, .int .u8 0, .int .u8 0, .int .u8 0, .int .u8 0, .int .u8 0, .int .i64 0, .int .i64 0])
              have hbx : Below w14.heap.size w14 ((w14.alloc (.cells #[.int .u8 0, .int .u8 0, .int .u8 0, .int .u8 0, .int .u8 0, .int .u8 0, .int .u8 0, .int .u8 0, .int .u8 0, .int .u8 0, .int .u8 0, .int .u8 0, .int .u8 0, .int .u8 0, .int .u8 0, .int .u8 0, .int .u8 0, .int .u8 0, .int .u8 0, .int .u8 0, .int .u8 0, .int .u8 0, .int .u8 0, .int .u8 0, .int .u8 0, .int .u8 0, .int .u8 0, .int .u8 0, .int .u8 0, .int .u8 0, .int .u8 0, .int .u8 0, .int .i64 0, .int .i64 0] 51)).setRow w14.heap.size (ndv y).toArray) := below_row ((Below.refl _ w14).alloc (Nat.le_refl _) _) (Nat.le_refl _) _
              have hsz := HLy.out.size
              have HNB := Lib.hid (HZ.out.setRow (ndv y))
              replace HRy := Lib.hid (HRy.out.below hbx)
              replace HUy := Lib.hid (HUy.out.below hbx)
              replace HVy := Lib.hid (HVy.out.below hbx)
              replace HNy := Lib.hid (HNy.out.below hbx)
              replace HLy := Lib.hid (HLy.out.trans (hbx.mono HLy.out.size))
              replace HZZ := Lib.hid (HZZ.out.below hbx HZZ.out.lt)
              go_upto_region 25 with ((with_reducible refine wpList_store_node (.tmp 27) (.tmp 184) ?_ ?_ w14.heap.size nd0 y ?_ ?_ HZ.out nd0_len HYL.out ?_); rfl; rfl; rfl; rfl)
              try simp only [Act.put]
              obtain ⟨NB, hY⟩ : ∃ NB, NB = w14.heap.size := ⟨_, rfl⟩
              have HNBSZ := Lib.hid (show w12.heap.size ≤ NB by rw [hY]; exact hsz)
              rw [← hY] at HNB HRy HUy HVy HNy HLy HZZ ⊢
              generalize (w14.alloc (.cells #[.int .u8 0, .int .u8 0, .int .u8 0, .int .u8 0, .int .u8 0, .int .u8 0, .int .u8 0, .int .u8 0, .int .u8 0, .int .u8 0, .int .u8 0, .int .u8 0, .int .u8 0, .int .u8 0, .int .u8 0, .int .u8 0, .int .u8 0, .int .u8 0, .int .u8 0, .int .u8 0, .int .u8 0, .int .u8 0, .int .u8 0, .int .u8 0, .int .u8 0, .int .u8 0, .int .u8 0, .int .u8 0, .int .u8 0, .int .u8 0, .int .u8 0, .int .u8 0, .int .i64 0, .int .i64 0] 51)).setRow NB (ndv y).toArray = w15 at HNB HRy HUy HVy HNy HLy HZZ ⊢
              clear hbx HZ hY hsz
              have hnt := HN.out
              have hlq := HLQ.out
              clear hlq'
              refine wp_region_free (P := Try.prog) 37 (fun w' => Below w15.heap.size w15 w') (fun oq v w' => match oq with
                  | 0 => v = .bool true
                  | 1 => v = .bool false
                  | 2 => v = .bool false
                  | 3 => v = .pointer (some ⟨NB, 32, none⟩)
                  | 4 => v = .int .i64 y.2.1
                  | 5 => v = .pointer (some ⟨rb', 0, none⟩)
                  | 6 => v = .pointer (some ⟨rb', 0, none⟩)
                  | 7 => v = .pointer (some ⟨rb', 0, none⟩)
                  | 8 => v = .pointer (some ⟨mb', 0, none⟩)
                  | 9 => v = .pointer (some ⟨mb', 0, none⟩)
                  | 10 => v = .pointer (some ⟨mb', 1, none⟩)
                  | 11 => v = .slice (some ⟨g2, o2, none⟩) N c2
                  | 12 => v = .int .i64 (q : Int)
                  | 13 => v = .pointer (some ⟨g2, o2 + q, none⟩)
                  | 14 => v = .int .i64 y.2.1
                  | 15 => v = .bool false
                  | 16 => v = .bool false
                  | 17 => v = .bool false
                  | 18 => v = .pointer (some ⟨NB, 33, none⟩)
                  | 19 => v = .int .i64 y.2.2
                  | 20 => v = .pointer (some ⟨rb', 0, none⟩)
                  | 21 => v = .pointer (some ⟨rb', 0, none⟩)
                  | 22 => v = .pointer (some ⟨rb', 0, none⟩)
                  | 23 => v = .pointer (some ⟨mb', 0, none⟩)
                  | 24 => v = .int .i64 (q : Int)
                  | 25 => v = .int .i64 y.2.2
                  | 26 => v = .bool false
                  | 27 => v = .bool false
                  | 28 => v = .bool false
                  | 29 => v = .pointer (some ⟨vb, 0, none⟩)
                  | 30 => v = .agg (bv y.1).toArray
                  | 31 => v = .int .i64 wo
                  | 32 => v = .pointer (some ⟨rb', 0, none⟩)
                  | 33 => v = .agg (bv y.1).toArray
                  | 34 => v = .int .i64 wo
                  | 35 => v = .bool false
                  | 36 => v = .bool false
                  | _ => True) (by kernel_rfl) (by kernel_rfl) (Below.refl _ _).drew ?gb ?vb ?steps ?fin
              case gb => exact fun a b h1 h2 => h1.trans (h2.mono h1.size)
              case vb =>
                intro oq v a b h hb
                match oq with
                | 0 => exact h
                | 1 => exact h
                | 2 => exact h
                | 3 => exact h
                | 4 => exact h
                | 5 => exact h
                | 6 => exact h
                | 7 => exact h
                | 8 => exact h
                | 9 => exact h
                | 10 => exact h
                | 11 => exact h
                | 12 => exact h
                | 13 => exact h
                | 14 => exact h
                | 15 => exact h
                | 16 => exact h
                | 17 => exact h
                | 18 => exact h
                | 19 => exact h
                | 20 => exact h
                | 21 => exact h
                | 22 => exact h
                | 23 => exact h
                | 24 => exact h
                | 25 => exact h
                | 26 => exact h
                | 27 => exact h
                | 28 => exact h
                | 29 => exact h
                | 30 => exact h
                | 31 => exact h
                | 32 => exact h
                | 33 => exact h
                | 34 => exact h
                | 35 => exact h
                | 36 => exact h
                | _ + 37 => trivial
              case steps =>
                intro vals
                simp only [List.take_succ_cons, List.take_zero, freeSteps, Act.put, List.setIfInBounds_toArray, List.set_cons_zero, List.set_cons_succ, Nat.reduceAdd]
                refine ⟨fun w8 hG hW => ?_, fun w8 hG hW => ?_, fun w8 hG hW => ?_, fun w8 hG hW => ?_, fun w8 hG hW => ?_, fun w8 hG hW => ?_, fun w8 hG hW => ?_, fun w8 hG hW => ?_, fun w8 hG hW => ?_, fun w8 hG hW => ?_, fun w8 hG hW => ?_, fun w8 hG hW => ?_, fun w8 hG hW => ?_, fun w8 hG hW => ?_, fun w8 hG hW => ?_, fun w8 hG hW => ?_, fun w8 hG hW => ?_, fun w8 hG hW => ?_, fun w8 hG hW => ?_, fun w8 hG hW => ?_, fun w8 hG hW => ?_, fun w8 hG hW => ?_, fun w8 hG hW => ?_, fun w8 hG hW => ?_, fun w8 hG hW => ?_, fun w8 hG hW => ?_, fun w8 hG hW => ?_, fun w8 hG hW => ?_, fun w8 hG hW => ?_, fun w8 hG hW => ?_, fun w8 hG hW => ?_, fun w8 hG hW => ?_, fun w8 hG hW => ?_, fun w8 hG hW => ?_, fun w8 hG hW => ?_, fun w8 hG hW => ?_, fun w8 hG hW => ?_, trivial⟩
                · clear hW
                  refine stepAt_value rfl rfl rfl (.bool true) w8 ?_ ⟨rfl, Below.refl _ _⟩
                  go_simp
                · have q0 := hW 0 (by decide)
                  simp only at q0
                  rw [q0]
                  clear hW
                  refine stepAt_value rfl rfl rfl (.bool false) w8 ?_ ⟨rfl, Below.refl _ _⟩
                  go_simp
                · have q1 := hW 1 (by decide)
                  simp only at q1
                  rw [q1]
                  clear hW
                  refine stepAt_value rfl rfl rfl (.bool false) w8 ?_ ⟨rfl, Below.refl _ _⟩
                  go_simp
                · have q2 := hW 2 (by decide)
                  simp only at q2
                  rw [q2]
                  clear hW
                  refine stepAt_value rfl rfl rfl (.pointer (some ⟨NB, 32, none⟩)) w8 ?_ ⟨rfl, Below.refl _ _⟩
                  go_simp
                · have q2 := hW 2 (by decide)
                  simp only at q2
                  have q3 := hW 3 (by decide)
                  simp only at q3
                  rw [q2, q3]
                  clear hW
                  refine stepAt_value rfl rfl rfl (.int .i64 y.2.1) w8 ?_ ⟨rfl, Below.refl _ _⟩
                  have c := (HNB.out.below hG HNB.out.lt).nodeSlot hyl
                  go_simp
                · have q2 := hW 2 (by decide)
                  simp only at q2
                  rw [q2]
                  clear hW
                  refine stepAt_value rfl rfl rfl (.pointer (some ⟨rb', 0, none⟩)) w8 ?_ ⟨rfl, Below.refl _ _⟩
                  go_simp
                · have q2 := hW 2 (by decide)
                  simp only at q2
                  have q5 := hW 5 (by decide)
                  simp only at q5
                  rw [q2, q5]
                  clear hW
                  refine stepAt_value rfl rfl rfl (.pointer (some ⟨rb', 0, none⟩)) w8 ?_ ⟨rfl, Below.refl _ _⟩
                  go_simp
                · have q2 := hW 2 (by decide)
                  simp only at q2
                  have q6 := hW 6 (by decide)
                  simp only at q6
                  rw [q2, q6]
                  clear hW
                  refine stepAt_value rfl rfl rfl (.pointer (some ⟨rb', 0, none⟩)) w8 ?_ ⟨rfl, Below.refl _ _⟩
                  go_simp
                · have q2 := hW 2 (by decide)
                  simp only at q2
                  have q7 := hW 7 (by decide)
                  simp only at q7
                  rw [q2, q7]
                  clear hW
                  refine stepAt_value rfl rfl rfl (.pointer (some ⟨mb', 0, none⟩)) w8 ?_ ⟨rfl, Below.refl _ _⟩
                  have c := (HNy.out.below hG).cellT
                  go_simp
                · have q2 := hW 2 (by decide)
                  simp only at q2
                  have q8 := hW 8 (by decide)
                  simp only at q8
                  rw [q2, q8]
                  clear hW
                  refine stepAt_value rfl rfl rfl (.pointer (some ⟨mb', 0, none⟩)) w8 ?_ ⟨rfl, Below.refl _ _⟩
                  go_simp
                · have q2 := hW 2 (by decide)
                  simp only at q2
                  have q9 := hW 9 (by decide)
                  simp only at q9
                  rw [q2, q9]
                  clear hW
                  refine stepAt_value rfl rfl rfl (.pointer (some ⟨mb', 1, none⟩)) w8 ?_ ⟨rfl, Below.refl _ _⟩
                  go_simp
                · have q2 := hW 2 (by decide)
                  simp only at q2
                  have q10 := hW 10 (by decide)
                  simp only at q10
                  rw [q2, q10]
                  clear hW
                  refine stepAt_value rfl rfl rfl (.slice (some ⟨g2, o2, none⟩) N c2) w8 ?_ ⟨rfl, Below.refl _ _⟩
                  have c := (HRy.out.below hG).cell1
                  rw [hnt] at c
                  go_simp
                · have q2 := hW 2 (by decide)
                  simp only at q2
                  rw [q2]
                  clear hW
                  refine stepAt_value rfl rfl rfl (.int .i64 (q : Int)) w8 ?_ ⟨rfl, Below.refl _ _⟩
                  go_simp
                · have q2 := hW 2 (by decide)
                  simp only at q2
                  have q11 := hW 11 (by decide)
                  simp only at q11
                  have q12 := hW 12 (by decide)
                  simp only at q12
                  rw [q2, q11, q12]
                  clear hW
                  refine stepAt_value rfl rfl rfl (.pointer (some ⟨g2, o2 + q, none⟩)) w8 ?_ ⟨rfl, Below.refl _ _⟩
                  go_simp
                · have q2 := hW 2 (by decide)
                  simp only at q2
                  have q13 := hW 13 (by decide)
                  simp only at q13
                  rw [q2, q13]
                  clear hW
                  refine stepAt_value rfl rfl rfl (.int .i64 y.2.1) w8 ?_ ⟨rfl, Below.refl _ _⟩
                  have c := (slots_at (HRy.out.below hG).l2 HYA.out).2
                  go_simp
                · have q2 := hW 2 (by decide)
                  simp only at q2
                  have q4 := hW 4 (by decide)
                  simp only at q4
                  have q14 := hW 14 (by decide)
                  simp only at q14
                  rw [q2, q4, q14]
                  clear hW
                  refine stepAt_value rfl rfl rfl (.bool false) w8 ?_ ⟨rfl, Below.refl _ _⟩
                  go_simp
                · have q2 := hW 2 (by decide)
                  simp only at q2
                  have q15 := hW 15 (by decide)
                  simp only at q15
                  rw [q2, q15]
                  clear hW
                  refine stepAt_value rfl rfl rfl (.bool false) w8 ?_ ⟨rfl, Below.refl _ _⟩
                  go_simp
                · have q16 := hW 16 (by decide)
                  simp only at q16
                  rw [q16]
                  clear hW
                  refine stepAt_value rfl rfl rfl (.bool false) w8 ?_ ⟨rfl, Below.refl _ _⟩
                  go_simp
                · have q17 := hW 17 (by decide)
                  simp only at q17
                  rw [q17]
                  clear hW
                  refine stepAt_value rfl rfl rfl (.pointer (some ⟨NB, 33, none⟩)) w8 ?_ ⟨rfl, Below.refl _ _⟩
                  go_simp
                · have q17 := hW 17 (by decide)
                  simp only at q17
                  have q18 := hW 18 (by decide)
                  simp only at q18
                  rw [q17, q18]
                  clear hW
                  refine stepAt_value rfl rfl rfl (.int .i64 y.2.2) w8 ?_ ⟨rfl, Below.refl _ _⟩
                  have c := (HNB.out.below hG HNB.out.lt).nodeParent hyl
                  go_simp
                · have q17 := hW 17 (by decide)
                  simp only at q17
                  rw [q17]
                  clear hW
                  refine stepAt_value rfl rfl rfl (.pointer (some ⟨rb', 0, none⟩)) w8 ?_ ⟨rfl, Below.refl _ _⟩
                  go_simp
                · have q17 := hW 17 (by decide)
                  simp only at q17
                  have q20 := hW 20 (by decide)
                  simp only at q20
                  rw [q17, q20]
                  clear hW
                  refine stepAt_value rfl rfl rfl (.pointer (some ⟨rb', 0, none⟩)) w8 ?_ ⟨rfl, Below.refl _ _⟩
                  go_simp
                · have q17 := hW 17 (by decide)
                  simp only at q17
                  have q21 := hW 21 (by decide)
                  simp only at q21
                  rw [q17, q21]
                  clear hW
                  refine stepAt_value rfl rfl rfl (.pointer (some ⟨rb', 0, none⟩)) w8 ?_ ⟨rfl, Below.refl _ _⟩
                  go_simp
                · have q17 := hW 17 (by decide)
                  simp only at q17
                  have q22 := hW 22 (by decide)
                  simp only at q22
                  rw [q17, q22]
                  clear hW
                  refine stepAt_value rfl rfl rfl (.pointer (some ⟨mb', 0, none⟩)) w8 ?_ ⟨rfl, Below.refl _ _⟩
                  have c := (HNy.out.below hG).cellT
                  go_simp
                · have q17 := hW 17 (by decide)
                  simp only at q17
                  rw [q17]
                  clear hW
                  refine stepAt_value rfl rfl rfl (.int .i64 (q : Int)) w8 ?_ ⟨rfl, Below.refl _ _⟩
                  go_simp
                · have q17 := hW 17 (by decide)
                  simp only at q17
                  have q23 := hW 23 (by decide)
                  simp only at q23
                  have q24 := hW 24 (by decide)
                  simp only at q24
                  rw [q17, q23, q24]
                  clear hW
                  refine stepAt_call rfl rfl rfl 20 #[.pointer (some ⟨mb', 0, none⟩), .int .i64 (q : Int)] (by go_simp) ((refup_any w8 M' mb' T1 100 (q : Int) (HNy.out.ref.below hG)).mono fun e w' ⟨h1, h2⟩ => ⟨_, h1, by rw [HYN.out], h2⟩)
                · have q17 := hW 17 (by decide)
                  simp only at q17
                  have q19 := hW 19 (by decide)
                  simp only at q19
                  have q25 := hW 25 (by decide)
                  simp only at q25
                  rw [q17, q19, q25]
                  clear hW
                  refine stepAt_value rfl rfl rfl (.bool false) w8 ?_ ⟨rfl, Below.refl _ _⟩
                  go_simp
                · have q17 := hW 17 (by decide)
                  simp only at q17
                  have q26 := hW 26 (by decide)
                  simp only at q26
                  rw [q17, q26]
                  clear hW
                  refine stepAt_value rfl rfl rfl (.bool false) w8 ?_ ⟨rfl, Below.refl _ _⟩
                  go_simp
                · have q27 := hW 27 (by decide)
                  simp only at q27
                  rw [q27]
                  clear hW
                  refine stepAt_value rfl rfl rfl (.bool false) w8 ?_ ⟨rfl, Below.refl _ _⟩
                  go_simp
                · have q28 := hW 28 (by decide)
                  simp only at q28
                  rw [q28]
                  clear hW
                  refine stepAt_value rfl rfl rfl (.pointer (some ⟨vb, 0, none⟩)) w8 ?_ ⟨rfl, Below.refl _ _⟩
                  go_simp
                · have q28 := hW 28 (by decide)
                  simp only at q28
                  rw [q28]
                  clear hW
                  exact stepAt_load_run rfl rfl rfl _ _ rfl _ _ rfl (run_load_root hyl (HZZ.out.below hG HZZ.out.lt).rootAll) ⟨rfl, Below.refl _ _⟩
                · have q28 := hW 28 (by decide)
                  simp only at q28
                  have q29 := hW 29 (by decide)
                  simp only at q29
                  have q30 := hW 30 (by decide)
                  simp only at q30
                  rw [q28, q29, q30]
                  clear hW
                  refine stepAt_call rfl rfl rfl 21 #[.pointer (some ⟨vb, 0, none⟩), .agg (bv y.1).toArray] (by go_simp) ((own_any w8 U ub T1 100 V vb O1 y.1 (HUy.out.below hG) (HVy.out.below hG) hyl).mono fun e w' ⟨h1, h2⟩ => ⟨_, h1, by rw [HWO.out], h2⟩)
                · have q28 := hW 28 (by decide)
                  simp only at q28
                  rw [q28]
                  clear hW
                  refine stepAt_value rfl rfl rfl (.pointer (some ⟨rb', 0, none⟩)) w8 ?_ ⟨rfl, Below.refl _ _⟩
                  go_simp
                · have q28 := hW 28 (by decide)
                  simp only at q28
                  rw [q28]
                  clear hW
                  exact stepAt_load_run rfl rfl rfl _ _ rfl _ _ rfl (run_load_root hyl (HZZ.out.below hG HZZ.out.lt).rootAll) ⟨rfl, Below.refl _ _⟩
                · have q28 := hW 28 (by decide)
                  simp only at q28
                  have q32 := hW 32 (by decide)
                  simp only at q32
                  have q33 := hW 33 (by decide)
                  simp only at q33
                  rw [q28, q32, q33]
                  clear hW
                  refine stepAt_call rfl rfl rfl 22 #[.pointer (some ⟨rb', 0, none⟩), .agg (bv y.1).toArray] (by go_simp) ((rown_any w8 M' mb' T1 R' rb' O1 100 y.1 (HNy.out.below hG) hyl).mono fun e w' ⟨h1, h2⟩ => ⟨_, h1, by rw [HWO.out], h2⟩)
                · have q28 := hW 28 (by decide)
                  simp only at q28
                  have q31 := hW 31 (by decide)
                  simp only at q31
                  have q34 := hW 34 (by decide)
                  simp only at q34
                  rw [q28, q31, q34]
                  clear hW
                  refine stepAt_value rfl rfl rfl (.bool false) w8 ?_ ⟨rfl, Below.refl _ _⟩
                  go_simp
                · have q28 := hW 28 (by decide)
                  simp only at q28
                  have q35 := hW 35 (by decide)
                  simp only at q35
                  rw [q28, q35]
                  clear hW
                  refine stepAt_value rfl rfl rfl (.bool false) w8 ?_ ⟨rfl, Below.refl _ _⟩
                  go_simp
              case fin =>
                intro vals w16 hG hV
                replace HLy := Lib.hid (HLy.out.trans (hG.mono HLy.out.size))
                have q36 := hV 36 (by omega)
                simp only at q36
                simp only [List.take_succ_cons, List.take_zero, List.drop_succ_cons, List.drop_zero, putAll, Act.put, List.setIfInBounds_toArray, List.set_cons_zero, List.set_cons_succ, Nat.reduceAdd]
                rw [q36]
                clear hV q36
                generalize vals 0 = y0
                generalize vals 1 = y1
                generalize vals 2 = y2
                generalize vals 3 = y3
                generalize vals 4 = y4
                generalize vals 5 = y5
                generalize vals 6 = y6
                generalize vals 7 = y7
                generalize vals 8 = y8
                generalize vals 9 = y9
                generalize vals 10 = y10
                generalize vals 11 = y11
                generalize vals 12 = y12
                generalize vals 13 = y13
                generalize vals 14 = y14
                generalize vals 15 = y15
                generalize vals 16 = y16
                generalize vals 17 = y17
                generalize vals 18 = y18
                generalize vals 19 = y19
                generalize vals 20 = y20
                generalize vals 21 = y21
                generalize vals 22 = y22
                generalize vals 23 = y23
                generalize vals 24 = y24
                generalize vals 25 = y25
                generalize vals 26 = y26
                generalize vals 27 = y27
                generalize vals 28 = y28
                generalize vals 29 = y29
                generalize vals 30 = y30
                generalize vals 31 = y31
                generalize vals 32 = y32
                generalize vals 33 = y33
                generalize vals 34 = y34
                generalize vals 35 = y35
                clear hG
                clear HRy HUy HVy HNy HZZ HNB
                go_wp2_with fail
                go_roundw
                case rel => exact ⟨q + 1, by omega, by first | rw [HWQ.out] | rw [Int.natCast_succ], HLy⟩
                case measure => first | exact measK N q 1 ((q : Int) + 1) (by omega) hlq Nat.zero_lt_one | exact measK N q 1 (wrap64 ((q : Int) + 1)) HWQ.out hlq Nat.zero_lt_one
            · have hlq2 : ¬ (q : Int) < (N : Int) := by omega
              replace HL := Lib.hid (HL.out.trans (HLy.out.mono HL.out.size))
              clear hlt
              have hlk := HLT.out
              go_wp2_with fail
              go_roundw
              case rel => exact ⟨k + 1, by omega, by first | rw [HWK.out] | rw [Int.natCast_succ], HL⟩
              case measure => first | exact measK 2 k 1 ((k : Int) + 1) (by omega) hlk Nat.zero_lt_one | exact measK 2 k 1 (wrap64 ((k : Int) + 1)) HWK.out hlk Nat.zero_lt_one
      · have hlt2 : ¬ (k : Int) < 2 := by omega
        obtain ⟨hd, hhd⟩ : ∃ hd, pnm t (hdW t own : Int) = hd := ⟨_, rfl⟩
        have hhl : hd.length = 32 := by rw [← hhd]; exact HGD.out.pnm_len _
        have HHD := Lib.hid hhd
        obtain ⟨a1, a2, a3, c1, c2, c3, g1, g2, g3, o1, o2, o3, hrs⟩ := HDx.out.ref.open
        have HRS := Lib.hid hrs
        clear hhd hrs hlt
        go_wp2_with fail
        refine wp_region_free (P := Try.prog) 17 (fun w' => Below wx.heap.size wx w') (fun oq v w' => match oq with
            | 0 => v = .pointer (some ⟨tb, 0, none⟩)
            | 1 => ∃ ao cap g off, v = .slice ao (rs t).length cap ∧ Lies w' w'.heap.size ao g off (rv (rs t))
            | 2 => v = .pointer (some ⟨rb, 0, none⟩)
            | 3 => v = .pointer (some ⟨rb, 0, none⟩)
            | 4 => v = .pointer (some ⟨rb, 0, none⟩)
            | 5 => v = .pointer (some ⟨mb, 0, none⟩)
            | 6 => v = .pointer (some ⟨mb, 0, none⟩)
            | 7 => v = .pointer (some ⟨mb, 0, none⟩)
            | 8 => v = .slice a1 (rs t).length c1
            | 9 => v = .bool true
            | 10 => v = .bool true
            | 11 => v = .pointer (some ⟨wb, 0, none⟩)
            | 12 => v = .agg (bv hd).toArray
            | 13 => v = .pointer (some ⟨rb, 0, none⟩)
            | 14 => v = .agg (bv hd).toArray
            | 15 => v = .bool true
            | 16 => v = .bool true
            | _ => True) (by kernel_rfl) (by kernel_rfl) (Below.refl _ _).drew ?gb ?vb ?steps ?fin
        case gb => exact fun a b h1 h2 => h1.trans (h2.mono h1.size)
        case vb =>
          intro oq v a b h hb
          match oq with
          | 0 => exact h
          | 1 => (obtain ⟨ao, cap, g, off, h1, h2⟩ := h; exact ⟨ao, cap, g, off, h1, h2.below hb⟩)
          | 2 => exact h
          | 3 => exact h
          | 4 => exact h
          | 5 => exact h
          | 6 => exact h
          | 7 => exact h
          | 8 => exact h
          | 9 => exact h
          | 10 => exact h
          | 11 => exact h
          | 12 => exact h
          | 13 => exact h
          | 14 => exact h
          | 15 => exact h
          | 16 => exact h
          | _ + 17 => trivial
        case steps =>
          intro vals
          simp only [List.take_succ_cons, List.take_zero, freeSteps, Act.put, List.setIfInBounds_toArray, List.set_cons_zero, List.set_cons_succ, Nat.reduceAdd]
          refine ⟨fun w8 hG hW => ?_, fun w8 hG hW => ?_, fun w8 hG hW => ?_, fun w8 hG hW => ?_, fun w8 hG hW => ?_, fun w8 hG hW => ?_, fun w8 hG hW => ?_, fun w8 hG hW => ?_, fun w8 hG hW => ?_, fun w8 hG hW => ?_, fun w8 hG hW => ?_, fun w8 hG hW => ?_, fun w8 hG hW => ?_, fun w8 hG hW => ?_, fun w8 hG hW => ?_, fun w8 hG hW => ?_, fun w8 hG hW => ?_, trivial⟩
          · clear hW
            refine stepAt_value rfl rfl rfl (.pointer (some ⟨tb, 0, none⟩)) w8 ?_ ⟨rfl, Below.refl _ _⟩
            go_simp
          · have q0 := hW 0 (by decide)
            simp only at q0
            rw [q0]
            clear hW
            refine stepAt_call rfl rfl rfl 15 #[.pointer (some ⟨tb, 0, none⟩)] (by go_simp) ((roots_any w8 G tb t 100 (HTx.out.below hG)).mono fun e w' ⟨v, h1, h2, h3⟩ => ⟨v, h1, (by obtain ⟨ao, cap, g, off, e1, e2⟩ := wide_names h2 HRT.out; exact ⟨ao, cap, g, off, e1, e2⟩), h3⟩)
          · clear hW
            refine stepAt_value rfl rfl rfl (.pointer (some ⟨rb, 0, none⟩)) w8 ?_ ⟨rfl, Below.refl _ _⟩
            go_simp
          · have q2 := hW 2 (by decide)
            simp only at q2
            rw [q2]
            clear hW
            refine stepAt_value rfl rfl rfl (.pointer (some ⟨rb, 0, none⟩)) w8 ?_ ⟨rfl, Below.refl _ _⟩
            go_simp
          · have q3 := hW 3 (by decide)
            simp only at q3
            rw [q3]
            clear hW
            refine stepAt_value rfl rfl rfl (.pointer (some ⟨rb, 0, none⟩)) w8 ?_ ⟨rfl, Below.refl _ _⟩
            go_simp
          · have q4 := hW 4 (by decide)
            simp only at q4
            rw [q4]
            clear hW
            refine stepAt_value rfl rfl rfl (.pointer (some ⟨mb, 0, none⟩)) w8 ?_ ⟨rfl, Below.refl _ _⟩
            have c := (HDx.out.below hG).cellT
            go_simp
          · have q5 := hW 5 (by decide)
            simp only at q5
            rw [q5]
            clear hW
            refine stepAt_value rfl rfl rfl (.pointer (some ⟨mb, 0, none⟩)) w8 ?_ ⟨rfl, Below.refl _ _⟩
            go_simp
          · have q6 := hW 6 (by decide)
            simp only at q6
            rw [q6]
            clear hW
            refine stepAt_value rfl rfl rfl (.pointer (some ⟨mb, 0, none⟩)) w8 ?_ ⟨rfl, Below.refl _ _⟩
            go_simp
          · have q7 := hW 7 (by decide)
            simp only at q7
            rw [q7]
            clear hW
            refine stepAt_value rfl rfl rfl (.slice a1 (rs t).length c1) w8 ?_ ⟨rfl, Below.refl _ _⟩
            have c := (HRS.out.below hG).cell0
            rw [← rs_length] at c
            go_simp
          · have q8 := hW 8 (by decide)
            simp only at q8
            obtain ⟨a0, k0, g0, o0, q0, l0⟩ := hW 1 (by decide)
            rw [q8, q0]
            clear hW
            refine stepAt_call rfl rfl rfl 14 #[.slice a0 (rs t).length k0, .slice a1 (rs t).length c1] (by go_simp) ((rsame_any w8 a0 a1 k0 c1 g0 g1 o0 o1 (rs t) (rs t) HRT.out HRT.out l0 (HRS.out.below hG).l1 HRL0.out).mono fun e w' ⟨h1, n, h2⟩ => ⟨_, h1, by rw [HSM.out], by rw [h2]; exact below_dN (Below.refl _ _) _⟩)
          · have q9 := hW 9 (by decide)
            simp only at q9
            rw [q9]
            clear hW
            refine stepAt_value rfl rfl rfl (.bool true) w8 ?_ ⟨rfl, Below.refl _ _⟩
            go_simp
          · have q10 := hW 10 (by decide)
            simp only at q10
            rw [q10]
            clear hW
            refine stepAt_value rfl rfl rfl (.pointer (some ⟨wb, 0, none⟩)) w8 ?_ ⟨rfl, Below.refl _ _⟩
            go_simp
          · have q10 := hW 10 (by decide)
            simp only at q10
            have q11 := hW 11 (by decide)
            simp only at q11
            rw [q10, q11]
            clear hW
            refine stepAt_call rfl rfl rfl 17 #[.pointer (some ⟨wb, 0, none⟩)] (by go_simp) ((head_any w8 G tb t 100 F wb own (HTx.out.below hG) (HWx.out.below hG)).mono fun e w' ⟨h1, h2⟩ => ⟨_, h1, by rw [HHD.out], h2⟩)
          · have q10 := hW 10 (by decide)
            simp only at q10
            rw [q10]
            clear hW
            refine stepAt_value rfl rfl rfl (.pointer (some ⟨rb, 0, none⟩)) w8 ?_ ⟨rfl, Below.refl _ _⟩
            go_simp
          · have q10 := hW 10 (by decide)
            simp only at q10
            have q13 := hW 13 (by decide)
            simp only at q13
            rw [q10, q13]
            clear hW
            refine stepAt_call rfl rfl rfl 18 #[.pointer (some ⟨rb, 0, none⟩)] (by go_simp) ((rhead_any w8 M mb t R rb own 100 (HDx.out.below hG) HO0.out).mono fun e w' ⟨h1, h2⟩ => ⟨_, h1, by rw [HHD.out], h2⟩)
          · have q10 := hW 10 (by decide)
            simp only at q10
            have q12 := hW 12 (by decide)
            simp only at q12
            have q14 := hW 14 (by decide)
            simp only at q14
            rw [q10, q12, q14]
            clear hW
            refine stepAt_value rfl rfl rfl (.bool true) w8 ?_ ⟨rfl, Below.refl _ _⟩
            have he := root_eqW w8 hd hd hhl hhl
            rw [show (hd == hd) = true from beq_self_eq_true _] at he
            go_simp
          · have q10 := hW 10 (by decide)
            simp only at q10
            have q15 := hW 15 (by decide)
            simp only at q15
            rw [q10, q15]
            clear hW
            refine stepAt_value rfl rfl rfl (.bool true) w8 ?_ ⟨rfl, Below.refl _ _⟩
            go_simp
        case fin =>
          intro vals w20 hG hV
          replace HBx := Lib.hid (HBx.out.trans (hG.mono HBx.out.size))
          have q16 := hV 16 (by omega)
          simp only at q16
          simp only [List.take_succ_cons, List.take_zero, List.drop_succ_cons, List.drop_zero, putAll, Act.put, List.setIfInBounds_toArray, List.set_cons_zero, List.set_cons_succ, Nat.reduceAdd]
          rw [q16]
          clear hV q16
          generalize vals 0 = y0
          generalize vals 1 = y1
          generalize vals 2 = y2
          generalize vals 3 = y3
          generalize vals 4 = y4
          generalize vals 5 = y5
          generalize vals 6 = y6
          generalize vals 7 = y7
          generalize vals 8 = y8
          generalize vals 9 = y9
          generalize vals 10 = y10
          generalize vals 11 = y11
          generalize vals 12 = y12
          generalize vals 13 = y13
          generalize vals 14 = y14
          generalize vals 15 = y15
          clear hG
          go_wp2_with fail
          go_ret
          exact ⟨rfl, HBx.out⟩
end Go.Proofs.Ytjodhagjfjgbcaa
