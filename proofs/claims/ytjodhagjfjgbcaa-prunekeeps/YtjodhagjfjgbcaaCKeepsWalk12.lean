/-
  The texts KeepsWalk12, one behind the other.
-/
import Derived.Test.YtjodhagjfjgbcaaCAlive12
import Derived.Test.YtjodhagjfjgbcaaCKeep12
/-
  PruneKeeps: the walk.
-/
namespace Go.Proofs.Ytjodhagjfjgbcaa
open Go Go.RowKit
set_option maxRecDepth 10000

set_option maxHeartbeats 16000000 in
theorem keeps_any (w : World) (ao : Option Addr) (len cap g off : Nat) (l : List Bk) (root : Int) (hl : l.length = len) (h : Lies w w.heap.size ao g off (bks l)) :
    Calls Try.prog 4 #[.slice ao len cap, .int .i64 root] w fun e w' => e = .returned (.bool true) ∧ Below w.heap.size w w' := by
  have HL0 := Lib.hid h
  clear h
  go_enter Try.func4, Try.ntmps4
  go_wp2_with fail
  refine (alive_any w).mono ?_
  rintro e w1 ⟨rfl, hbc⟩
  have HB1 := Lib.hid hbc
  clear hbc
  go_wp2_with fail
  refine (made_any w1 ao len cap g off l hl (HL0.out.below HB1.out)).mono ?_
  rintro e w2 (⟨_, rfl, hbc⟩ | ⟨tb, wb, rb, _, rfl, ho⟩)
  · have HB := Lib.hid (HB1.out.trans (hbc.mono HB1.out.size))
    clear hbc
    go_wp2_with fail
    go_ret
    exact ⟨rfl, HB.out⟩
  obtain ⟨⟨G, F, M, R, mb, ht, hw, hd⟩, hbc⟩ := ho
  have HT := Lib.hid ht
  have HW := Lib.hid hw
  have HD := Lib.hid hd
  have HB := Lib.hid (HB1.out.trans (hbc.mono HB1.out.size))
  have HGD := Lib.hid (mkT_good l)
  have HLW := Lib.hid (mkO_length l)
  have HR0 := Lib.hid (mkT_root l)
  clear ht hw hd hbc HB1 HL0 hl
  generalize mkT l = t at HT HW HD HGD HLW HR0
  generalize mkO l = own at HW HD HLW
  have HM256 := Lib.hid (show t.length ≤ 256 ∧ 1 ≤ t.length by have := HGD.out.room; have := HGD.out.most256; have := HGD.out.pos; omega)
  clear HD
  go_wp2_with fail
  refine (name_any w2 root).mono ?_
  rintro e w3 ⟨rfl, hbc⟩
  replace HT := Lib.hid (HT.out.below hbc)
  replace HW := Lib.hid (HW.out.below hbc)
  replace HB := Lib.hid (HB.out.trans (hbc.mono HB.out.size))
  clear hbc
  have HNL := Lib.hid (nmN_len root)
  obtain ⟨nm, hnm⟩ : ∃ nm, nmN root = nm := ⟨_, rfl⟩
  rw [hnm] at HNL ⊢
  clear hnm
  have HZ := Lib.hid (blk_zeroR w3)
  have HZL := Lib.hid zero32_len
  have HO := Lib.hid (HZ.out.setRow (bv nm))
  have hbx : Below w3.heap.size w3 ((w3.alloc (.cells #[.int .u8 0, .int .u8 0, .int .u8 0, .int .u8 0, .int .u8 0, .int .u8 0, .int .u8 0, .int .u8 0, .int .u8 0, .int .u8 0, .int .u8 0, .int .u8 0, .int .u8 0, .int .u8 0, .int .u8 0, .int .u8 0, .int .u8 0, .int .u8 0, .int .u8 0, .int .u8 0, .int .u8 0, .int .u8 0, .int .u8 0, .int .u8 0, .int .u8 0, .int .u8 0, .int .u8 0, .int .u8 0, .int .u8 0, .int .u8 0, .int .u8 0, .int .u8 0] 24)).setRow w3.heap.size (bv nm).toArray) := below_row ((Below.refl _ w3).alloc (Nat.le_refl _) _) (Nat.le_refl _) _
  replace HT := Lib.hid (HT.out.below hbx)
  replace HW := Lib.hid (HW.out.below hbx)
  replace HB := Lib.hid (HB.out.trans (hbx.mono HB.out.size))
  clear hbx
  obtain ⟨O, hRR⟩ : ∃ O, O = w3.heap.size := ⟨_, rfl⟩
  go_upto_region 7 with ((with_reducible refine wpList_store_name (.tmp 9) (.tmp 31) ?_ ?_ w3.heap.size zero32 nm ?_ ?_ HZ.out HZL.out HNL.out ?_); rfl; rfl; rfl; rfl)
  try simp only [Act.put]
  rw [← hRR] at HO HT HW HB ⊢
  generalize (w3.alloc (.cells #[.int .u8 0, .int .u8 0, .int .u8 0, .int .u8 0, .int .u8 0, .int .u8 0, .int .u8 0, .int .u8 0, .int .u8 0, .int .u8 0, .int .u8 0, .int .u8 0, .int .u8 0, .int .u8 0, .int .u8 0, .int .u8 0, .int .u8 0, .int .u8 0, .int .u8 0, .int .u8 0, .int .u8 0, .int .u8 0, .int .u8 0, .int .u8 0, .int .u8 0, .int .u8 0, .int .u8 0, .int .u8 0, .int .u8 0, .int .u8 0, .int .u8 0, .int .u8 0] 24)).setRow O (bv nm).toArray = w4 at HO HT HW HB ⊢
  clear HZ HZL hRR
  have hnl := HNL.out
  have HOC := Lib.hid HO.out.rootAll
  go_wp2_with ((with_reducible refine wpList_load_name (.tmp 9) ?_ ?_ O 0 nm ?_ hnl HOC.out ?_); rfl; rfl; rfl)
  rcases plc_cases t nm with ⟨p, np, hpn, hpe, hpp, _⟩ | ⟨_, hpp⟩
  rotate_left
  · refine (pall_none w4 G tb t 100 _ nm hpp HT.out hnl).mono ?_
    rintro e w5 ⟨rfl, hbc⟩
    replace HT := Lib.hid (HT.out.below hbc)
    replace HW := Lib.hid (HW.out.below hbc)
    replace HB := Lib.hid (HB.out.trans (hbc.mono HB.out.size))
    replace HO := Lib.hid (HO.out.below hbc HO.out.lt)
    clear hbc HOC
    have HOC := Lib.hid HO.out.rootAll
    go_wp2_with ((with_reducible refine wpList_load_name (.tmp 9) ?_ ?_ O 0 nm ?_ hnl HOC.out ?_); rfl; rfl; rfl)
    refine (place_any w5 G tb t 100 nm HT.out hnl).mono ?_
    rintro e w6 ⟨rfl, hbc⟩
    replace HB := Lib.hid (HB.out.trans (hbc.mono HB.out.size))
    rw [hpp]
    clear hbc
    go_wp2_with fail
    go_ret
    exact ⟨rfl, HB.out⟩
  refine (pall_ok w4 G tb t 100 F wb own nm p hpp HT.out HW.out HLW.out hnl).mono ?_
  rintro e w5 ⟨U, ub, V, vb, rfl, hu, hv, _, hbc⟩
  replace HT := Lib.hid (HT.out.below hbc)
  replace HW := Lib.hid (HW.out.below hbc)
  replace HB := Lib.hid (HB.out.trans (hbc.mono HB.out.size))
  replace HO := Lib.hid (HO.out.below hbc HO.out.lt)
  have HPL := Lib.hid (List.getElem?_eq_some_iff.1 hpn).1
  have HPN := Lib.hid hpn
  have HPE := Lib.hid hpe
  have HPP := Lib.hid hpp
  have HU := Lib.hid hu
  have HV := Lib.hid hv
  have HCG := Lib.hid (HGD.out.cut HPL.out)
  clear hbc hu hv HOC hpn hpe hpp
  go_wp2_with fail
  refine (roots_any w5 G tb t 100 HT.out).mono ?_
  rintro e w6 ⟨v, rfl, hv, hbc⟩
  have HRT := Lib.hid HGD.out.rts
  obtain ⟨ro, rcap, rg, roff, rfl, hrl⟩ := wide_names hv HRT.out
  have HRL := Lib.hid hrl
  replace HT := Lib.hid (HT.out.below hbc)
  replace HW := Lib.hid (HW.out.below hbc)
  replace HB := Lib.hid (HB.out.trans (hbc.mono HB.out.size))
  replace HO := Lib.hid (HO.out.below hbc HO.out.lt)
  replace HU := Lib.hid (HU.out.below hbc)
  replace HV := Lib.hid (HV.out.below hbc)
  clear hv hrl hbc
  obtain ⟨N, hN⟩ : ∃ N, (rs t).length = N := ⟨_, rfl⟩
  have HN := Lib.hid (show t.length = N by rw [← hN, rs_length])
  rw [hN]
  clear hN
  go_wp2_with fail
  go_loopw [49] (fun i wx => ∃ k : Nat, k ≤ N ∧ i = .int .i64 k ∧ Hid (Below w6.heap.size w6 wx)) (fun i _ => N - (intOf i).toNat)
  case atStart => exact ⟨0, Nat.zero_le _, rfl, Lib.hid (Below.refl _ _)⟩
  case round =>
    obtain ⟨k, hk, rfl, HL⟩ := hrel
    obtain ⟨wx, rfl⟩ : ∃ x, x = wr := ⟨_, rfl⟩
    have HRx := Lib.hid (HRL.out.below HL.out)
    have HTx := Lib.hid (HT.out.below HL.out)
    have HWx := Lib.hid (HW.out.below HL.out)
    have HOx := Lib.hid (HO.out.below HL.out HO.out.lt)
    have HUx := Lib.hid (HU.out.below HL.out)
    have HVx := Lib.hid (HV.out.below HL.out)
    have HBx := Lib.hid (HB.out.trans (HL.out.mono HB.out.size))
    by_cases hlt : k < N
    · obtain ⟨x, hx⟩ : ∃ x, t[k]? = some x := ⟨_, List.getElem?_eq_getElem (by rw [HN.out]; exact hlt)⟩
      obtain ⟨hro, hrc⟩ := HRx.out.name HRT.out (rs_at hx)
      subst hro
      have HRC := Lib.hid hrc
      have HXA := Lib.hid hx
      have HXL := Lib.hid (show x.1.length = 32 from HGD.out.nds x (List.mem_of_getElem? hx))
      have HLT := Lib.hid hlt
      have hlt' : (k : Int) < (N : Int) := by omega
      have HWK := Lib.hid (show wrap64 ((k : Int) + 1) = ((k + 1 : Nat) : Int) by have := HM256.out; have := HN.out; have := HLT.out; unfold wrap64; omega)
      have HAB := Lib.hid (show belowT t nm x.1 = abW t p k by rw [← HPE.out]; exact HGD.out.below_ab HPN.out hx)
      have HPU := Lib.hid (HGD.out.keep_plc HPL.out hx)
      clear hx hrc hk hlt HRx
      have HZ := Lib.hid (blk_zeroR wx)
      have HZL := Lib.hid zero32_len
      have HQ := Lib.hid (HZ.out.setRow (bv x.1))
      have hbx : Below wx.heap.size wx ((wx.alloc (.cells #[.int .u8 0, .int .u8 0, .int .u8 0, .int .u8 0, .int .u8 0, .int .u8 0, .int .u8 0, .int .u8 0, .int .u8 0, .int .u8 0, .int .u8 0, .int .u8 0, .int .u8 0, .int .u8 0, .int .u8 0, .int .u8 0, .int .u8 0, .int .u8 0, .int .u8 0, .int .u8 0, .int .u8 0, .int .u8 0, .int .u8 0, .int .u8 0, .int .u8 0, .int .u8 0, .int .u8 0, .int .u8 0, .int .u8 0, .int .u8 0, .int .u8 0, .int .u8 0] 24)).setRow wx.heap.size (bv x.1).toArray) := below_row ((Below.refl _ wx).alloc (Nat.le_refl _) _) (Nat.le_refl _) _
      replace HTx := Lib.hid (HTx.out.below hbx)
      replace HWx := Lib.hid (HWx.out.below hbx)
      replace HOx := Lib.hid (HOx.out.below hbx HOx.out.lt)
      replace HUx := Lib.hid (HUx.out.below hbx)
      replace HVx := Lib.hid (HVx.out.below hbx)
      replace HBx := Lib.hid (HBx.out.trans (hbx.mono HBx.out.size))
      replace HL := Lib.hid (HL.out.trans (hbx.mono HL.out.size))
      clear hbx
      obtain ⟨Q, hRR⟩ : ∃ Q, Q = wx.heap.size := ⟨_, rfl⟩
      go_upto_region 13 with (first | ((with_reducible refine wpList_load_name (.tmp 51) ?_ ?_ rg (roff + k * 32) x.1 ?_ HXL.out HRC.out ?_); rfl; rfl; rfl) | ((with_reducible refine wpList_store_name (.tmp 14) (.tmp 52) ?_ ?_ wx.heap.size zero32 x.1 ?_ ?_ HZ.out HZL.out HXL.out ?_); rfl; rfl; rfl; rfl))
      try simp only [Act.put]
      rw [← hRR] at HQ HTx HWx HOx HUx HVx HBx HL ⊢
      generalize (wx.alloc (.cells #[.int .u8 0, .int .u8 0, .int .u8 0, .int .u8 0, .int .u8 0, .int .u8 0, .int .u8 0, .int .u8 0, .int .u8 0, .int .u8 0, .int .u8 0, .int .u8 0, .int .u8 0, .int .u8 0, .int .u8 0, .int .u8 0, .int .u8 0, .int .u8 0, .int .u8 0, .int .u8 0, .int .u8 0, .int .u8 0, .int .u8 0, .int .u8 0, .int .u8 0, .int .u8 0, .int .u8 0, .int .u8 0, .int .u8 0, .int .u8 0, .int .u8 0, .int .u8 0] 24)).setRow Q (bv x.1).toArray = w8 at HQ HTx HWx HOx HUx HVx HBx HL ⊢
      clear HZ HZL hRR
      clear HRC
      have hxl := HXL.out
      obtain ⟨A, hA⟩ : ∃ A, abW t p k = A := ⟨_, rfl⟩
      rw [hA] at HAB HPU
      have HA := Lib.hid hA
      obtain ⟨pu, hpu⟩ : ∃ pu, plc (cutT t p) x.1 = pu := ⟨_, rfl⟩
      rw [hpu] at HPU
      have HPV := Lib.hid hpu
      have hgq : decide (0 ≤ pu) = A := by
        rw [HPU.out]
        cases A
        · rfl
        · rw [if_pos rfl]; exact decide_eq_true (by omega)
      have HGQ := Lib.hid hgq
      clear hA hpu hgq
      refine wp_region_free (P := Try.prog) 9 (fun w' => Below w8.heap.size w8 w') (fun oq v w' => match oq with
          | 0 => v = .pointer (some ⟨ub, 0, none⟩)
          | 1 => v = .agg (bv x.1).toArray
          | 2 => v = .int .i64 pu
          | 3 => v = .bool A
          | 4 => v = .pointer (some ⟨tb, 0, none⟩)
          | 5 => v = .agg (bv nm).toArray
          | 6 => v = .agg (bv x.1).toArray
          | 7 => v = .bool A
          | 8 => v = .bool false
          | _ => True) (by kernel_rfl) (by kernel_rfl) (Below.refl _ _).drew ?gb ?vb ?steps ?fin
      case gb => exact fun a b h1 h2 => h1.trans (h2.mono h1.size)
      case vb =>
        intro oq v a b h hb
        match oq with
        | 0 => exact h
        | 1 => exact h
        | 2 => exact h
        | 3 => exact h
        | 4 => exact h
        | 5 => exact h
        | 6 => exact h
        | 7 => exact h
        | 8 => exact h
        | _ + 9 => trivial
      case steps =>
        intro vals
        simp only [List.take_succ_cons, List.take_zero, freeSteps, Act.put, List.setIfInBounds_toArray, List.set_cons_zero, List.set_cons_succ, Nat.reduceAdd]
        refine ⟨fun w8 hG hW => ?_, fun w8 hG hW => ?_, fun w8 hG hW => ?_, fun w8 hG hW => ?_, fun w8 hG hW => ?_, fun w8 hG hW => ?_, fun w8 hG hW => ?_, fun w8 hG hW => ?_, fun w8 hG hW => ?_, trivial⟩
        · clear hW
          refine stepAt_value rfl rfl rfl (.pointer (some ⟨ub, 0, none⟩)) w8 ?_ ⟨rfl, Below.refl _ _⟩
          go_simp
        · clear hW
          exact stepAt_load_run rfl rfl rfl _ _ rfl _ _ rfl (run_load_root hxl (HQ.out.below hG HQ.out.lt).rootAll) ⟨rfl, Below.refl _ _⟩
        · have q0 := hW 0 (by decide)
          simp only at q0
          have q1 := hW 1 (by decide)
          simp only at q1
          rw [q0, q1]
          clear hW
          refine stepAt_call rfl rfl rfl 23 #[.pointer (some ⟨ub, 0, none⟩), .agg (bv x.1).toArray] (by go_simp) ((place_any w8 U ub (cutT t p) 100 x.1 (HUx.out.below hG) hxl).mono fun e w' ⟨h1, h2⟩ => ⟨_, h1, by rw [HPV.out], h2⟩)
        · have q2 := hW 2 (by decide)
          simp only at q2
          rw [q2]
          clear hW
          refine stepAt_value rfl rfl rfl (.bool A) w8 ?_ ⟨rfl, Below.refl _ _⟩
          have hgq := HGQ.out
          go_simp
        · clear hW
          refine stepAt_value rfl rfl rfl (.pointer (some ⟨tb, 0, none⟩)) w8 ?_ ⟨rfl, Below.refl _ _⟩
          go_simp
        · clear hW
          exact stepAt_load_run rfl rfl rfl _ _ rfl _ _ rfl (run_load_root hnl (HOx.out.below hG HOx.out.lt).rootAll) ⟨rfl, Below.refl _ _⟩
        · clear hW
          exact stepAt_load_run rfl rfl rfl _ _ rfl _ _ rfl (run_load_root hxl (HQ.out.below hG HQ.out.lt).rootAll) ⟨rfl, Below.refl _ _⟩
        · have q4 := hW 4 (by decide)
          simp only at q4
          have q5 := hW 5 (by decide)
          simp only at q5
          have q6 := hW 6 (by decide)
          simp only at q6
          rw [q4, q5, q6]
          clear hW
          refine stepAt_call rfl rfl rfl 24 #[.pointer (some ⟨tb, 0, none⟩), .agg (bv nm).toArray, .agg (bv x.1).toArray] (by go_simp) ((below_any w8 G tb t 100 nm x.1 (HTx.out.below hG) hnl hxl).mono fun e w' ⟨h1, h2⟩ => ⟨_, h1, by rw [HAB.out], h2⟩)
        · have q3 := hW 3 (by decide)
          simp only at q3
          have q7 := hW 7 (by decide)
          simp only at q7
          rw [q3, q7]
          clear hW
          refine stepAt_value rfl rfl rfl (.bool false) w8 ?_ ⟨rfl, Below.refl _ _⟩
          go_simp
      case fin =>
        intro vals w9 hG hV
        replace HTx := Lib.hid (HTx.out.below hG)
        replace HWx := Lib.hid (HWx.out.below hG)
        replace HOx := Lib.hid (HOx.out.below hG HOx.out.lt)
        replace HUx := Lib.hid (HUx.out.below hG)
        replace HVx := Lib.hid (HVx.out.below hG)
        replace HBx := Lib.hid (HBx.out.trans (hG.mono HBx.out.size))
        replace HL := Lib.hid (HL.out.trans (hG.mono HL.out.size))
        replace HQ := Lib.hid (HQ.out.below hG HQ.out.lt)
        have q8 := hV 8 (by omega)
        simp only at q8
        simp only [List.take_succ_cons, List.take_zero, List.drop_succ_cons, List.drop_zero, putAll, Act.put, List.setIfInBounds_toArray, List.set_cons_zero, List.set_cons_succ, Nat.reduceAdd]
        rw [q8]
        clear hV q8
        generalize vals 0 = y0
        generalize vals 1 = y1
        generalize vals 2 = y2
        generalize vals 3 = y3
        generalize vals 4 = y4
        generalize vals 5 = y5
        generalize vals 6 = y6
        generalize vals 7 = y7
        clear hG
        have HQC := Lib.hid HQ.out.rootAll
        go_wp2_with ((with_reducible refine wpList_load_name (.tmp 14) ?_ ?_ Q 0 x.1 ?_ hxl HQC.out ?_); rfl; rfl; rfl)
        refine (place_any w9 U ub (cutT t p) 100 x.1 HUx.out hxl).mono ?_
        rintro e w10 ⟨rfl, hbc⟩
        replace HTx := Lib.hid (HTx.out.below hbc)
        replace HWx := Lib.hid (HWx.out.below hbc)
        replace HOx := Lib.hid (HOx.out.below hbc HOx.out.lt)
        replace HUx := Lib.hid (HUx.out.below hbc)
        replace HVx := Lib.hid (HVx.out.below hbc)
        replace HBx := Lib.hid (HBx.out.trans (hbc.mono HBx.out.size))
        replace HL := Lib.hid (HL.out.trans (hbc.mono HL.out.size))
        replace HQ := Lib.hid (HQ.out.below hbc HQ.out.lt)
        clear hbc HQC
        rw [HPV.out]
        cases A with
        | false =>
          have hpu : pu < 0 := by have := HPU.out; rw [if_neg (by decide)] at this; omega
          clear HQ HTx HWx HOx HUx HVx HBx
          have hlk := HLT.out
          go_wp2_with fail
          go_roundw
          case rel => exact ⟨k + 1, by omega, by first | rw [HWK.out] | rw [Int.natCast_succ], HL⟩
          case measure => first | exact measK N k 1 ((k : Int) + 1) (by omega) hlk Nat.zero_lt_one | exact measK N k 1 (wrap64 ((k : Int) + 1)) HWK.out hlk Nat.zero_lt_one
        | true =>
          have hpu : ¬ pu < 0 := by have := HPU.out; rw [if_pos rfl] at this; omega
          obtain ⟨kb1, kb2⟩ := HGD.out.keep_best (own := own) HPL.out HLW.out HXA.out HA.out
          obtain ⟨bn, hbn⟩ : ∃ bn, pnm t (bstZ t own x.1) = bn := ⟨_, rfl⟩
          obtain ⟨bq, hbq⟩ : ∃ bq, decide (0 ≤ bstZ t own x.1) = bq := ⟨_, rfl⟩
          obtain ⟨wt, hwt⟩ : ∃ wt, tellZ t own.length x.1 0 (wtW t own) = wt := ⟨_, rfl⟩
          have kw := HGD.out.keep_wt (own := own) HPL.out HLW.out HXA.out HA.out
          rw [hwt] at kw
          rw [hbn] at kb1
          rw [hbq] at kb2
          have HKB1 := Lib.hid kb1
          have HKB2 := Lib.hid kb2
          have HKW := Lib.hid kw
          have HWT := Lib.hid hwt
          have HBNL := Lib.hid (show bn.length = 32 by rw [← hbn]; exact HGD.out.pnm_len _)
          have HBN := Lib.hid hbn
          have HBQ := Lib.hid hbq
          have HQC := Lib.hid HQ.out.rootAll
          clear kb1 kb2 kw hwt hbn hbq
          go_wp2_with ((with_reducible refine wpList_load_name (.tmp 14) ?_ ?_ Q 0 x.1 ?_ hxl HQC.out ?_); rfl; rfl; rfl)
          refine (best_any w10 G tb t 100 F wb own x.1 HTx.out HWx.out hxl).mono ?_
          rintro e w11 ⟨rfl, hbc⟩
          replace HTx := Lib.hid (HTx.out.below hbc)
          replace HWx := Lib.hid (HWx.out.below hbc)
          replace HOx := Lib.hid (HOx.out.below hbc HOx.out.lt)
          replace HUx := Lib.hid (HUx.out.below hbc)
          replace HVx := Lib.hid (HVx.out.below hbc)
          replace HBx := Lib.hid (HBx.out.trans (hbc.mono HBx.out.size))
          replace HL := Lib.hid (HL.out.trans (hbc.mono HL.out.size))
          replace HQ := Lib.hid (HQ.out.below hbc HQ.out.lt)
          clear hbc HQC hpu
          rw [HBN.out, HBQ.out]
          have HZ := Lib.hid (blk_zeroR w11)
          have HZL := Lib.hid zero32_len
          have HE := Lib.hid (HZ.out.setRow (bv bn))
          have hbx : Below w11.heap.size w11 ((w11.alloc (.cells #[.int .u8 0, .int .u8 0, .int .u8 0, .int .u8 0, .int .u8 0, .int .u8 0, .int .u8 0, .int .u8 0, .int .u8 0, .int .u8 0, .int .u8 0, .int .u8 0, .int .u8 0, .int .u8 0, .int .u8 0, .int .u8 0, .int .u8 0, .int .u8 0, .int .u8 0, .int .u8 0, .int .u8 0, .int .u8 0, .int .u8 0, .int .u8 0, .int .u8 0, .int .u8 0, .int .u8 0, .int .u8 0, .int .u8 0, .int .u8 0, .int .u8 0, .int .u8 0] 24)).setRow w11.heap.size (bv bn).toArray) := below_row ((Below.refl _ w11).alloc (Nat.le_refl _) _) (Nat.le_refl _) _
          replace HTx := Lib.hid (HTx.out.below hbx)
          replace HWx := Lib.hid (HWx.out.below hbx)
          replace HOx := Lib.hid (HOx.out.below hbx HOx.out.lt)
          replace HUx := Lib.hid (HUx.out.below hbx)
          replace HVx := Lib.hid (HVx.out.below hbx)
          replace HBx := Lib.hid (HBx.out.trans (hbx.mono HBx.out.size))
          replace HL := Lib.hid (HL.out.trans (hbx.mono HL.out.size))
          replace HQ := Lib.hid (HQ.out.below hbx HQ.out.lt)
          clear hbx
          obtain ⟨E, hRR⟩ : ∃ E, E = w11.heap.size := ⟨_, rfl⟩
          go_upto_region 17 with ((with_reducible refine wpList_store_name (.tmp 15) (.tmp 70) ?_ ?_ w11.heap.size zero32 bn ?_ ?_ HZ.out HZL.out HBNL.out ?_); rfl; rfl; rfl; rfl)
          try simp only [Act.put]
          rw [← hRR] at HE HTx HWx HOx HUx HVx HBx HL HQ ⊢
          generalize (w11.alloc (.cells #[.int .u8 0, .int .u8 0, .int .u8 0, .int .u8 0, .int .u8 0, .int .u8 0, .int .u8 0, .int .u8 0, .int .u8 0, .int .u8 0, .int .u8 0, .int .u8 0, .int .u8 0, .int .u8 0, .int .u8 0, .int .u8 0, .int .u8 0, .int .u8 0, .int .u8 0, .int .u8 0, .int .u8 0, .int .u8 0, .int .u8 0, .int .u8 0, .int .u8 0, .int .u8 0, .int .u8 0, .int .u8 0, .int .u8 0, .int .u8 0, .int .u8 0, .int .u8 0] 24)).setRow E (bv bn).toArray = w12 at HE HTx HWx HOx HUx HVx HBx HL HQ ⊢
          clear HZ HZL hRR
          have HQC := Lib.hid HQ.out.rootAll
          go_wp2_with ((with_reducible refine wpList_load_name (.tmp 14) ?_ ?_ Q 0 x.1 ?_ hxl HQC.out ?_); rfl; rfl; rfl)
          refine (best_any w12 U ub (cutT t p) 100 V vb (cutO t own p) x.1 HUx.out HVx.out hxl).mono ?_
          rintro e w13 ⟨rfl, hbc⟩
          replace HTx := Lib.hid (HTx.out.below hbc)
          replace HWx := Lib.hid (HWx.out.below hbc)
          replace HOx := Lib.hid (HOx.out.below hbc HOx.out.lt)
          replace HUx := Lib.hid (HUx.out.below hbc)
          replace HVx := Lib.hid (HVx.out.below hbc)
          replace HBx := Lib.hid (HBx.out.trans (hbc.mono HBx.out.size))
          replace HL := Lib.hid (HL.out.trans (hbc.mono HL.out.size))
          replace HQ := Lib.hid (HQ.out.below hbc HQ.out.lt)
          replace HE := Lib.hid (HE.out.below hbc HE.out.lt)
          clear hbc HQC
          rw [HKB1.out, HKB2.out]
          have HZ := Lib.hid (blk_zeroR w13)
          have HZL := Lib.hid zero32_len
          have HEE := Lib.hid (HZ.out.setRow (bv bn))
          have hbx : Below w13.heap.size w13 ((w13.alloc (.cells #[.int .u8 0, .int .u8 0, .int .u8 0, .int .u8 0, .int .u8 0, .int .u8 0, .int .u8 0, .int .u8 0, .int .u8 0, .int .u8 0, .int .u8 0, .int .u8 0, .int .u8 0, .int .u8 0, .int .u8 0, .int .u8 0, .int .u8 0, .int .u8 0, .int .u8 0, .int .u8 0, .int .u8 0, .int .u8 0, .int .u8 0, .int .u8 0, .int .u8 0, .int .u8 0, .int .u8 0, .int .u8 0, .int .u8 0, .int .u8 0, .int .u8 0, .int .u8 0] 24)).setRow w13.heap.size (bv bn).toArray) := below_row ((Below.refl _ w13).alloc (Nat.le_refl _) _) (Nat.le_refl _) _
          replace HTx := Lib.hid (HTx.out.below hbx)
          replace HWx := Lib.hid (HWx.out.below hbx)
          replace HOx := Lib.hid (HOx.out.below hbx HOx.out.lt)
          replace HUx := Lib.hid (HUx.out.below hbx)
          replace HVx := Lib.hid (HVx.out.below hbx)
          replace HBx := Lib.hid (HBx.out.trans (hbx.mono HBx.out.size))
          replace HL := Lib.hid (HL.out.trans (hbx.mono HL.out.size))
          replace HQ := Lib.hid (HQ.out.below hbx HQ.out.lt)
          replace HE := Lib.hid (HE.out.below hbx HE.out.lt)
          clear hbx
          obtain ⟨EE, hRR⟩ : ∃ EE, EE = w13.heap.size := ⟨_, rfl⟩
          go_upto_region 18 with ((with_reducible refine wpList_store_name (.tmp 17) (.tmp 76) ?_ ?_ w13.heap.size zero32 bn ?_ ?_ HZ.out HZL.out HBNL.out ?_); rfl; rfl; rfl; rfl)
          try simp only [Act.put]
          rw [← hRR] at HEE HTx HWx HOx HUx HVx HBx HL HQ HE ⊢
          generalize (w13.alloc (.cells #[.int .u8 0, .int .u8 0, .int .u8 0, .int .u8 0, .int .u8 0, .int .u8 0, .int .u8 0, .int .u8 0, .int .u8 0, .int .u8 0, .int .u8 0, .int .u8 0, .int .u8 0, .int .u8 0, .int .u8 0, .int .u8 0, .int .u8 0, .int .u8 0, .int .u8 0, .int .u8 0, .int .u8 0, .int .u8 0, .int .u8 0, .int .u8 0, .int .u8 0, .int .u8 0, .int .u8 0, .int .u8 0, .int .u8 0, .int .u8 0, .int .u8 0, .int .u8 0] 24)).setRow EE (bv bn).toArray = w14 at HEE HTx HWx HOx HUx HVx HBx HL HQ HE ⊢
          clear HZ HZL hRR
          have hbl := HBNL.out
          refine wp_region_free (P := Try.prog) 17 (fun w' => Below w14.heap.size w14 w') (fun oq v w' => match oq with
              | 0 => v = .pointer (some ⟨vb, 0, none⟩)
              | 1 => v = .agg (bv x.1).toArray
              | 2 => v = .int .i64 wt
              | 3 => v = .pointer (some ⟨wb, 0, none⟩)
              | 4 => v = .agg (bv x.1).toArray
              | 5 => v = .int .i64 wt
              | 6 => v = .bool false
              | 7 => v = .bool false
              | 8 => v = .agg (bv bn).toArray
              | 9 => v = .agg (bv bn).toArray
              | 10 => v = .bool false
              | 11 => v = .bool false
              | 12 => v = .bool false
              | 13 => v = .bool bq
              | 14 => v = .bool bq
              | 15 => v = .bool false
              | 16 => v = .bool false
              | _ => True) (by kernel_rfl) (by kernel_rfl) (Below.refl _ _).drew ?gb ?vb ?steps ?fin
          case gb => exact fun a b h1 h2 => h1.trans (h2.mono h1.size)
          case vb =>
            intro oq v a b h hb
            match oq with
            | 0 => exact h
            | 1 => exact h
            | 2 => exact h
            | 3 => exact h
            | 4 => exact h
            | 5 => exact h
            | 6 => exact h
            | 7 => exact h
            | 8 => exact h
            | 9 => exact h
            | 10 => exact h
            | 11 => exact h
            | 12 => exact h
            | 13 => exact h
            | 14 => exact h
            | 15 => exact h
            | 16 => exact h
            | _ + 17 => trivial
          case steps =>
            intro vals
            simp only [List.take_succ_cons, List.take_zero, freeSteps, Act.put, List.setIfInBounds_toArray, List.set_cons_zero, List.set_cons_succ, Nat.reduceAdd]
            refine ⟨fun w8 hG hW => ?_, fun w8 hG hW => ?_, fun w8 hG hW => ?_, fun w8 hG hW => ?_, fun w8 hG hW => ?_, fun w8 hG hW => ?_, fun w8 hG hW => ?_, fun w8 hG hW => ?_, fun w8 hG hW => ?_, fun w8 hG hW => ?_, fun w8 hG hW => ?_, fun w8 hG hW => ?_, fun w8 hG hW => ?_, fun w8 hG hW => ?_, fun w8 hG hW => ?_, fun w8 hG hW => ?_, fun w8 hG hW => ?_, trivial⟩
            · clear hW
              refine stepAt_value rfl rfl rfl (.pointer (some ⟨vb, 0, none⟩)) w8 ?_ ⟨rfl, Below.refl _ _⟩
              go_simp
            · clear hW
              exact stepAt_load_run rfl rfl rfl _ _ rfl _ _ rfl (run_load_root hxl (HQ.out.below hG HQ.out.lt).rootAll) ⟨rfl, Below.refl _ _⟩
            · have q0 := hW 0 (by decide)
              simp only at q0
              have q1 := hW 1 (by decide)
              simp only at q1
              rw [q0, q1]
              clear hW
              refine stepAt_call rfl rfl rfl 26 #[.pointer (some ⟨vb, 0, none⟩), .agg (bv x.1).toArray] (by go_simp) ((wt_any w8 U ub (cutT t p) 100 V vb (cutO t own p) x.1 (HUx.out.below hG) (HVx.out.below hG) hxl).mono fun e w' ⟨h1, h2⟩ => ⟨_, h1, by rw [HKW.out], h2⟩)
            · clear hW
              refine stepAt_value rfl rfl rfl (.pointer (some ⟨wb, 0, none⟩)) w8 ?_ ⟨rfl, Below.refl _ _⟩
              go_simp
            · clear hW
              exact stepAt_load_run rfl rfl rfl _ _ rfl _ _ rfl (run_load_root hxl (HQ.out.below hG HQ.out.lt).rootAll) ⟨rfl, Below.refl _ _⟩
            · have q3 := hW 3 (by decide)
              simp only at q3
              have q4 := hW 4 (by decide)
              simp only at q4
              rw [q3, q4]
              clear hW
              refine stepAt_call rfl rfl rfl 26 #[.pointer (some ⟨wb, 0, none⟩), .agg (bv x.1).toArray] (by go_simp) ((wt_any w8 G tb t 100 F wb own x.1 (HTx.out.below hG) (HWx.out.below hG) hxl).mono fun e w' ⟨h1, h2⟩ => ⟨_, h1, by rw [HWT.out], h2⟩)
            · have q2 := hW 2 (by decide)
              simp only at q2
              have q5 := hW 5 (by decide)
              simp only at q5
              rw [q2, q5]
              clear hW
              refine stepAt_value rfl rfl rfl (.bool false) w8 ?_ ⟨rfl, Below.refl _ _⟩
              go_simp
            · have q6 := hW 6 (by decide)
              simp only at q6
              rw [q6]
              clear hW
              refine stepAt_value rfl rfl rfl (.bool false) w8 ?_ ⟨rfl, Below.refl _ _⟩
              go_simp
            · have q7 := hW 7 (by decide)
              simp only at q7
              rw [q7]
              clear hW
              exact stepAt_load_run rfl rfl rfl _ _ rfl _ _ rfl (run_load_root hbl (HE.out.below hG HE.out.lt).rootAll) ⟨rfl, Below.refl _ _⟩
            · have q7 := hW 7 (by decide)
              simp only at q7
              rw [q7]
              clear hW
              exact stepAt_load_run rfl rfl rfl _ _ rfl _ _ rfl (run_load_root hbl (HEE.out.below hG HEE.out.lt).rootAll) ⟨rfl, Below.refl _ _⟩
            · have q7 := hW 7 (by decide)
              simp only at q7
              have q8 := hW 8 (by decide)
              simp only at q8
              have q9 := hW 9 (by decide)
              simp only at q9
              rw [q7, q8, q9]
              clear hW
              refine stepAt_value rfl rfl rfl (.bool false) w8 ?_ ⟨rfl, Below.refl _ _⟩
              have he := root_eqW w8 bn bn hbl hbl
              rw [show (bn == bn) = true from beq_self_eq_true _] at he
              go_simp
            · have q7 := hW 7 (by decide)
              simp only at q7
              have q10 := hW 10 (by decide)
              simp only at q10
              rw [q7, q10]
              clear hW
              refine stepAt_value rfl rfl rfl (.bool false) w8 ?_ ⟨rfl, Below.refl _ _⟩
              go_simp
            · have q11 := hW 11 (by decide)
              simp only at q11
              rw [q11]
              clear hW
              refine stepAt_value rfl rfl rfl (.bool false) w8 ?_ ⟨rfl, Below.refl _ _⟩
              go_simp
            · have q12 := hW 12 (by decide)
              simp only at q12
              rw [q12]
              clear hW
              refine stepAt_value rfl rfl rfl (.bool bq) w8 ?_ ⟨rfl, Below.refl _ _⟩
              go_simp
            · have q12 := hW 12 (by decide)
              simp only at q12
              rw [q12]
              clear hW
              refine stepAt_value rfl rfl rfl (.bool bq) w8 ?_ ⟨rfl, Below.refl _ _⟩
              go_simp
            · have q12 := hW 12 (by decide)
              simp only at q12
              have q13 := hW 13 (by decide)
              simp only at q13
              have q14 := hW 14 (by decide)
              simp only at q14
              rw [q12, q13, q14]
              clear hW
              refine stepAt_value rfl rfl rfl (.bool false) w8 ?_ ⟨rfl, Below.refl _ _⟩
              go_simp
            · have q12 := hW 12 (by decide)
              simp only at q12
              have q15 := hW 15 (by decide)
              simp only at q15
              rw [q12, q15]
              clear hW
              refine stepAt_value rfl rfl rfl (.bool false) w8 ?_ ⟨rfl, Below.refl _ _⟩
              go_simp
          case fin =>
            intro vals w15 hG hV
            replace HL := Lib.hid (HL.out.trans (hG.mono HL.out.size))
            have q16 := hV 16 (by omega)
            simp only at q16
            simp only [List.take_succ_cons, List.take_zero, List.drop_succ_cons, List.drop_zero, putAll, Act.put, List.setIfInBounds_toArray, List.set_cons_zero, List.set_cons_succ, Nat.reduceAdd]
            rw [q16]
            clear hV q16
            generalize vals 0 = y0
            generalize vals 1 = y1
            generalize vals 2 = y2
            generalize vals 3 = y3
            generalize vals 4 = y4
            generalize vals 5 = y5
            generalize vals 6 = y6
            generalize vals 7 = y7
            generalize vals 8 = y8
            generalize vals 9 = y9
            generalize vals 10 = y10
            generalize vals 11 = y11
            generalize vals 12 = y12
            generalize vals 13 = y13
            generalize vals 14 = y14
            generalize vals 15 = y15
            clear hG
            clear HQ HTx HWx HOx HUx HVx HBx HE HEE
            have hlk := HLT.out
            go_wp2_with fail
            go_roundw
            case rel => exact ⟨k + 1, by omega, by first | rw [HWK.out] | rw [Int.natCast_succ], HL⟩
            case measure => first | exact measK N k 1 ((k : Int) + 1) (by omega) hlk Nat.zero_lt_one | exact measK N k 1 (wrap64 ((k : Int) + 1)) HWK.out hlk Nat.zero_lt_one
    · have hlt2 : ¬ (k : Int) < (N : Int) := by omega
      obtain ⟨B, hB⟩ : ∃ B, abW t p (hdW t own) = B := ⟨_, rfl⟩
      have HHL := Lib.hid (HGD.out.head_lt HLW.out)
      obtain ⟨hd, hhd⟩ : ∃ hd, pnm t (hdW t own : Int) = hd := ⟨_, rfl⟩
      have HHD := Lib.hid hhd
      have hhl : hd.length = 32 := by rw [← hhd]; exact HGD.out.pnm_len _
      have HBH := Lib.hid (show belowT t nm hd = B by
        obtain ⟨xh, e1, e2, _⟩ := HGD.out.at HHL.out
        rw [← hhd, e2, ← HPE.out, HGD.out.below_ab HPN.out e1, hB])
      have HBE := Lib.hid hB
      clear hB hhd hlt
      cases B with
      | false =>
        go_wp2_with fail
        refine wp_region_free (P := Try.prog) 13 (fun w' => Below wx.heap.size wx w') (fun oq v w' => match oq with
            | 0 => v = .pointer (some ⟨tb, 0, none⟩)
            | 1 => v = .agg (bv nm).toArray
            | 2 => v = .pointer (some ⟨wb, 0, none⟩)
            | 3 => v = .agg (bv hd).toArray
            | 4 => v = .bool false
            | 5 => v = .bool true
            | 6 => v = .bool true
            | 7 => v = undef
            | 8 => v = undef
            | 9 => v = undef
            | 10 => v = undef
            | 11 => v = undef
            | 12 => v = .bool true
            | _ => True) (by kernel_rfl) (by kernel_rfl) (Below.refl _ _).drew ?gb ?vb ?steps ?fin
        case gb => exact fun a b h1 h2 => h1.trans (h2.mono h1.size)
        case vb =>
          intro oq v a b h hb
          match oq with
          | 0 => exact h
          | 1 => exact h
          | 2 => exact h
          | 3 => exact h
          | 4 => exact h
          | 5 => exact h
          | 6 => exact h
          | 7 => exact h
          | 8 => exact h
          | 9 => exact h
          | 10 => exact h
          | 11 => exact h
          | 12 => exact h
          | _ + 13 => trivial
        case steps =>
          intro vals
          simp only [List.take_succ_cons, List.take_zero, freeSteps, Act.put, List.setIfInBounds_toArray, List.set_cons_zero, List.set_cons_succ, Nat.reduceAdd]
          refine ⟨fun w8 hG hW => ?_, fun w8 hG hW => ?_, fun w8 hG hW => ?_, fun w8 hG hW => ?_, fun w8 hG hW => ?_, fun w8 hG hW => ?_, fun w8 hG hW => ?_, fun w8 hG hW => ?_, fun w8 hG hW => ?_, fun w8 hG hW => ?_, fun w8 hG hW => ?_, fun w8 hG hW => ?_, fun w8 hG hW => ?_, trivial⟩
          · clear hW
            refine stepAt_value rfl rfl rfl (.pointer (some ⟨tb, 0, none⟩)) w8 ?_ ⟨rfl, Below.refl _ _⟩
            go_simp
          · clear hW
            exact stepAt_load_run rfl rfl rfl _ _ rfl _ _ rfl (run_load_root hnl (HOx.out.below hG HOx.out.lt).rootAll) ⟨rfl, Below.refl _ _⟩
          · clear hW
            refine stepAt_value rfl rfl rfl (.pointer (some ⟨wb, 0, none⟩)) w8 ?_ ⟨rfl, Below.refl _ _⟩
            go_simp
          · have q2 := hW 2 (by decide)
            simp only at q2
            rw [q2]
            clear hW
            refine stepAt_call rfl rfl rfl 17 #[.pointer (some ⟨wb, 0, none⟩)] (by go_simp) ((head_any w8 G tb t 100 F wb own (HTx.out.below hG) (HWx.out.below hG)).mono fun e w' ⟨h1, h2⟩ => ⟨_, h1, by rw [HHD.out], h2⟩)
          · have q0 := hW 0 (by decide)
            simp only at q0
            have q1 := hW 1 (by decide)
            simp only at q1
            have q3 := hW 3 (by decide)
            simp only at q3
            rw [q0, q1, q3]
            clear hW
            refine stepAt_call rfl rfl rfl 24 #[.pointer (some ⟨tb, 0, none⟩), .agg (bv nm).toArray, .agg (bv hd).toArray] (by go_simp) ((below_any w8 G tb t 100 nm hd (HTx.out.below hG) hnl hhl).mono fun e w' ⟨h1, h2⟩ => ⟨_, h1, by rw [HBH.out], h2⟩)
          · have q4 := hW 4 (by decide)
            simp only at q4
            rw [q4]
            clear hW
            refine stepAt_value rfl rfl rfl (.bool true) w8 ?_ ⟨rfl, Below.refl _ _⟩
            go_simp
          · have q5 := hW 5 (by decide)
            simp only at q5
            rw [q5]
            clear hW
            refine stepAt_value rfl rfl rfl (.bool true) w8 ?_ ⟨rfl, Below.refl _ _⟩
            go_simp
          · have q6 := hW 6 (by decide)
            simp only at q6
            rw [q6]
            clear hW
            exact stepAt_skip rfl rfl rfl ⟨rfl, Below.refl _ _⟩
          · have q6 := hW 6 (by decide)
            simp only at q6
            rw [q6]
            clear hW
            exact stepAt_skip rfl rfl rfl ⟨rfl, Below.refl _ _⟩
          · have q6 := hW 6 (by decide)
            simp only at q6
            rw [q6]
            clear hW
            exact stepAt_skip rfl rfl rfl ⟨rfl, Below.refl _ _⟩
          · have q6 := hW 6 (by decide)
            simp only at q6
            rw [q6]
            clear hW
            exact stepAt_skip rfl rfl rfl ⟨rfl, Below.refl _ _⟩
          · have q6 := hW 6 (by decide)
            simp only at q6
            rw [q6]
            clear hW
            exact stepAt_skip rfl rfl rfl ⟨rfl, Below.refl _ _⟩
          · have q6 := hW 6 (by decide)
            simp only at q6
            have q11 := hW 11 (by decide)
            simp only at q11
            rw [q6, q11]
            clear hW
            refine stepAt_value rfl rfl rfl (.bool true) w8 ?_ ⟨rfl, Below.refl _ _⟩
            go_simp
        case fin =>
          intro vals w15 hG hV
          replace HBx := Lib.hid (HBx.out.trans (hG.mono HBx.out.size))
          have q12 := hV 12 (by omega)
          simp only at q12
          simp only [List.take_succ_cons, List.take_zero, List.drop_succ_cons, List.drop_zero, putAll, Act.put, List.setIfInBounds_toArray, List.set_cons_zero, List.set_cons_succ, Nat.reduceAdd]
          rw [q12]
          clear hV q12
          generalize vals 0 = y0
          generalize vals 1 = y1
          generalize vals 2 = y2
          generalize vals 3 = y3
          generalize vals 4 = y4
          generalize vals 5 = y5
          generalize vals 6 = y6
          generalize vals 7 = y7
          generalize vals 8 = y8
          generalize vals 9 = y9
          generalize vals 10 = y10
          generalize vals 11 = y11
          clear hG
          go_wp2_with fail
          go_ret
          exact ⟨rfl, HBx.out⟩
      | true =>
        have HKH := Lib.hid (show pnm (cutT t p) (hdW (cutT t p) (cutO t own p) : Int) = hd by rw [HGD.out.keep_head HPL.out HLW.out HBE.out, HHD.out])
        go_wp2_with fail
        refine wp_region_free (P := Try.prog) 13 (fun w' => Below wx.heap.size wx w') (fun oq v w' => match oq with
            | 0 => v = .pointer (some ⟨tb, 0, none⟩)
            | 1 => v = .agg (bv nm).toArray
            | 2 => v = .pointer (some ⟨wb, 0, none⟩)
            | 3 => v = .agg (bv hd).toArray
            | 4 => v = .bool true
            | 5 => v = .bool false
            | 6 => v = .bool false
            | 7 => v = .pointer (some ⟨vb, 0, none⟩)
            | 8 => v = .agg (bv hd).toArray
            | 9 => v = .pointer (some ⟨wb, 0, none⟩)
            | 10 => v = .agg (bv hd).toArray
            | 11 => v = .bool true
            | 12 => v = .bool true
            | _ => True) (by kernel_rfl) (by kernel_rfl) (Below.refl _ _).drew ?gb ?vb ?steps ?fin
        case gb => exact fun a b h1 h2 => h1.trans (h2.mono h1.size)
        case vb =>
          intro oq v a b h hb
          match oq with
          | 0 => exact h
          | 1 => exact h
          | 2 => exact h
          | 3 => exact h
          | 4 => exact h
          | 5 => exact h
          | 6 => exact h
          | 7 => exact h
          | 8 => exact h
          | 9 => exact h
          | 10 => exact h
          | 11 => exact h
          | 12 => exact h
          | _ + 13 => trivial
        case steps =>
          intro vals
          simp only [List.take_succ_cons, List.take_zero, freeSteps, Act.put, List.setIfInBounds_toArray, List.set_cons_zero, List.set_cons_succ, Nat.reduceAdd]
          refine ⟨fun w8 hG hW => ?_, fun w8 hG hW => ?_, fun w8 hG hW => ?_, fun w8 hG hW => ?_, fun w8 hG hW => ?_, fun w8 hG hW => ?_, fun w8 hG hW => ?_, fun w8 hG hW => ?_, fun w8 hG hW => ?_, fun w8 hG hW => ?_, fun w8 hG hW => ?_, fun w8 hG hW => ?_, fun w8 hG hW => ?_, trivial⟩
          · clear hW
            refine stepAt_value rfl rfl rfl (.pointer (some ⟨tb, 0, none⟩)) w8 ?_ ⟨rfl, Below.refl _ _⟩
            go_simp
          · clear hW
            exact stepAt_load_run rfl rfl rfl _ _ rfl _ _ rfl (run_load_root hnl (HOx.out.below hG HOx.out.lt).rootAll) ⟨rfl, Below.refl _ _⟩
          · clear hW
            refine stepAt_value rfl rfl rfl (.pointer (some ⟨wb, 0, none⟩)) w8 ?_ ⟨rfl, Below.refl _ _⟩
            go_simp
          · have q2 := hW 2 (by decide)
            simp only at q2
            rw [q2]
            clear hW
            refine stepAt_call rfl rfl rfl 17 #[.pointer (some ⟨wb, 0, none⟩)] (by go_simp) ((head_any w8 G tb t 100 F wb own (HTx.out.below hG) (HWx.out.below hG)).mono fun e w' ⟨h1, h2⟩ => ⟨_, h1, by rw [HHD.out], h2⟩)
          · have q0 := hW 0 (by decide)
            simp only at q0
            have q1 := hW 1 (by decide)
            simp only at q1
            have q3 := hW 3 (by decide)
            simp only at q3
            rw [q0, q1, q3]
            clear hW
            refine stepAt_call rfl rfl rfl 24 #[.pointer (some ⟨tb, 0, none⟩), .agg (bv nm).toArray, .agg (bv hd).toArray] (by go_simp) ((below_any w8 G tb t 100 nm hd (HTx.out.below hG) hnl hhl).mono fun e w' ⟨h1, h2⟩ => ⟨_, h1, by rw [HBH.out], h2⟩)
          · have q4 := hW 4 (by decide)
            simp only at q4
            rw [q4]
            clear hW
            refine stepAt_value rfl rfl rfl (.bool false) w8 ?_ ⟨rfl, Below.refl _ _⟩
            go_simp
          · have q5 := hW 5 (by decide)
            simp only at q5
            rw [q5]
            clear hW
            refine stepAt_value rfl rfl rfl (.bool false) w8 ?_ ⟨rfl, Below.refl _ _⟩
            go_simp
          · have q6 := hW 6 (by decide)
            simp only at q6
            rw [q6]
            clear hW
            refine stepAt_value rfl rfl rfl (.pointer (some ⟨vb, 0, none⟩)) w8 ?_ ⟨rfl, Below.refl _ _⟩
            go_simp
          · have q6 := hW 6 (by decide)
            simp only at q6
            have q7 := hW 7 (by decide)
            simp only at q7
            rw [q6, q7]
            clear hW
            refine stepAt_call rfl rfl rfl 17 #[.pointer (some ⟨vb, 0, none⟩)] (by go_simp) ((head_any w8 U ub (cutT t p) 100 V vb (cutO t own p) (HUx.out.below hG) (HVx.out.below hG)).mono fun e w' ⟨h1, h2⟩ => ⟨_, h1, by rw [HKH.out], h2⟩)
          · have q6 := hW 6 (by decide)
            simp only at q6
            rw [q6]
            clear hW
            refine stepAt_value rfl rfl rfl (.pointer (some ⟨wb, 0, none⟩)) w8 ?_ ⟨rfl, Below.refl _ _⟩
            go_simp
          · have q6 := hW 6 (by decide)
            simp only at q6
            have q9 := hW 9 (by decide)
            simp only at q9
            rw [q6, q9]
            clear hW
            refine stepAt_call rfl rfl rfl 17 #[.pointer (some ⟨wb, 0, none⟩)] (by go_simp) ((head_any w8 G tb t 100 F wb own (HTx.out.below hG) (HWx.out.below hG)).mono fun e w' ⟨h1, h2⟩ => ⟨_, h1, by rw [HHD.out], h2⟩)
          · have q6 := hW 6 (by decide)
            simp only at q6
            have q8 := hW 8 (by decide)
            simp only at q8
            have q10 := hW 10 (by decide)
            simp only at q10
            rw [q6, q8, q10]
            clear hW
            refine stepAt_value rfl rfl rfl (.bool true) w8 ?_ ⟨rfl, Below.refl _ _⟩
            have he := root_eqW w8 hd hd hhl hhl
            rw [show (hd == hd) = true from beq_self_eq_true _] at he
            go_simp
          · have q6 := hW 6 (by decide)
            simp only at q6
            have q11 := hW 11 (by decide)
            simp only at q11
            rw [q6, q11]
            clear hW
            refine stepAt_value rfl rfl rfl (.bool true) w8 ?_ ⟨rfl, Below.refl _ _⟩
            go_simp
        case fin =>
          intro vals w15 hG hV
          replace HBx := Lib.hid (HBx.out.trans (hG.mono HBx.out.size))
          have q12 := hV 12 (by omega)
          simp only at q12
          simp only [List.take_succ_cons, List.take_zero, List.drop_succ_cons, List.drop_zero, putAll, Act.put, List.setIfInBounds_toArray, List.set_cons_zero, List.set_cons_succ, Nat.reduceAdd]
          rw [q12]
          clear hV q12
          generalize vals 0 = y0
          generalize vals 1 = y1
          generalize vals 2 = y2
          generalize vals 3 = y3
          generalize vals 4 = y4
          generalize vals 5 = y5
          generalize vals 6 = y6
          generalize vals 7 = y7
          generalize vals 8 = y8
          generalize vals 9 = y9
          generalize vals 10 = y10
          generalize vals 11 = y11
          clear hG
          go_wp2_with fail
          go_ret
          exact ⟨rfl, HBx.out⟩
end Go.Proofs.Ytjodhagjfjgbcaa
