/-
  The texts FirstWalk12, one behind the other.
-/
import Derived.Test.YtjodhagjfjgbcaaCAlive12
import Derived.Test.YtjodhagjfjgbcaaCKeep12
import Derived.Test.YtjodhagjfjgbcaaFirstM9
import Derived.LaidEqlPtr
/-
  PruneFirst: the walk.
-/
namespace Go.Proofs.Ytjodhagjfjgbcaa
open Go Go.RowKit
set_option maxRecDepth 10000

theorem Try.infoTreeS : (Try.prog.info? 87).map (·.size) = some 3 := by kernel_rfl
theorem eql_tree {w : World} {F G : List Nat} {b c : Nat} {t u : List Nd} {m m' : Int} (h : Tre w F b t m) (k : Tre w G c u m') (hne : c ≠ b) : (binOp .eql 26 (.pointer (some ⟨c, 0, none⟩)) (.pointer (some ⟨b, 0, none⟩))).run Try.prog w = .ok (.bool false) w := by
  obtain ⟨_, _, _, h⟩ := h
  obtain ⟨_, _, _, k⟩ := k
  cases hi : Try.prog.info? 87 with
  | none => have := Try.infoTreeS; rw [hi] at this; cases this
  | some j =>
    have hs := Try.infoTreeS
    rw [hi] at hs
    simp only [Option.map_some, Option.some.injEq] at hs
    exact run_eql_ptr_other w Try.underlying26 hi (by omega) (fun e => hne (congrArg Addr.block e)) k.blk h.blk

set_option maxHeartbeats 16000000 in
theorem first_any (w : World) (ao : Option Addr) (len cap g off : Nat) (l : List Bk) (hl : l.length = len) (h : Lies w w.heap.size ao g off (bks l)) :
    Calls Try.prog 6 #[.slice ao len cap] w fun e w' => e = .returned (.bool true) ∧ Below w.heap.size w w' := by
  have HL0 := Lib.hid h
  clear h
  go_enter Try.func6, Try.ntmps6
  go_wp2_with fail
  refine (alive_any w).mono ?_
  rintro e w1 ⟨rfl, hbc⟩
  have HB1 := Lib.hid hbc
  clear hbc
  go_wp2_with fail
  refine (made_any w1 ao len cap g off l hl (HL0.out.below HB1.out)).mono ?_
  rintro e w2 (⟨_, rfl, hbc⟩ | ⟨tb, wb, rb, _, rfl, ho⟩)
  · have HB := Lib.hid (HB1.out.trans (hbc.mono HB1.out.size))
    clear hbc
    go_wp2_with fail
    go_ret
    exact ⟨rfl, HB.out⟩
  obtain ⟨⟨G, F, M, R, mb, ht, hw, hd⟩, hbc⟩ := ho
  have HT := Lib.hid ht
  have HW := Lib.hid hw
  have HD := Lib.hid hd
  have HB := Lib.hid (HB1.out.trans (hbc.mono HB1.out.size))
  have HGD := Lib.hid (mkT_good l)
  have HLW := Lib.hid (mkO_length l)
  have HR0 := Lib.hid (mkT_root l)
  clear ht hw hd hbc HB1 HL0 hl
  generalize mkT l = t at HT HW HD HGD HLW HR0
  generalize mkO l = own at HW HD HLW
  have HM256 := Lib.hid (show t.length ≤ 256 ∧ 1 ≤ t.length by have := HGD.out.room; have := HGD.out.most256; have := HGD.out.pos; omega)
  clear HD
  go_wp2_with fail
  refine (name_any w2 0).mono ?_
  rintro e w4 ⟨rfl, hbc⟩
  replace HT := Lib.hid (HT.out.below hbc)
  replace HW := Lib.hid (HW.out.below hbc)
  replace HB := Lib.hid (HB.out.trans (hbc.mono HB.out.size))
  clear hbc
  have hnl := nmN_len 0
  have HPP := Lib.hid (show plc t (nmN 0) = ((0 : Nat) : Int) from HGD.out.plc_at HR0.out)
  go_wp2_with fail
  refine (pall_ok w4 G tb t 100 F wb own (nmN 0) 0 HPP.out HT.out HW.out HLW.out hnl).mono ?_
  rintro e w5 ⟨U, ub, V, vb, rfl, hu, hv, hh, hbc⟩
  rw [HGD.out.cut_all] at hu hv
  rw [HGD.out.cuo_all HLW.out] at hv
  have HNE := Lib.hid (tre_ne HT.out hu hh)
  replace HT := Lib.hid (HT.out.below hbc)
  replace HW := Lib.hid (HW.out.below hbc)
  replace HB := Lib.hid (HB.out.trans (hbc.mono HB.out.size))
  have HU := Lib.hid hu
  have HV := Lib.hid hv
  have HRT := Lib.hid HGD.out.rts
  have HSM := Lib.hid (show sameR (rs t) (rs t) = true from beq_self_eq_true _)
  have HRL0 := Lib.hid (show (rs t).length ≤ 1000 by rw [rs_length]; have := HM256.out; omega)
  obtain ⟨rm, hrm⟩ : ∃ rm, (100 : Int) - (t.length : Int) = rm := ⟨_, rfl⟩
  have HRM := Lib.hid hrm
  clear hbc hu hv hh hrm hnl
  have hne := eql_tree HT.out HU.out HNE.out
  go_wp2_with fail
  refine (roots_any w5 U ub t 100 HU.out).mono ?_
  rintro e w5b ⟨v, rfl, hv, hbc⟩
  obtain ⟨a1, c1, g1, o1, rfl, hl1⟩ := wide_names hv HRT.out
  have HS1 := Lib.hid hl1
  replace HT := Lib.hid (HT.out.below hbc)
  replace HW := Lib.hid (HW.out.below hbc)
  replace HB := Lib.hid (HB.out.trans (hbc.mono HB.out.size))
  replace HU := Lib.hid (HU.out.below hbc)
  replace HV := Lib.hid (HV.out.below hbc)
  clear hv hbc hl1
  go_wp2_with fail
  refine (roots_any w5b G tb t 100 HT.out).mono ?_
  rintro e w5c ⟨v, rfl, hv, hbc⟩
  obtain ⟨a2, c2, g2, o2, rfl, hl2⟩ := wide_names hv HRT.out
  have HS2 := Lib.hid hl2
  replace HT := Lib.hid (HT.out.below hbc)
  replace HW := Lib.hid (HW.out.below hbc)
  replace HB := Lib.hid (HB.out.trans (hbc.mono HB.out.size))
  replace HU := Lib.hid (HU.out.below hbc)
  replace HV := Lib.hid (HV.out.below hbc)
  replace HS1 := Lib.hid (HS1.out.below hbc)
  clear hv hbc hl2
  go_wp2_with fail
  refine (rsame_any w5c a1 a2 c1 c2 g1 g2 o1 o2 (rs t) (rs t) HRT.out HRT.out HS1.out HS2.out HRL0.out).mono ?_
  rintro e w5d ⟨rfl, nq, rfl⟩
  rw [HSM.out]
  have hbc : Below w5c.heap.size w5c (w5c.drewN nq) := below_dN (Below.refl _ _) _
  replace HT := Lib.hid (HT.out.below hbc)
  replace HW := Lib.hid (HW.out.below hbc)
  replace HB := Lib.hid (HB.out.trans (hbc.mono HB.out.size))
  replace HU := Lib.hid (HU.out.below hbc)
  replace HV := Lib.hid (HV.out.below hbc)
  clear hbc HS1 HS2
  generalize w5c.drewN nq = w5e at HT HW HB HU HV ⊢
  go_wp2_with fail
  refine (room_any w5e U ub t 100 HU.out).mono ?_
  rintro e w5f ⟨rfl, nq, rfl⟩
  rw [HRM.out]
  have hbc : Below w5e.heap.size w5e (w5e.drewN nq) := below_dN (Below.refl _ _) _
  replace HT := Lib.hid (HT.out.below hbc)
  replace HW := Lib.hid (HW.out.below hbc)
  replace HB := Lib.hid (HB.out.trans (hbc.mono HB.out.size))
  replace HU := Lib.hid (HU.out.below hbc)
  replace HV := Lib.hid (HV.out.below hbc)
  clear hbc
  generalize w5e.drewN nq = w5g at HT HW HB HU HV ⊢
  go_wp2_with fail
  refine (room_any w5g G tb t 100 HT.out).mono ?_
  rintro e w5h ⟨rfl, nq, rfl⟩
  rw [HRM.out]
  have hbc : Below w5g.heap.size w5g (w5g.drewN nq) := below_dN (Below.refl _ _) _
  replace HT := Lib.hid (HT.out.below hbc)
  replace HW := Lib.hid (HW.out.below hbc)
  replace HB := Lib.hid (HB.out.trans (hbc.mono HB.out.size))
  replace HU := Lib.hid (HU.out.below hbc)
  replace HV := Lib.hid (HV.out.below hbc)
  clear hbc hne
  generalize w5g.drewN nq = w6 at HT HW HB HU HV ⊢
  go_wp2_with fail
  refine (roots_any w6 G tb t 100 HT.out).mono ?_
  rintro e w7 ⟨v, rfl, hv, hbc⟩
  obtain ⟨ro, rcap, rg, roff, rfl, hrl⟩ := wide_names hv HRT.out
  have HRL := Lib.hid hrl
  replace HT := Lib.hid (HT.out.below hbc)
  replace HW := Lib.hid (HW.out.below hbc)
  replace HB := Lib.hid (HB.out.trans (hbc.mono HB.out.size))
  replace HU := Lib.hid (HU.out.below hbc)
  replace HV := Lib.hid (HV.out.below hbc)
  clear hv hrl hbc
  obtain ⟨N, hN⟩ : ∃ N, (rs t).length = N := ⟨_, rfl⟩
  have HN := Lib.hid (show t.length = N by rw [← hN, rs_length])
  rw [hN]
  clear hN
  go_wp2_with fail
  go_loopw [56] (fun i wx => ∃ k : Nat, k ≤ N ∧ i = .int .i64 k ∧ Hid (Below w7.heap.size w7 wx)) (fun i _ => N - (intOf i).toNat)
  case atStart => exact ⟨0, Nat.zero_le _, rfl, Lib.hid (Below.refl _ _)⟩
  case round =>
    obtain ⟨k, hk, rfl, HL⟩ := hrel
    obtain ⟨wx, rfl⟩ : ∃ x, x = wr := ⟨_, rfl⟩
    have HRx := Lib.hid (HRL.out.below HL.out)
    have HTx := Lib.hid (HT.out.below HL.out)
    have HWx := Lib.hid (HW.out.below HL.out)
    have HUx := Lib.hid (HU.out.below HL.out)
    have HVx := Lib.hid (HV.out.below HL.out)
    have HBx := Lib.hid (HB.out.trans (HL.out.mono HB.out.size))
    by_cases hlt : k < N
    · obtain ⟨x, hx⟩ : ∃ x, t[k]? = some x := ⟨_, List.getElem?_eq_getElem (by rw [HN.out]; exact hlt)⟩
      obtain ⟨hro, hrc⟩ := HRx.out.name HRT.out (rs_at hx)
      subst hro
      have HRC := Lib.hid hrc
      have HXL := Lib.hid (show x.1.length = 32 from HGD.out.nds x (List.mem_of_getElem? hx))
      have HLT := Lib.hid hlt
      have hlt' : (k : Int) < (N : Int) := by omega
      have HWK := Lib.hid (show wrap64 ((k : Int) + 1) = ((k + 1 : Nat) : Int) by have := HM256.out; have := HN.out; have := HLT.out; unfold wrap64; omega)
      obtain ⟨wt, hwt⟩ : ∃ wt, tellZ t own.length x.1 0 (wtW t own) = wt := ⟨_, rfl⟩
      obtain ⟨wo, hwo⟩ : ∃ wo, tellZ t own.length x.1 0 (owZ own) = wo := ⟨_, rfl⟩
      have HWT := Lib.hid hwt
      have HWO := Lib.hid hwo
      clear hx hrc hk hlt HRx hwt hwo
      have HZ := Lib.hid (blk_zeroR wx)
      have HZL := Lib.hid zero32_len
      have HQ := Lib.hid (HZ.out.setRow (bv x.1))
      have hbx : Below wx.heap.size wx ((wx.alloc (.cells #[.int .u8 0, .int .u8 0, .int .u8 0, .int .u8 0, .int .u8 0, .int .u8 0, .int .u8 0, .int .u8 0, .int .u8 0, .int .u8 0, .int .u8 0, .int .u8 0, .int .u8 0, .int .u8 0, .int .u8 0, .int .u8 0, .int .u8 0, .int .u8 0, .int .u8 0, .int .u8 0, .int .u8 0, .int .u8 0, .int .u8 0, .int .u8 0, .int .u8 0, .int .u8 0, .int .u8 0, .int .u8 0, .int .u8 0, .int .u8 0, .int .u8 0, .int .u8 0] 24)).setRow wx.heap.size (bv x.1).toArray) := below_row ((Below.refl _ wx).alloc (Nat.le_refl _) _) (Nat.le_refl _) _
      replace HTx := Lib.hid (HTx.out.below hbx)
      replace HWx := Lib.hid (HWx.out.below hbx)
      replace HUx := Lib.hid (HUx.out.below hbx)
      replace HVx := Lib.hid (HVx.out.below hbx)
      replace HBx := Lib.hid (HBx.out.trans (hbx.mono HBx.out.size))
      replace HL := Lib.hid (HL.out.trans (hbx.mono HL.out.size))
      clear hbx
      obtain ⟨Q, hRR⟩ : ∃ Q, Q = wx.heap.size := ⟨_, rfl⟩
      go_upto_region 12 with (first | ((with_reducible refine wpList_load_name (.tmp 58) ?_ ?_ rg (roff + k * 32) x.1 ?_ HXL.out HRC.out ?_); rfl; rfl; rfl) | ((with_reducible refine wpList_store_name (.tmp 11) (.tmp 59) ?_ ?_ wx.heap.size zero32 x.1 ?_ ?_ HZ.out HZL.out HXL.out ?_); rfl; rfl; rfl; rfl))
      try simp only [Act.put]
      rw [← hRR] at HQ HTx HWx HUx HVx HBx HL ⊢
      generalize (wx.alloc (.cells #[.int .u8 0, .int .u8 0, .int .u8 0, .int .u8 0, .int .u8 0, .int .u8 0, .int .u8 0, .int .u8 0, .int .u8 0, .int .u8 0, .int .u8 0, .int .u8 0, .int .u8 0, .int .u8 0, .int .u8 0, .int .u8 0, .int .u8 0, .int .u8 0, .int .u8 0, .int .u8 0, .int .u8 0, .int .u8 0, .int .u8 0, .int .u8 0, .int .u8 0, .int .u8 0, .int .u8 0, .int .u8 0, .int .u8 0, .int .u8 0, .int .u8 0, .int .u8 0] 24)).setRow Q (bv x.1).toArray = w8 at HQ HTx HWx HUx HVx HBx HL ⊢
      clear HZ HZL hRR
      clear HRC
      have hxl := HXL.out
      refine wp_region_free (P := Try.prog) 16 (fun w' => Below w8.heap.size w8 w') (fun oq v w' => match oq with
          | 0 => v = .pointer (some ⟨vb, 0, none⟩)
          | 1 => v = .agg (bv x.1).toArray
          | 2 => v = .int .i64 wt
          | 3 => v = .pointer (some ⟨wb, 0, none⟩)
          | 4 => v = .agg (bv x.1).toArray
          | 5 => v = .int .i64 wt
          | 6 => v = .bool false
          | 7 => v = .bool false
          | 8 => v = .pointer (some ⟨vb, 0, none⟩)
          | 9 => v = .agg (bv x.1).toArray
          | 10 => v = .int .i64 wo
          | 11 => v = .pointer (some ⟨wb, 0, none⟩)
          | 12 => v = .agg (bv x.1).toArray
          | 13 => v = .int .i64 wo
          | 14 => v = .bool false
          | 15 => v = .bool false
          | _ => True) (by kernel_rfl) (by kernel_rfl) (Below.refl _ _).drew ?gb ?vb ?steps ?fin
      case gb => exact fun a b h1 h2 => h1.trans (h2.mono h1.size)
      case vb =>
        intro oq v a b h hb
        match oq with
        | 0 => exact h
        | 1 => exact h
        | 2 => exact h
        | 3 => exact h
        | 4 => exact h
        | 5 => exact h
        | 6 => exact h
        | 7 => exact h
        | 8 => exact h
        | 9 => exact h
        | 10 => exact h
        | 11 => exact h
        | 12 => exact h
        | 13 => exact h
        | 14 => exact h
        | 15 => exact h
        | _ + 16 => trivial
      case steps =>
        intro vals
        simp only [List.take_succ_cons, List.take_zero, freeSteps, Act.put, List.setIfInBounds_toArray, List.set_cons_zero, List.set_cons_succ, Nat.reduceAdd]
        refine ⟨fun w8 hG hW => ?_, fun w8 hG hW => ?_, fun w8 hG hW => ?_, fun w8 hG hW => ?_, fun w8 hG hW => ?_, fun w8 hG hW => ?_, fun w8 hG hW => ?_, fun w8 hG hW => ?_, fun w8 hG hW => ?_, fun w8 hG hW => ?_, fun w8 hG hW => ?_, fun w8 hG hW => ?_, fun w8 hG hW => ?_, fun w8 hG hW => ?_, fun w8 hG hW => ?_, fun w8 hG hW => ?_, trivial⟩
        · clear hW
          refine stepAt_value rfl rfl rfl (.pointer (some ⟨vb, 0, none⟩)) w8 ?_ ⟨rfl, Below.refl _ _⟩
          go_simp
        · clear hW
          exact stepAt_load_run rfl rfl rfl _ _ rfl _ _ rfl (run_load_root hxl (HQ.out.below hG HQ.out.lt).rootAll) ⟨rfl, Below.refl _ _⟩
        · have q0 := hW 0 (by decide)
          simp only at q0
          have q1 := hW 1 (by decide)
          simp only at q1
          rw [q0, q1]
          clear hW
          refine stepAt_call rfl rfl rfl 26 #[.pointer (some ⟨vb, 0, none⟩), .agg (bv x.1).toArray] (by go_simp) ((wt_any w8 U ub t 100 V vb own x.1 (HUx.out.below hG) (HVx.out.below hG) hxl).mono fun e w' ⟨h1, h2⟩ => ⟨_, h1, by rw [HWT.out], h2⟩)
        · clear hW
          refine stepAt_value rfl rfl rfl (.pointer (some ⟨wb, 0, none⟩)) w8 ?_ ⟨rfl, Below.refl _ _⟩
          go_simp
        · clear hW
          exact stepAt_load_run rfl rfl rfl _ _ rfl _ _ rfl (run_load_root hxl (HQ.out.below hG HQ.out.lt).rootAll) ⟨rfl, Below.refl _ _⟩
        · have q3 := hW 3 (by decide)
          simp only at q3
          have q4 := hW 4 (by decide)
          simp only at q4
          rw [q3, q4]
          clear hW
          refine stepAt_call rfl rfl rfl 26 #[.pointer (some ⟨wb, 0, none⟩), .agg (bv x.1).toArray] (by go_simp) ((wt_any w8 G tb t 100 F wb own x.1 (HTx.out.below hG) (HWx.out.below hG) hxl).mono fun e w' ⟨h1, h2⟩ => ⟨_, h1, by rw [HWT.out], h2⟩)
        · have q2 := hW 2 (by decide)
          simp only at q2
          have q5 := hW 5 (by decide)
          simp only at q5
          rw [q2, q5]
          clear hW
          refine stepAt_value rfl rfl rfl (.bool false) w8 ?_ ⟨rfl, Below.refl _ _⟩
          go_simp
        · have q6 := hW 6 (by decide)
          simp only at q6
          rw [q6]
          clear hW
          refine stepAt_value rfl rfl rfl (.bool false) w8 ?_ ⟨rfl, Below.refl _ _⟩
          go_simp
        · have q7 := hW 7 (by decide)
          simp only at q7
          rw [q7]
          clear hW
          refine stepAt_value rfl rfl rfl (.pointer (some ⟨vb, 0, none⟩)) w8 ?_ ⟨rfl, Below.refl _ _⟩
          go_simp
        · have q7 := hW 7 (by decide)
          simp only at q7
          rw [q7]
          clear hW
          exact stepAt_load_run rfl rfl rfl _ _ rfl _ _ rfl (run_load_root hxl (HQ.out.below hG HQ.out.lt).rootAll) ⟨rfl, Below.refl _ _⟩
        · have q7 := hW 7 (by decide)
          simp only at q7
          have q8 := hW 8 (by decide)
          simp only at q8
          have q9 := hW 9 (by decide)
          simp only at q9
          rw [q7, q8, q9]
          clear hW
          refine stepAt_call rfl rfl rfl 21 #[.pointer (some ⟨vb, 0, none⟩), .agg (bv x.1).toArray] (by go_simp) ((own_any w8 U ub t 100 V vb own x.1 (HUx.out.below hG) (HVx.out.below hG) hxl).mono fun e w' ⟨h1, h2⟩ => ⟨_, h1, by rw [HWO.out], h2⟩)
        · have q7 := hW 7 (by decide)
          simp only at q7
          rw [q7]
          clear hW
          refine stepAt_value rfl rfl rfl (.pointer (some ⟨wb, 0, none⟩)) w8 ?_ ⟨rfl, Below.refl _ _⟩
          go_simp
        · have q7 := hW 7 (by decide)
          simp only at q7
          rw [q7]
          clear hW
          exact stepAt_load_run rfl rfl rfl _ _ rfl _ _ rfl (run_load_root hxl (HQ.out.below hG HQ.out.lt).rootAll) ⟨rfl, Below.refl _ _⟩
        · have q7 := hW 7 (by decide)
          simp only at q7
          have q11 := hW 11 (by decide)
          simp only at q11
          have q12 := hW 12 (by decide)
          simp only at q12
          rw [q7, q11, q12]
          clear hW
          refine stepAt_call rfl rfl rfl 21 #[.pointer (some ⟨wb, 0, none⟩), .agg (bv x.1).toArray] (by go_simp) ((own_any w8 G tb t 100 F wb own x.1 (HTx.out.below hG) (HWx.out.below hG) hxl).mono fun e w' ⟨h1, h2⟩ => ⟨_, h1, by rw [HWO.out], h2⟩)
        · have q7 := hW 7 (by decide)
          simp only at q7
          have q10 := hW 10 (by decide)
          simp only at q10
          have q13 := hW 13 (by decide)
          simp only at q13
          rw [q7, q10, q13]
          clear hW
          refine stepAt_value rfl rfl rfl (.bool false) w8 ?_ ⟨rfl, Below.refl _ _⟩
          go_simp
        · have q7 := hW 7 (by decide)
          simp only at q7
          have q14 := hW 14 (by decide)
          simp only at q14
          rw [q7, q14]
          clear hW
          refine stepAt_value rfl rfl rfl (.bool false) w8 ?_ ⟨rfl, Below.refl _ _⟩
          go_simp
      case fin =>
        intro vals w9 hG hV
        replace HL := Lib.hid (HL.out.trans (hG.mono HL.out.size))
        have q15 := hV 15 (by omega)
        simp only at q15
        simp only [List.take_succ_cons, List.take_zero, List.drop_succ_cons, List.drop_zero, putAll, Act.put, List.setIfInBounds_toArray, List.set_cons_zero, List.set_cons_succ, Nat.reduceAdd]
        rw [q15]
        clear hV q15
        generalize vals 0 = y0
        generalize vals 1 = y1
        generalize vals 2 = y2
        generalize vals 3 = y3
        generalize vals 4 = y4
        generalize vals 5 = y5
        generalize vals 6 = y6
        generalize vals 7 = y7
        generalize vals 8 = y8
        generalize vals 9 = y9
        generalize vals 10 = y10
        generalize vals 11 = y11
        generalize vals 12 = y12
        generalize vals 13 = y13
        generalize vals 14 = y14
        clear hG
        clear HQ HTx HWx HUx HVx HBx
        have hlk := HLT.out
        go_wp2_with fail
        go_roundw
        case rel => exact ⟨k + 1, by omega, by first | rw [HWK.out] | rw [Int.natCast_succ], HL⟩
        case measure => first | exact measK N k 1 ((k : Int) + 1) (by omega) hlk Nat.zero_lt_one | exact measK N k 1 (wrap64 ((k : Int) + 1)) HWK.out hlk Nat.zero_lt_one
    · have hlt2 : ¬ (k : Int) < (N : Int) := by omega
      obtain ⟨hd, hhd⟩ : ∃ hd, pnm t (hdW t own : Int) = hd := ⟨_, rfl⟩
      have hhl : hd.length = 32 := by rw [← hhd]; exact HGD.out.pnm_len _
      have HHD := Lib.hid hhd
      clear hhd hlt
      go_wp2_with fail
      refine (head_any wx U ub t 100 V vb own HUx.out HVx.out).mono ?_
      rintro e w8 ⟨rfl, hbc⟩
      rw [HHD.out]
      replace HTx := Lib.hid (HTx.out.below hbc)
      replace HWx := Lib.hid (HWx.out.below hbc)
      replace HUx := Lib.hid (HUx.out.below hbc)
      replace HVx := Lib.hid (HVx.out.below hbc)
      replace HBx := Lib.hid (HBx.out.trans (hbc.mono HBx.out.size))
      replace HL := Lib.hid (HL.out.trans (hbc.mono HL.out.size))
      clear hbc
      go_wp2_with fail
      refine (head_any w8 G tb t 100 F wb own HTx.out HWx.out).mono ?_
      rintro e w9 ⟨rfl, hbc⟩
      rw [HHD.out]
      replace HBx := Lib.hid (HBx.out.trans (hbc.mono HBx.out.size))
      clear hbc
      have he := root_eqW w9 hd hd hhl hhl
      rw [show (hd == hd) = true from beq_self_eq_true _] at he
      go_wp2_with fail
      go_ret
      exact ⟨rfl, HBx.out⟩
end Go.Proofs.Ytjodhagjfjgbcaa
