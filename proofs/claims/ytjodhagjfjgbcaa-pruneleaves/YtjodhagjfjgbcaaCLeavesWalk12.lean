/-
  The texts LeavesWalk12, one behind the other.
-/
import Derived.Test.YtjodhagjfjgbcaaCAlive12
import Derived.Test.YtjodhagjfjgbcaaLeavesM19
import Derived.Test.YtjodhagjfjgbcaaLeavesM9
import Derived.Test.YtjodhagjfjgbcaaCRWHead
import Derived.Test.YtjodhagjfjgbcaaCRefAll
/-
  PruneLeaves: the walk.
-/
namespace Go.Proofs.Ytjodhagjfjgbcaa
open Go Go.RowKit
set_option maxRecDepth 10000

set_option maxHeartbeats 16000000 in
theorem leaves_any (w : World) (ao : Option Addr) (len cap g off : Nat) (l : List Bk) (hl : l.length = len) (h : Lies w w.heap.size ao g off (bks l)) :
    Calls Try.prog 7 #[.slice ao len cap] w fun e w' => e = .returned (.bool true) ∧ Below w.heap.size w w' := by
  have HL0 := Lib.hid h
  clear h
  go_enter Try.func7, Try.ntmps7
  go_wp2_with fail
  refine (alive_any w).mono ?_
  rintro e w1 ⟨rfl, hbc⟩
  have HB1 := Lib.hid hbc
  clear hbc
  go_wp2_with fail
  refine (made_any w1 ao len cap g off l hl (HL0.out.below HB1.out)).mono ?_
  rintro e w2 (⟨_, rfl, hbc⟩ | ⟨tb, wb, rb, _, rfl, ho⟩)
  · have HB := Lib.hid (HB1.out.trans (hbc.mono HB1.out.size))
    clear hbc
    go_wp2_with fail
    go_ret
    exact ⟨rfl, HB.out⟩
  obtain ⟨⟨G, F, M, R, mb, ht, hw, hd⟩, hbc⟩ := ho
  have HT := Lib.hid ht
  have HW := Lib.hid hw
  have HD := Lib.hid hd
  have HB := Lib.hid (HB1.out.trans (hbc.mono HB1.out.size))
  have HGD := Lib.hid (mkT_good l)
  have HLW := Lib.hid (mkO_length l)
  have HR0 := Lib.hid (mkT_root l)
  clear ht hw hd hbc HB1 HL0 hl
  generalize mkT l = t at HT HW HD HGD HLW HR0
  generalize mkO l = own at HW HD HLW
  have HM256 := Lib.hid (show t.length ≤ 256 ∧ 1 ≤ t.length by have := HGD.out.room; have := HGD.out.most256; have := HGD.out.pos; omega)
  obtain ⟨hd, hhd⟩ : ∃ hd, pnm t (hdW t own : Int) = hd := ⟨_, rfl⟩
  have HHD := Lib.hid hhd
  have hhl : hd.length = 32 := by rw [← hhd]; exact HGD.out.pnm_len _
  obtain ⟨p, hp⟩ : ∃ p, hdW t own = p := ⟨_, rfl⟩
  have HPE := Lib.hid hp
  have HPL := Lib.hid (show p < t.length by rw [← hp]; exact HGD.out.head_lt HLW.out)
  obtain ⟨x, hx, hx1, _⟩ := HGD.out.at HPL.out
  have HXA := Lib.hid hx
  have HXE := Lib.hid (show x.1 = hd by rw [← hhd, hp, hx1])
  have HPP := Lib.hid (show plc t hd = (p : Int) by rw [← HXE.out]; exact HGD.out.plc_at hx)
  clear hhd hp hx hx1
  go_wp2_with fail
  refine (head_any w2 G tb t 100 F wb own HT.out HW.out).mono ?_
  rintro e w4 ⟨rfl, hbc⟩
  replace HT := Lib.hid (HT.out.below hbc)
  replace HW := Lib.hid (HW.out.below hbc)
  replace HD := Lib.hid (HD.out.below hbc)
  replace HB := Lib.hid (HB.out.trans (hbc.mono HB.out.size))
  clear hbc
  rw [HHD.out]
  go_wp2_with fail
  refine (pall_ok w4 G tb t 100 F wb own hd p HPP.out HT.out HW.out HLW.out hhl).mono ?_
  rintro e w5 ⟨U, ub, V, vb, rfl, hu, hv, _, hbc⟩
  replace HT := Lib.hid (HT.out.below hbc)
  replace HW := Lib.hid (HW.out.below hbc)
  replace HD := Lib.hid (HD.out.below hbc)
  replace HB := Lib.hid (HB.out.trans (hbc.mono HB.out.size))
  have HU := Lib.hid hu
  have HV := Lib.hid hv
  have HRT := Lib.hid HGD.out.rts
  have HSM := Lib.hid (show sameR (rs t) (rs t) = true from beq_self_eq_true _)
  have HRL0 := Lib.hid (show (rs t).length ≤ 1000 by rw [rs_length]; have := HM256.out; omega)
  have HO0 := Lib.hid (show 0 < own.length by rw [HLW.out]; have := HM256.out; omega)
  have HU1 := Lib.hid (show ((cutT t p).length : Int) = 1 by have := (HGD.out.lone HLW.out HO0.out).1; rw [HPE.out] at this; omega)
  have HVH := Lib.hid (show pnm (cutT t p) (hdW (cutT t p) (cutO t own p) : Int) = hd by rw [HGD.out.keep_head HPL.out HLW.out (by rw [HPE.out]; exact HGD.out.abW_self p), HHD.out])
  obtain ⟨wt, hwt⟩ : ∃ wt, tellZ t own.length hd 0 (wtW t own) = wt := ⟨_, rfl⟩
  have HWT := Lib.hid hwt
  have HVW := Lib.hid (show tellZ (cutT t p) (cutO t own p).length hd 0 (wtW (cutT t p) (cutO t own p)) = wt by rw [← HXE.out, HGD.out.keep_wt HPL.out HLW.out HXA.out (HGD.out.abW_self p), HXE.out, hwt])
  obtain ⟨a1, a2, a3, c1, c2, c3, g1, g2, g3, o1, o2, o3, hrs⟩ := HD.out.ref.open
  have HRS := Lib.hid hrs
  clear hbc hu hv hwt hrs
  go_upto_region 7 with fail
  refine wp_region_free (P := Try.prog) 44 (fun w' => Below w5.heap.size w5 w') (fun oq v w' => match oq with
      | 0 => v = .int .i64 0
      | 1 => v = .bool true
      | 2 => v = .bool true
      | 3 => v = .pointer (some ⟨ub, 0, none⟩)
      | 4 => v = .int .i64 1
      | 5 => v = .bool true
      | 6 => v = .bool true
      | 7 => v = .bool true
      | 8 => v = .pointer (some ⟨vb, 0, none⟩)
      | 9 => v = .agg (bv hd).toArray
      | 10 => v = .pointer (some ⟨wb, 0, none⟩)
      | 11 => v = .agg (bv hd).toArray
      | 12 => v = .bool true
      | 13 => v = .bool true
      | 14 => v = .bool true
      | 15 => v = .pointer (some ⟨vb, 0, none⟩)
      | 16 => v = .pointer (some ⟨wb, 0, none⟩)
      | 17 => v = .agg (bv hd).toArray
      | 18 => v = .int .i64 wt
      | 19 => v = .pointer (some ⟨wb, 0, none⟩)
      | 20 => v = .pointer (some ⟨wb, 0, none⟩)
      | 21 => v = .agg (bv hd).toArray
      | 22 => v = .int .i64 wt
      | 23 => v = .bool true
      | 24 => v = .bool true
      | 25 => v = .bool true
      | 26 => v = .pointer (some ⟨tb, 0, none⟩)
      | 27 => ∃ ao cap g off, v = .slice ao (rs t).length cap ∧ Lies w' w'.heap.size ao g off (rv (rs t))
      | 28 => v = .pointer (some ⟨rb, 0, none⟩)
      | 29 => v = .pointer (some ⟨rb, 0, none⟩)
      | 30 => v = .pointer (some ⟨rb, 0, none⟩)
      | 31 => v = .pointer (some ⟨mb, 0, none⟩)
      | 32 => v = .pointer (some ⟨mb, 0, none⟩)
      | 33 => v = .pointer (some ⟨mb, 0, none⟩)
      | 34 => v = .slice a1 (rs t).length c1
      | 35 => v = .bool true
      | 36 => v = .bool true
      | 37 => v = .bool true
      | 38 => v = .pointer (some ⟨wb, 0, none⟩)
      | 39 => v = .agg (bv hd).toArray
      | 40 => v = .pointer (some ⟨rb, 0, none⟩)
      | 41 => v = .agg (bv hd).toArray
      | 42 => v = .bool true
      | 43 => v = .bool true
      | _ => True) (by kernel_rfl) (by kernel_rfl) (Below.refl _ _).drew ?gb ?vb ?steps ?fin
  case gb => exact fun a b h1 h2 => h1.trans (h2.mono h1.size)
  case vb =>
    intro oq v a b h hb
    match oq with
    | 0 => exact h
    | 1 => exact h
    | 2 => exact h
    | 3 => exact h
    | 4 => exact h
    | 5 => exact h
    | 6 => exact h
    | 7 => exact h
    | 8 => exact h
    | 9 => exact h
    | 10 => exact h
    | 11 => exact h
    | 12 => exact h
    | 13 => exact h
    | 14 => exact h
    | 15 => exact h
    | 16 => exact h
    | 17 => exact h
    | 18 => exact h
    | 19 => exact h
    | 20 => exact h
    | 21 => exact h
    | 22 => exact h
    | 23 => exact h
    | 24 => exact h
    | 25 => exact h
    | 26 => exact h
    | 27 => (obtain ⟨ao, cap, g, off, h1, h2⟩ := h; exact ⟨ao, cap, g, off, h1, h2.below hb⟩)
    | 28 => exact h
    | 29 => exact h
    | 30 => exact h
    | 31 => exact h
    | 32 => exact h
    | 33 => exact h
    | 34 => exact h
    | 35 => exact h
    | 36 => exact h
    | 37 => exact h
    | 38 => exact h
    | 39 => exact h
    | 40 => exact h
    | 41 => exact h
    | 42 => exact h
    | 43 => exact h
    | _ + 44 => trivial
  case steps =>
    intro vals
    simp only [List.take_succ_cons, List.take_zero, freeSteps, Act.put, List.setIfInBounds_toArray, List.set_cons_zero, List.set_cons_succ, Nat.reduceAdd]
    refine ⟨fun w8 hG hW => ?_, fun w8 hG hW => ?_, fun w8 hG hW => ?_, fun w8 hG hW => ?_, fun w8 hG hW => ?_, fun w8 hG hW => ?_, fun w8 hG hW => ?_, fun w8 hG hW => ?_, fun w8 hG hW => ?_, fun w8 hG hW => ?_, fun w8 hG hW => ?_, fun w8 hG hW => ?_, fun w8 hG hW => ?_, fun w8 hG hW => ?_, fun w8 hG hW => ?_, fun w8 hG hW => ?_, fun w8 hG hW => ?_, fun w8 hG hW => ?_, fun w8 hG hW => ?_, fun w8 hG hW => ?_, fun w8 hG hW => ?_, fun w8 hG hW => ?_, fun w8 hG hW => ?_, fun w8 hG hW => ?_, fun w8 hG hW => ?_, fun w8 hG hW => ?_, fun w8 hG hW => ?_, fun w8 hG hW => ?_, fun w8 hG hW => ?_, fun w8 hG hW => ?_, fun w8 hG hW => ?_, fun w8 hG hW => ?_, fun w8 hG hW => ?_, fun w8 hG hW => ?_, fun w8 hG hW => ?_, fun w8 hG hW => ?_, fun w8 hG hW => ?_, fun w8 hG hW => ?_, fun w8 hG hW => ?_, fun w8 hG hW => ?_, fun w8 hG hW => ?_, fun w8 hG hW => ?_, fun w8 hG hW => ?_, fun w8 hG hW => ?_, trivial⟩
    · clear hW
      refine stepAt_value rfl rfl rfl (.int .i64 0) w8 ?_ ⟨rfl, Below.refl _ _⟩
      go_simp
    · have q0 := hW 0 (by decide)
      simp only at q0
      rw [q0]
      clear hW
      refine stepAt_value rfl rfl rfl (.bool true) w8 ?_ ⟨rfl, Below.refl _ _⟩
      go_simp
    · have q1 := hW 1 (by decide)
      simp only at q1
      rw [q1]
      clear hW
      refine stepAt_value rfl rfl rfl (.bool true) w8 ?_ ⟨rfl, Below.refl _ _⟩
      go_simp
    · have q2 := hW 2 (by decide)
      simp only at q2
      rw [q2]
      clear hW
      refine stepAt_value rfl rfl rfl (.pointer (some ⟨ub, 0, none⟩)) w8 ?_ ⟨rfl, Below.refl _ _⟩
      go_simp
    · have q2 := hW 2 (by decide)
      simp only at q2
      have q3 := hW 3 (by decide)
      simp only at q3
      rw [q2, q3]
      clear hW
      refine stepAt_call rfl rfl rfl 27 #[.pointer (some ⟨ub, 0, none⟩)] (by go_simp) ((len_any w8 U ub (cutT t p) 100 (HU.out.below hG)).mono fun e w' ⟨h1, h2⟩ => ⟨_, h1, by rw [HU1.out], by rw [h2]; exact Below.refl _ _⟩)
    · have q2 := hW 2 (by decide)
      simp only at q2
      have q4 := hW 4 (by decide)
      simp only at q4
      rw [q2, q4]
      clear hW
      refine stepAt_value rfl rfl rfl (.bool true) w8 ?_ ⟨rfl, Below.refl _ _⟩
      go_simp
    · have q2 := hW 2 (by decide)
      simp only at q2
      have q5 := hW 5 (by decide)
      simp only at q5
      rw [q2, q5]
      clear hW
      refine stepAt_value rfl rfl rfl (.bool true) w8 ?_ ⟨rfl, Below.refl _ _⟩
      go_simp
    · have q6 := hW 6 (by decide)
      simp only at q6
      rw [q6]
      clear hW
      refine stepAt_value rfl rfl rfl (.bool true) w8 ?_ ⟨rfl, Below.refl _ _⟩
      go_simp
    · have q7 := hW 7 (by decide)
      simp only at q7
      rw [q7]
      clear hW
      refine stepAt_value rfl rfl rfl (.pointer (some ⟨vb, 0, none⟩)) w8 ?_ ⟨rfl, Below.refl _ _⟩
      go_simp
    · have q7 := hW 7 (by decide)
      simp only at q7
      have q8 := hW 8 (by decide)
      simp only at q8
      rw [q7, q8]
      clear hW
      refine stepAt_call rfl rfl rfl 17 #[.pointer (some ⟨vb, 0, none⟩)] (by go_simp) ((head_any w8 U ub (cutT t p) 100 V vb (cutO t own p) (HU.out.below hG) (HV.out.below hG)).mono fun e w' ⟨h1, h2⟩ => ⟨_, h1, by rw [HVH.out], h2⟩)
    · have q7 := hW 7 (by decide)
      simp only at q7
      rw [q7]
      clear hW
      refine stepAt_value rfl rfl rfl (.pointer (some ⟨wb, 0, none⟩)) w8 ?_ ⟨rfl, Below.refl _ _⟩
      go_simp
    · have q7 := hW 7 (by decide)
      simp only at q7
      have q10 := hW 10 (by decide)
      simp only at q10
      rw [q7, q10]
      clear hW
      refine stepAt_call rfl rfl rfl 17 #[.pointer (some ⟨wb, 0, none⟩)] (by go_simp) ((head_any w8 G tb t 100 F wb own (HT.out.below hG) (HW.out.below hG)).mono fun e w' ⟨h1, h2⟩ => ⟨_, h1, by rw [HHD.out], h2⟩)
    · have q7 := hW 7 (by decide)
      simp only at q7
      have q9 := hW 9 (by decide)
      simp only at q9
      have q11 := hW 11 (by decide)
      simp only at q11
      rw [q7, q9, q11]
      clear hW
      refine stepAt_value rfl rfl rfl (.bool true) w8 ?_ ⟨rfl, Below.refl _ _⟩
      have he := root_eqW w8 hd hd hhl hhl
      rw [show (hd == hd) = true from beq_self_eq_true _] at he
      go_simp
    · have q7 := hW 7 (by decide)
      simp only at q7
      have q12 := hW 12 (by decide)
      simp only at q12
      rw [q7, q12]
      clear hW
      refine stepAt_value rfl rfl rfl (.bool true) w8 ?_ ⟨rfl, Below.refl _ _⟩
      go_simp
    · have q13 := hW 13 (by decide)
      simp only at q13
      rw [q13]
      clear hW
      refine stepAt_value rfl rfl rfl (.bool true) w8 ?_ ⟨rfl, Below.refl _ _⟩
      go_simp
    · have q14 := hW 14 (by decide)
      simp only at q14
      rw [q14]
      clear hW
      refine stepAt_value rfl rfl rfl (.pointer (some ⟨vb, 0, none⟩)) w8 ?_ ⟨rfl, Below.refl _ _⟩
      go_simp
    · have q14 := hW 14 (by decide)
      simp only at q14
      rw [q14]
      clear hW
      refine stepAt_value rfl rfl rfl (.pointer (some ⟨wb, 0, none⟩)) w8 ?_ ⟨rfl, Below.refl _ _⟩
      go_simp
    · have q14 := hW 14 (by decide)
      simp only at q14
      have q16 := hW 16 (by decide)
      simp only at q16
      rw [q14, q16]
      clear hW
      refine stepAt_call rfl rfl rfl 17 #[.pointer (some ⟨wb, 0, none⟩)] (by go_simp) ((head_any w8 G tb t 100 F wb own (HT.out.below hG) (HW.out.below hG)).mono fun e w' ⟨h1, h2⟩ => ⟨_, h1, by rw [HHD.out], h2⟩)
    · have q14 := hW 14 (by decide)
      simp only at q14
      have q15 := hW 15 (by decide)
      simp only at q15
      have q17 := hW 17 (by decide)
      simp only at q17
      rw [q14, q15, q17]
      clear hW
      refine stepAt_call rfl rfl rfl 26 #[.pointer (some ⟨vb, 0, none⟩), .agg (bv hd).toArray] (by go_simp) ((wt_any w8 U ub (cutT t p) 100 V vb (cutO t own p) hd (HU.out.below hG) (HV.out.below hG) hhl).mono fun e w' ⟨h1, h2⟩ => ⟨_, h1, by rw [HVW.out], h2⟩)
    · have q14 := hW 14 (by decide)
      simp only at q14
      rw [q14]
      clear hW
      refine stepAt_value rfl rfl rfl (.pointer (some ⟨wb, 0, none⟩)) w8 ?_ ⟨rfl, Below.refl _ _⟩
      go_simp
    · have q14 := hW 14 (by decide)
      simp only at q14
      rw [q14]
      clear hW
      refine stepAt_value rfl rfl rfl (.pointer (some ⟨wb, 0, none⟩)) w8 ?_ ⟨rfl, Below.refl _ _⟩
      go_simp
    · have q14 := hW 14 (by decide)
      simp only at q14
      have q20 := hW 20 (by decide)
      simp only at q20
      rw [q14, q20]
      clear hW
      refine stepAt_call rfl rfl rfl 17 #[.pointer (some ⟨wb, 0, none⟩)] (by go_simp) ((head_any w8 G tb t 100 F wb own (HT.out.below hG) (HW.out.below hG)).mono fun e w' ⟨h1, h2⟩ => ⟨_, h1, by rw [HHD.out], h2⟩)
    · have q14 := hW 14 (by decide)
      simp only at q14
      have q19 := hW 19 (by decide)
      simp only at q19
      have q21 := hW 21 (by decide)
      simp only at q21
      rw [q14, q19, q21]
      clear hW
      refine stepAt_call rfl rfl rfl 26 #[.pointer (some ⟨wb, 0, none⟩), .agg (bv hd).toArray] (by go_simp) ((wt_any w8 G tb t 100 F wb own hd (HT.out.below hG) (HW.out.below hG) hhl).mono fun e w' ⟨h1, h2⟩ => ⟨_, h1, by rw [HWT.out], h2⟩)
    · have q14 := hW 14 (by decide)
      simp only at q14
      have q18 := hW 18 (by decide)
      simp only at q18
      have q22 := hW 22 (by decide)
      simp only at q22
      rw [q14, q18, q22]
      clear hW
      refine stepAt_value rfl rfl rfl (.bool true) w8 ?_ ⟨rfl, Below.refl _ _⟩
      go_simp
    · have q14 := hW 14 (by decide)
      simp only at q14
      have q23 := hW 23 (by decide)
      simp only at q23
      rw [q14, q23]
      clear hW
      refine stepAt_value rfl rfl rfl (.bool true) w8 ?_ ⟨rfl, Below.refl _ _⟩
      go_simp
    · have q24 := hW 24 (by decide)
      simp only at q24
      rw [q24]
      clear hW
      refine stepAt_value rfl rfl rfl (.bool true) w8 ?_ ⟨rfl, Below.refl _ _⟩
      go_simp
    · have q25 := hW 25 (by decide)
      simp only at q25
      rw [q25]
      clear hW
      refine stepAt_value rfl rfl rfl (.pointer (some ⟨tb, 0, none⟩)) w8 ?_ ⟨rfl, Below.refl _ _⟩
      go_simp
    · have q25 := hW 25 (by decide)
      simp only at q25
      have q26 := hW 26 (by decide)
      simp only at q26
      rw [q25, q26]
      clear hW
      refine stepAt_call rfl rfl rfl 15 #[.pointer (some ⟨tb, 0, none⟩)] (by go_simp) ((roots_any w8 G tb t 100 (HT.out.below hG)).mono fun e w' ⟨v, h1, h2, h3⟩ => ⟨v, h1, (by obtain ⟨ao, cap, g, off, e1, e2⟩ := wide_names h2 HRT.out; exact ⟨ao, cap, g, off, e1, e2⟩), h3⟩)
    · have q25 := hW 25 (by decide)
      simp only at q25
      rw [q25]
      clear hW
      refine stepAt_value rfl rfl rfl (.pointer (some ⟨rb, 0, none⟩)) w8 ?_ ⟨rfl, Below.refl _ _⟩
      go_simp
    · have q25 := hW 25 (by decide)
      simp only at q25
      have q28 := hW 28 (by decide)
      simp only at q28
      rw [q25, q28]
      clear hW
      refine stepAt_value rfl rfl rfl (.pointer (some ⟨rb, 0, none⟩)) w8 ?_ ⟨rfl, Below.refl _ _⟩
      go_simp
    · have q25 := hW 25 (by decide)
      simp only at q25
      have q29 := hW 29 (by decide)
      simp only at q29
      rw [q25, q29]
      clear hW
      refine stepAt_value rfl rfl rfl (.pointer (some ⟨rb, 0, none⟩)) w8 ?_ ⟨rfl, Below.refl _ _⟩
      go_simp
    · have q25 := hW 25 (by decide)
      simp only at q25
      have q30 := hW 30 (by decide)
      simp only at q30
      rw [q25, q30]
      clear hW
      refine stepAt_value rfl rfl rfl (.pointer (some ⟨mb, 0, none⟩)) w8 ?_ ⟨rfl, Below.refl _ _⟩
      have c := (HD.out.below hG).cellT
      go_simp
    · have q25 := hW 25 (by decide)
      simp only at q25
      have q31 := hW 31 (by decide)
      simp only at q31
      rw [q25, q31]
      clear hW
      refine stepAt_value rfl rfl rfl (.pointer (some ⟨mb, 0, none⟩)) w8 ?_ ⟨rfl, Below.refl _ _⟩
      go_simp
    · have q25 := hW 25 (by decide)
      simp only at q25
      have q32 := hW 32 (by decide)
      simp only at q32
      rw [q25, q32]
      clear hW
      refine stepAt_value rfl rfl rfl (.pointer (some ⟨mb, 0, none⟩)) w8 ?_ ⟨rfl, Below.refl _ _⟩
      go_simp
    · have q25 := hW 25 (by decide)
      simp only at q25
      have q33 := hW 33 (by decide)
      simp only at q33
      rw [q25, q33]
      clear hW
      refine stepAt_value rfl rfl rfl (.slice a1 (rs t).length c1) w8 ?_ ⟨rfl, Below.refl _ _⟩
      have c := (HRS.out.below hG).cell0
      rw [← rs_length] at c
      go_simp
    · have q25 := hW 25 (by decide)
      simp only at q25
      have q34 := hW 34 (by decide)
      simp only at q34
      obtain ⟨a0, k0, g0, o0, q0, l0⟩ := hW 27 (by decide)
      rw [q25, q34, q0]
      clear hW
      refine stepAt_call rfl rfl rfl 14 #[.slice a0 (rs t).length k0, .slice a1 (rs t).length c1] (by go_simp) ((rsame_any w8 a0 a1 k0 c1 g0 g1 o0 o1 (rs t) (rs t) HRT.out HRT.out l0 (HRS.out.below hG).l1 HRL0.out).mono fun e w' ⟨h1, n, h2⟩ => ⟨_, h1, by rw [HSM.out], by rw [h2]; exact below_dN (Below.refl _ _) _⟩)
    · have q25 := hW 25 (by decide)
      simp only at q25
      have q35 := hW 35 (by decide)
      simp only at q35
      rw [q25, q35]
      clear hW
      refine stepAt_value rfl rfl rfl (.bool true) w8 ?_ ⟨rfl, Below.refl _ _⟩
      go_simp
    · have q36 := hW 36 (by decide)
      simp only at q36
      rw [q36]
      clear hW
      refine stepAt_value rfl rfl rfl (.bool true) w8 ?_ ⟨rfl, Below.refl _ _⟩
      go_simp
    · have q37 := hW 37 (by decide)
      simp only at q37
      rw [q37]
      clear hW
      refine stepAt_value rfl rfl rfl (.pointer (some ⟨wb, 0, none⟩)) w8 ?_ ⟨rfl, Below.refl _ _⟩
      go_simp
    · have q37 := hW 37 (by decide)
      simp only at q37
      have q38 := hW 38 (by decide)
      simp only at q38
      rw [q37, q38]
      clear hW
      refine stepAt_call rfl rfl rfl 17 #[.pointer (some ⟨wb, 0, none⟩)] (by go_simp) ((head_any w8 G tb t 100 F wb own (HT.out.below hG) (HW.out.below hG)).mono fun e w' ⟨h1, h2⟩ => ⟨_, h1, by rw [HHD.out], h2⟩)
    · have q37 := hW 37 (by decide)
      simp only at q37
      rw [q37]
      clear hW
      refine stepAt_value rfl rfl rfl (.pointer (some ⟨rb, 0, none⟩)) w8 ?_ ⟨rfl, Below.refl _ _⟩
      go_simp
    · have q37 := hW 37 (by decide)
      simp only at q37
      have q40 := hW 40 (by decide)
      simp only at q40
      rw [q37, q40]
      clear hW
      refine stepAt_call rfl rfl rfl 18 #[.pointer (some ⟨rb, 0, none⟩)] (by go_simp) ((rhead_any w8 M mb t R rb own 100 (HD.out.below hG) HO0.out).mono fun e w' ⟨h1, h2⟩ => ⟨_, h1, by rw [HHD.out], h2⟩)
    · have q37 := hW 37 (by decide)
      simp only at q37
      have q39 := hW 39 (by decide)
      simp only at q39
      have q41 := hW 41 (by decide)
      simp only at q41
      rw [q37, q39, q41]
      clear hW
      refine stepAt_value rfl rfl rfl (.bool true) w8 ?_ ⟨rfl, Below.refl _ _⟩
      have he := root_eqW w8 hd hd hhl hhl
      rw [show (hd == hd) = true from beq_self_eq_true _] at he
      go_simp
    · have q37 := hW 37 (by decide)
      simp only at q37
      have q42 := hW 42 (by decide)
      simp only at q42
      rw [q37, q42]
      clear hW
      refine stepAt_value rfl rfl rfl (.bool true) w8 ?_ ⟨rfl, Below.refl _ _⟩
      go_simp
  case fin =>
    intro vals w6 hG hV
    replace HB := Lib.hid (HB.out.trans (hG.mono HB.out.size))
    have q43 := hV 43 (by omega)
    simp only at q43
    simp only [List.take_succ_cons, List.take_zero, List.drop_succ_cons, List.drop_zero, putAll, Act.put, List.setIfInBounds_toArray, List.set_cons_zero, List.set_cons_succ, Nat.reduceAdd]
    rw [q43]
    clear hV q43
    generalize vals 0 = y0
    generalize vals 1 = y1
    generalize vals 2 = y2
    generalize vals 3 = y3
    generalize vals 4 = y4
    generalize vals 5 = y5
    generalize vals 6 = y6
    generalize vals 7 = y7
    generalize vals 8 = y8
    generalize vals 9 = y9
    generalize vals 10 = y10
    generalize vals 11 = y11
    generalize vals 12 = y12
    generalize vals 13 = y13
    generalize vals 14 = y14
    generalize vals 15 = y15
    generalize vals 16 = y16
    generalize vals 17 = y17
    generalize vals 18 = y18
    generalize vals 19 = y19
    generalize vals 20 = y20
    generalize vals 21 = y21
    generalize vals 22 = y22
    generalize vals 23 = y23
    generalize vals 24 = y24
    generalize vals 25 = y25
    generalize vals 26 = y26
    generalize vals 27 = y27
    generalize vals 28 = y28
    generalize vals 29 = y29
    generalize vals 30 = y30
    generalize vals 31 = y31
    generalize vals 32 = y32
    generalize vals 33 = y33
    generalize vals 34 = y34
    generalize vals 35 = y35
    generalize vals 36 = y36
    generalize vals 37 = y37
    generalize vals 38 = y38
    generalize vals 39 = y39
    generalize vals 40 = y40
    generalize vals 41 = y41
    generalize vals 42 = y42
    clear hG
    go_wp2_with fail
    go_ret
    exact ⟨rfl, HB.out⟩
end Go.Proofs.Ytjodhagjfjgbcaa
