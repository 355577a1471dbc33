/-
  same: is a tree at what the document's is at?
-/
import Derived.Test.YtmchjmcdlapegaaBelowWalk10
import Derived.Test.YtmchjmcdlapegaaOnceWalk10
namespace Go.Proofs.Ytmchjmcdlapegaa
open Go Go.RowKit
set_option maxRecDepth 10000

theorem meas2 (N : Nat) (x y : Int) (hx : x = y + 1) (hy : -1 ≤ y) (h : y + 1 < N) : N - (intOf (.int .i64 x) + 1).toNat < N - (intOf (.int .i64 y) + 1).toNat := by
  subst hx
  show N - (y + 1 + 1).toNat < N - (y + 1).toNat
  omega

theorem none_eq (w : World) : (Op.equalIn 10000 51 (.agg (ndv (zero32, 0, -1)).toArray) (.agg #[.int .u8 0, .int .u8 0, .int .u8 0, .int .u8 0, .int .u8 0, .int .u8 0, .int .u8 0, .int .u8 0, .int .u8 0, .int .u8 0, .int .u8 0, .int .u8 0, .int .u8 0, .int .u8 0, .int .u8 0, .int .u8 0, .int .u8 0, .int .u8 0, .int .u8 0, .int .u8 0, .int .u8 0, .int .u8 0, .int .u8 0, .int .u8 0, .int .u8 0, .int .u8 0, .int .u8 0, .int .u8 0, .int .u8 0, .int .u8 0, .int .u8 0, .int .u8 0, .int .i64 0, .int .i64 (-1)])).run Try.prog w = .ok true w := by
  have h := node_eq w (zero32, 0, -1) (zero32, 0, -1) (by simp [zero32]) (by simp [zero32])
  rw [nd_same] at h
  exact h

attribute [local go_sem] root_eqW
attribute [local go_sem high] none_eq
attribute [local go_sem high] node_eq
set_option maxRecDepth 100000 in
set_option maxHeartbeats 16000000 in
theorem same_any (w : World) (F G : List Nat) (b m : Nat) (t : List Nd) (most : Int) (hT : Tre w F b t most) (hR : Ref w G m t most) :
    Calls Try.prog 19 #[.pointer (some ⟨b, 0, none⟩), .pointer (some ⟨m, 0, none⟩)] w fun e w' => e = .returned (.bool true) ∧ Below w.heap.size w w' := by
  obtain ⟨a1, a2, a3, c1, c2, c3, g1, g2, g3, o1, o2, o3, hr⟩ := hR.open
  have HT := Lib.hid hT
  have HR := Lib.hid hr
  have HG := Lib.hid hT.1
  obtain ⟨TL, hTL⟩ : ∃ TL, t.length = TL := ⟨_, rfl⟩
  have HTL := Lib.hid hTL
  have HM256 := Lib.hid (show TL ≤ 256 ∧ 1 ≤ TL ∧ 1 ≤ most ∧ most ≤ 256 by have := hT.1.room; have := hT.1.most256; have := hT.1.pos; have := hT.1.most1; omega)
  have HWR := Lib.hid (show wrap64 (most - (TL : Int)) = most - (TL : Int) by have := HM256.out; unfold wrap64; omega)
  have HWI64 := Lib.hid (show IntKind.i64.wrap (most - (TL : Int)) = most - (TL : Int) by have := HM256.out; rw [IntKind.wrap_i64]; omega)
  have HB := Lib.hid (Below.refl w.heap.size w)
  clear hT hR hr hTL
  go_enter Try.func19, Try.ntmps19
  go_upto_region 1 with fail
  refine wp_region_free (P := Try.prog) 33 (fun w' => Below w.heap.size w w') (fun oq v w' => match oq with
      | 0 => v = .pointer (some ⟨b, 0, none⟩)
      | 1 => v = .int .i64 (TL : Int)
      | 2 => v = .pointer (some ⟨m, 0, none⟩)
      | 3 => v = .pointer (some ⟨m, 0, none⟩)
      | 4 => v = .pointer (some ⟨m, 0, none⟩)
      | 5 => v = .slice a1 TL c1
      | 6 => v = .int .i64 (TL : Int)
      | 7 => v = .bool false
      | 8 => v = .bool false
      | 9 => v = .pointer (some ⟨b, 0, none⟩)
      | 10 => v = .int .i64 (most - (TL : Int))
      | 11 => v = .pointer (some ⟨m, 0, none⟩)
      | 12 => v = .pointer (some ⟨m, 0, none⟩)
      | 13 => v = .pointer (some ⟨m, 3, none⟩)
      | 14 => v = .int .i64 most
      | 15 => v = .pointer (some ⟨m, 0, none⟩)
      | 16 => v = .pointer (some ⟨m, 0, none⟩)
      | 17 => v = .pointer (some ⟨m, 0, none⟩)
      | 18 => v = .slice a1 TL c1
      | 19 => v = .int .i64 (TL : Int)
      | 20 => v = .int .i64 (most - (TL : Int))
      | 21 => v = .bool false
      | 22 => v = .bool false
      | 23 => v = .bool false
      | 24 => v = .pointer (some ⟨b, 0, none⟩)
      | 25 => Wide 32 w' 0 v (rv (rs t))
      | 26 => v = .pointer (some ⟨m, 0, none⟩)
      | 27 => v = .pointer (some ⟨m, 0, none⟩)
      | 28 => v = .pointer (some ⟨m, 0, none⟩)
      | 29 => v = .slice a1 TL c1
      | 30 => v = .bool true
      | 31 => v = .bool false
      | 32 => v = .bool false
      | _ => True) (by kernel_rfl) (by kernel_rfl) (Below.refl _ _).drew ?gb ?vb ?steps ?fin
  case gb => exact fun a b h1 h2 => h1.trans (h2.mono h1.size)
  case vb =>
    intro oq v a b h hb
    match oq with
    | 0 => exact h
    | 1 => exact h
    | 2 => exact h
    | 3 => exact h
    | 4 => exact h
    | 5 => exact h
    | 6 => exact h
    | 7 => exact h
    | 8 => exact h
    | 9 => exact h
    | 10 => exact h
    | 11 => exact h
    | 12 => exact h
    | 13 => exact h
    | 14 => exact h
    | 15 => exact h
    | 16 => exact h
    | 17 => exact h
    | 18 => exact h
    | 19 => exact h
    | 20 => exact h
    | 21 => exact h
    | 22 => exact h
    | 23 => exact h
    | 24 => exact h
    | 25 => exact Wide.below h hb
    | 26 => exact h
    | 27 => exact h
    | 28 => exact h
    | 29 => exact h
    | 30 => exact h
    | 31 => exact h
    | 32 => exact h
    | _ + 33 => trivial
  case steps =>
    intro vals
    simp only [List.take_succ_cons, List.take_zero, freeSteps, Act.put, List.setIfInBounds_toArray, List.set_cons_zero, List.set_cons_succ, Nat.reduceAdd]
    refine ⟨fun w8 hG hW => ?_, fun w8 hG hW => ?_, fun w8 hG hW => ?_, fun w8 hG hW => ?_, fun w8 hG hW => ?_, fun w8 hG hW => ?_, fun w8 hG hW => ?_, fun w8 hG hW => ?_, fun w8 hG hW => ?_, fun w8 hG hW => ?_, fun w8 hG hW => ?_, fun w8 hG hW => ?_, fun w8 hG hW => ?_, fun w8 hG hW => ?_, fun w8 hG hW => ?_, fun w8 hG hW => ?_, fun w8 hG hW => ?_, fun w8 hG hW => ?_, fun w8 hG hW => ?_, fun w8 hG hW => ?_, fun w8 hG hW => ?_, fun w8 hG hW => ?_, fun w8 hG hW => ?_, fun w8 hG hW => ?_, fun w8 hG hW => ?_, fun w8 hG hW => ?_, fun w8 hG hW => ?_, fun w8 hG hW => ?_, fun w8 hG hW => ?_, fun w8 hG hW => ?_, fun w8 hG hW => ?_, fun w8 hG hW => ?_, fun w8 hG hW => ?_, trivial⟩
    · clear hW
      refine stepAt_value rfl rfl rfl (.pointer (some ⟨b, 0, none⟩)) w8 ?_ ⟨rfl, Below.refl _ _⟩
      go_simp
    · have q0 := hW 0 (by decide)
      simp only at q0
      rw [q0]
      clear hW
      refine stepAt_call rfl rfl rfl 12 #[.pointer (some ⟨b, 0, none⟩)] (by go_simp) ((len_any w8 F b t most (HT.out.below hG)).mono fun e w' ⟨h1, h2⟩ => ⟨_, h1, by rw [HTL.out], by rw [h2]; exact Below.refl _ _⟩)
    · clear hW
      refine stepAt_value rfl rfl rfl (.pointer (some ⟨m, 0, none⟩)) w8 ?_ ⟨rfl, Below.refl _ _⟩
      go_simp
    · have q2 := hW 2 (by decide)
      simp only at q2
      rw [q2]
      clear hW
      refine stepAt_value rfl rfl rfl (.pointer (some ⟨m, 0, none⟩)) w8 ?_ ⟨rfl, Below.refl _ _⟩
      go_simp
    · have q3 := hW 3 (by decide)
      simp only at q3
      rw [q3]
      clear hW
      refine stepAt_value rfl rfl rfl (.pointer (some ⟨m, 0, none⟩)) w8 ?_ ⟨rfl, Below.refl _ _⟩
      go_simp
    · have q4 := hW 4 (by decide)
      simp only at q4
      rw [q4]
      clear hW
      refine stepAt_value rfl rfl rfl (.slice a1 TL c1) w8 ?_ ⟨rfl, Below.refl _ _⟩
      have hc := (HR.out.below hG).cell0
      rw [HTL.out] at hc
      go_simp
    · have q5 := hW 5 (by decide)
      simp only at q5
      rw [q5]
      clear hW
      refine stepAt_value rfl rfl rfl (.int .i64 (TL : Int)) w8 ?_ ⟨rfl, Below.refl _ _⟩
      go_simp
    · have q1 := hW 1 (by decide)
      simp only at q1
      have q6 := hW 6 (by decide)
      simp only at q6
      rw [q1, q6]
      clear hW
      refine stepAt_value rfl rfl rfl (.bool false) w8 ?_ ⟨rfl, Below.refl _ _⟩
      go_simp
    · have q7 := hW 7 (by decide)
      simp only at q7
      rw [q7]
      clear hW
      refine stepAt_value rfl rfl rfl (.bool false) w8 ?_ ⟨rfl, Below.refl _ _⟩
      go_simp
    · have q8 := hW 8 (by decide)
      simp only at q8
      rw [q8]
      clear hW
      refine stepAt_value rfl rfl rfl (.pointer (some ⟨b, 0, none⟩)) w8 ?_ ⟨rfl, Below.refl _ _⟩
      go_simp
    · have q8 := hW 8 (by decide)
      simp only at q8
      have q9 := hW 9 (by decide)
      simp only at q9
      rw [q8, q9]
      clear hW
      refine stepAt_call rfl rfl rfl 13 #[.pointer (some ⟨b, 0, none⟩)] (by go_simp) ((room_any w8 F b t most (HT.out.below hG)).mono fun e w' ⟨h1, k, h2⟩ => ⟨_, h1, by rw [HTL.out], by rw [h2]; exact below_dN (Below.refl _ _) k⟩)
    · have q8 := hW 8 (by decide)
      simp only at q8
      rw [q8]
      clear hW
      refine stepAt_value rfl rfl rfl (.pointer (some ⟨m, 0, none⟩)) w8 ?_ ⟨rfl, Below.refl _ _⟩
      go_simp
    · have q8 := hW 8 (by decide)
      simp only at q8
      have q11 := hW 11 (by decide)
      simp only at q11
      rw [q8, q11]
      clear hW
      refine stepAt_value rfl rfl rfl (.pointer (some ⟨m, 0, none⟩)) w8 ?_ ⟨rfl, Below.refl _ _⟩
      go_simp
    · have q8 := hW 8 (by decide)
      simp only at q8
      have q12 := hW 12 (by decide)
      simp only at q12
      rw [q8, q12]
      clear hW
      refine stepAt_value rfl rfl rfl (.pointer (some ⟨m, 3, none⟩)) w8 ?_ ⟨rfl, Below.refl _ _⟩
      go_simp
    · have q8 := hW 8 (by decide)
      simp only at q8
      have q13 := hW 13 (by decide)
      simp only at q13
      rw [q8, q13]
      clear hW
      refine stepAt_value rfl rfl rfl (.int .i64 most) w8 ?_ ⟨rfl, Below.refl _ _⟩
      have hc := (HR.out.below hG).cell3
      go_simp
    · have q8 := hW 8 (by decide)
      simp only at q8
      rw [q8]
      clear hW
      refine stepAt_value rfl rfl rfl (.pointer (some ⟨m, 0, none⟩)) w8 ?_ ⟨rfl, Below.refl _ _⟩
      go_simp
    · have q8 := hW 8 (by decide)
      simp only at q8
      have q15 := hW 15 (by decide)
      simp only at q15
      rw [q8, q15]
      clear hW
      refine stepAt_value rfl rfl rfl (.pointer (some ⟨m, 0, none⟩)) w8 ?_ ⟨rfl, Below.refl _ _⟩
      go_simp
    · have q8 := hW 8 (by decide)
      simp only at q8
      have q16 := hW 16 (by decide)
      simp only at q16
      rw [q8, q16]
      clear hW
      refine stepAt_value rfl rfl rfl (.pointer (some ⟨m, 0, none⟩)) w8 ?_ ⟨rfl, Below.refl _ _⟩
      go_simp
    · have q8 := hW 8 (by decide)
      simp only at q8
      have q17 := hW 17 (by decide)
      simp only at q17
      rw [q8, q17]
      clear hW
      refine stepAt_value rfl rfl rfl (.slice a1 TL c1) w8 ?_ ⟨rfl, Below.refl _ _⟩
      have hc := (HR.out.below hG).cell0
      rw [HTL.out] at hc
      go_simp
    · have q8 := hW 8 (by decide)
      simp only at q8
      have q18 := hW 18 (by decide)
      simp only at q18
      rw [q8, q18]
      clear hW
      refine stepAt_value rfl rfl rfl (.int .i64 (TL : Int)) w8 ?_ ⟨rfl, Below.refl _ _⟩
      go_simp
    · have q8 := hW 8 (by decide)
      simp only at q8
      have q14 := hW 14 (by decide)
      simp only at q14
      have q19 := hW 19 (by decide)
      simp only at q19
      rw [q8, q14, q19]
      clear hW
      refine stepAt_value rfl rfl rfl (.int .i64 (most - (TL : Int))) w8 ?_ ⟨rfl, Below.refl _ _⟩
      have hh : IntKind.i64.wrap (most - (TL : Int)) = most - (TL : Int) := HWI64.out
      go_simp
    · have q8 := hW 8 (by decide)
      simp only at q8
      have q10 := hW 10 (by decide)
      simp only at q10
      have q20 := hW 20 (by decide)
      simp only at q20
      rw [q8, q10, q20]
      clear hW
      refine stepAt_value rfl rfl rfl (.bool false) w8 ?_ ⟨rfl, Below.refl _ _⟩
      go_simp
    · have q8 := hW 8 (by decide)
      simp only at q8
      have q21 := hW 21 (by decide)
      simp only at q21
      rw [q8, q21]
      clear hW
      refine stepAt_value rfl rfl rfl (.bool false) w8 ?_ ⟨rfl, Below.refl _ _⟩
      go_simp
    · have q22 := hW 22 (by decide)
      simp only at q22
      rw [q22]
      clear hW
      refine stepAt_value rfl rfl rfl (.bool false) w8 ?_ ⟨rfl, Below.refl _ _⟩
      go_simp
    · have q23 := hW 23 (by decide)
      simp only at q23
      rw [q23]
      clear hW
      refine stepAt_value rfl rfl rfl (.pointer (some ⟨b, 0, none⟩)) w8 ?_ ⟨rfl, Below.refl _ _⟩
      go_simp
    · have q23 := hW 23 (by decide)
      simp only at q23
      have q24 := hW 24 (by decide)
      simp only at q24
      rw [q23, q24]
      clear hW
      refine stepAt_call rfl rfl rfl 16 #[.pointer (some ⟨b, 0, none⟩)] (by go_simp) ((roots_any w8 F b t most (HT.out.below hG)).mono fun e w' ⟨v, h1, h2, h3⟩ => ⟨_, h1, h2.mono (Nat.zero_le _), h3⟩)
    · have q23 := hW 23 (by decide)
      simp only at q23
      rw [q23]
      clear hW
      refine stepAt_value rfl rfl rfl (.pointer (some ⟨m, 0, none⟩)) w8 ?_ ⟨rfl, Below.refl _ _⟩
      go_simp
    · have q23 := hW 23 (by decide)
      simp only at q23
      have q26 := hW 26 (by decide)
      simp only at q26
      rw [q23, q26]
      clear hW
      refine stepAt_value rfl rfl rfl (.pointer (some ⟨m, 0, none⟩)) w8 ?_ ⟨rfl, Below.refl _ _⟩
      go_simp
    · have q23 := hW 23 (by decide)
      simp only at q23
      have q27 := hW 27 (by decide)
      simp only at q27
      rw [q23, q27]
      clear hW
      refine stepAt_value rfl rfl rfl (.pointer (some ⟨m, 0, none⟩)) w8 ?_ ⟨rfl, Below.refl _ _⟩
      go_simp
    · have q23 := hW 23 (by decide)
      simp only at q23
      have q28 := hW 28 (by decide)
      simp only at q28
      rw [q23, q28]
      clear hW
      refine stepAt_value rfl rfl rfl (.slice a1 TL c1) w8 ?_ ⟨rfl, Below.refl _ _⟩
      have hc := (HR.out.below hG).cell0
      rw [HTL.out] at hc
      go_simp
    · have h25 : Wide 32 w8 0 (vals 25) (rv (rs t)) := hW 25 (by decide)
      have q23 := hW 23 (by decide)
      simp only at q23
      have q29 := hW 29 (by decide)
      simp only at q29
      rw [q23, q29]
      clear hW
      refine stepAt_call rfl rfl rfl 24 #[vals 25, .slice a1 TL c1] (by go_simp) ?_
      obtain ⟨ao, cap, g, off, e1, hl⟩ := wide_names h25 HG.out.rts
      rw [e1, rs_length]
      have hs := rsame_any w8 ao a1 cap c1 g g1 off o1 (rs t) (rs t) HG.out.rts HG.out.rts hl (HR.out.below hG).l1 (by rw [rs_length, HTL.out]; have := HM256.out; omega)
      rw [rs_length, HTL.out, sameR_self] at hs
      rw [HTL.out]
      exact hs.mono fun e w' ⟨h1, k, h2⟩ => ⟨_, h1, rfl, by rw [h2]; exact below_dN (Below.refl _ _) k⟩
    · have q23 := hW 23 (by decide)
      simp only at q23
      have q30 := hW 30 (by decide)
      simp only at q30
      rw [q23, q30]
      clear hW
      refine stepAt_value rfl rfl rfl (.bool false) w8 ?_ ⟨rfl, Below.refl _ _⟩
      go_simp
    · have q23 := hW 23 (by decide)
      simp only at q23
      have q31 := hW 31 (by decide)
      simp only at q31
      rw [q23, q31]
      clear hW
      refine stepAt_value rfl rfl rfl (.bool false) w8 ?_ ⟨rfl, Below.refl _ _⟩
      go_simp
  case fin =>
    intro vals w10 hG hV
    have q32 : vals 32 = .bool false := hV 32 (by omega)
    simp only [List.take_succ_cons, List.take_zero, List.drop_succ_cons, List.drop_zero, putAll, Act.put, List.setIfInBounds_toArray, List.set_cons_zero, List.set_cons_succ, Nat.reduceAdd]
    rw [q32]
    clear hV q32
    generalize vals 0 = x0
    generalize vals 1 = x1
    generalize vals 2 = x2
    generalize vals 3 = x3
    generalize vals 4 = x4
    generalize vals 5 = x5
    generalize vals 6 = x6
    generalize vals 7 = x7
    generalize vals 8 = x8
    generalize vals 9 = x9
    generalize vals 10 = x10
    generalize vals 11 = x11
    generalize vals 12 = x12
    generalize vals 13 = x13
    generalize vals 14 = x14
    generalize vals 15 = x15
    generalize vals 16 = x16
    generalize vals 17 = x17
    generalize vals 18 = x18
    generalize vals 19 = x19
    generalize vals 20 = x20
    generalize vals 21 = x21
    generalize vals 22 = x22
    generalize vals 23 = x23
    generalize vals 24 = x24
    generalize vals 25 = x25
    generalize vals 26 = x26
    generalize vals 27 = x27
    generalize vals 28 = x28
    generalize vals 29 = x29
    generalize vals 30 = x30
    generalize vals 31 = x31
    replace HT := Lib.hid (HT.out.below hG)
    replace HR := Lib.hid (HR.out.below hG)
    replace HB := Lib.hid (HB.out.trans (hG.mono HB.out.size))
    clear hG
    go_wp2_with fail
    go_loopw [5] (fun i wr => ∃ (k : Nat), k ≤ TL + 2 ∧ i = .int .i64 ((k : Int) - 1) ∧ Hid (Tre wr F b t most) ∧ Hid (RefS wr G m t most a1 a2 a3 c1 c2 c3 g1 g2 g3 o1 o2 o3) ∧ Hid (Below w.heap.size w wr)) (fun i _ => TL + 2 - (intOf i + 1).toNat)
    case atStart => exact ⟨0, Nat.zero_le _, rfl, HT, HR, HB⟩
    case round =>
      clear HT HR HB
      obtain ⟨k, hk, rfl, HT, HR, HB⟩ := hrel
      by_cases hk0 : k = 0
      · subst hk0
        rw [show (((0 : Nat) : Int) - 1) = -1 from rfl]
        have HNA := Lib.hid (nodeAt_neg (t := t) (show (-1 : Int) < 0 by omega))
        have HWI := Lib.hid (show wrap64 ((-1 : Int) + 1) = (-1 : Int) + 1 by unfold wrap64; omega)
        have HNO := Lib.hid (show nodeOr t (-1) = ((zero32, 0, -1) : Nd) ∧ (nodeAt t (-1)).isSome = false by rw [nodeOr, show nodeAt t (-1) = none from HNA.out]; exact ⟨rfl, rfl⟩)
        have HNL := Lib.hid (show ((zero32, 0, -1) : Nd).1.length = 32 by simp [zero32])
        have c0 := HR.out.cell0
        rw [HTL.out] at c0
        go_wp2_with fail
        refine (node_any wr F b t most (-1) HT.out).mono ?_
        rintro e w5 ⟨rfl, hbc⟩
        rw [HNO.out.1, HNO.out.2]
        replace HT := Lib.hid (HT.out.below hbc)
        replace HR := Lib.hid (HR.out.below hbc)
        replace HB := Lib.hid (HB.out.trans (hbc.mono HB.out.size))
        clear hbc c0
        have HZ := Lib.hid (blk_zero w5)
        have HZL := Lib.hid nd0_len
        have HX := Lib.hid (HZ.out.setRow (ndv ((zero32, 0, -1) : Nd)))
        have hbx : Below w5.heap.size w5 ((w5.alloc (.cells #[.int .u8 0, .int .u8 0, .int .u8 0, .int .u8 0, .int .u8 0, .int .u8 0, .int .u8 0, .int .u8 0, .int .u8 0, .int .u8 0, .int .u8 0, .int .u8 0, .int .u8 0, .int .u8 0, .int .u8 0, .int .u8 0, .int .u8 0, .int .u8 0, .int .u8 0, .int .u8 0, .int .u8 0, .int .u8 0, .int .u8 0, .int .u8 0, .int .u8 0, .int .u8 0, .int .u8 0, .int .u8 0, .int .u8 0, .int .u8 0, .int .u8 0, .int .u8 0, .int .i64 0, .int .i64 0] 51)).setRow w5.heap.size (ndv ((zero32, 0, -1) : Nd)).toArray) := below_row ((Below.refl _ w5).alloc (Nat.le_refl _) _) (Nat.le_refl _) _
        replace HT := Lib.hid (HT.out.below hbx)
        replace HR := Lib.hid (HR.out.below hbx)
        replace HB := Lib.hid (HB.out.trans (hbx.mono HB.out.size))
        clear hbx
        go_upto_region 7 with ((with_reducible refine wpList_store_node (.tmp 6) (.tmp 54) ?_ ?_ w5.heap.size nd0 ((zero32, 0, -1) : Nd) ?_ ?_ HZ.out HZL.out HNL.out ?_); rfl; rfl; rfl; rfl)
        generalize (w5.alloc (.cells #[.int .u8 0, .int .u8 0, .int .u8 0, .int .u8 0, .int .u8 0, .int .u8 0, .int .u8 0, .int .u8 0, .int .u8 0, .int .u8 0, .int .u8 0, .int .u8 0, .int .u8 0, .int .u8 0, .int .u8 0, .int .u8 0, .int .u8 0, .int .u8 0, .int .u8 0, .int .u8 0, .int .u8 0, .int .u8 0, .int .u8 0, .int .u8 0, .int .u8 0, .int .u8 0, .int .u8 0, .int .u8 0, .int .u8 0, .int .u8 0, .int .u8 0, .int .u8 0, .int .i64 0, .int .i64 0] 51)).setRow w5.heap.size (ndv ((zero32, 0, -1) : Nd)).toArray = w6 at HX HT HR HB ⊢
        generalize w5.heap.size = X at HX ⊢
        clear HZ HZL
        have c0 := HR.out.cell0
        rw [HTL.out] at c0
        go_wp2_with ((with_reducible refine wpList_load_node (.tmp 6) ?_ ?_ X 0 ((zero32, 0, -1) : Nd) ?_ HNL.out HX.out.nodeAll ?_); rfl; rfl; rfl)
        have h256 := HM256.out
        go_roundw
        case rel => exact ⟨1, by omega, by first | rfl | (rw [HWI.out]; congr 1; omega), HT, HR, HB⟩
        case measure => exact meas2 (TL + 2) _ _ (by first | rfl | (rw [HWI.out])) (by omega) (by omega)
      obtain ⟨j, rfl⟩ : ∃ j, k = j + 1 := ⟨k - 1, by omega⟩
      rw [show (((j + 1 : Nat) : Int) - 1) = (j : Int) by omega]
      have HWI := Lib.hid (show wrap64 ((j : Int) + 1) = (j : Int) + 1 by have := HM256.out; unfold wrap64; omega)
      have hjn : ¬ ((j : Int) < 0) := by omega
      by_cases hlt : j < TL
      · have HLTZ := Lib.hid (show (j : Int) < (TL : Int) by omega)
        have hle1 : (j : Int) ≤ (TL : Int) := by omega
        have hle2 : ¬ ((TL : Int) ≤ (j : Int)) := by omega
        obtain ⟨n, hn⟩ : ∃ n, t[j]? = some n := ⟨_, List.getElem?_eq_getElem (by rw [HTL.out]; exact hlt)⟩
        have HNK := Lib.hid hn
        have HNO := Lib.hid (nodeOr_some hn)
        have HNL := Lib.hid (show n.1.length = 32 from HG.out.nds n (List.mem_of_getElem? hn))
        have HPL := Lib.hid (HG.out.plc_at hn)
        have HA1 := Lib.hid (HR.out.l1.name HG.out.rts (rs_at hn)).1
        have HA2 := Lib.hid (HR.out.l2.addr (by rw [zs_length, HTL.out]; omega))
        have HLT := Lib.hid hlt
        clear hn hlt hk0 hk
        have c0 := HR.out.cell0
        rw [HTL.out] at c0
        go_wp2_with fail
        refine (node_any wr F b t most j HT.out).mono ?_
        rintro e w5 ⟨rfl, hbc⟩
        rw [HNO.out.1, HNO.out.2]
        replace HT := Lib.hid (HT.out.below hbc)
        replace HR := Lib.hid (HR.out.below hbc)
        replace HB := Lib.hid (HB.out.trans (hbc.mono HB.out.size))
        clear hbc c0
        have HZ := Lib.hid (blk_zero w5)
        have HZL := Lib.hid nd0_len
        have HX := Lib.hid (HZ.out.setRow (ndv n))
        have hbx : Below w5.heap.size w5 ((w5.alloc (.cells #[.int .u8 0, .int .u8 0, .int .u8 0, .int .u8 0, .int .u8 0, .int .u8 0, .int .u8 0, .int .u8 0, .int .u8 0, .int .u8 0, .int .u8 0, .int .u8 0, .int .u8 0, .int .u8 0, .int .u8 0, .int .u8 0, .int .u8 0, .int .u8 0, .int .u8 0, .int .u8 0, .int .u8 0, .int .u8 0, .int .u8 0, .int .u8 0, .int .u8 0, .int .u8 0, .int .u8 0, .int .u8 0, .int .u8 0, .int .u8 0, .int .u8 0, .int .u8 0, .int .i64 0, .int .i64 0] 51)).setRow w5.heap.size (ndv n).toArray) := below_row ((Below.refl _ w5).alloc (Nat.le_refl _) _) (Nat.le_refl _) _
        replace HT := Lib.hid (HT.out.below hbx)
        replace HR := Lib.hid (HR.out.below hbx)
        replace HB := Lib.hid (HB.out.trans (hbx.mono HB.out.size))
        clear hbx
        go_upto_region 7 with ((with_reducible refine wpList_store_node (.tmp 6) (.tmp 54) ?_ ?_ w5.heap.size nd0 n ?_ ?_ HZ.out HZL.out HNL.out ?_); rfl; rfl; rfl; rfl)
        generalize (w5.alloc (.cells #[.int .u8 0, .int .u8 0, .int .u8 0, .int .u8 0, .int .u8 0, .int .u8 0, .int .u8 0, .int .u8 0, .int .u8 0, .int .u8 0, .int .u8 0, .int .u8 0, .int .u8 0, .int .u8 0, .int .u8 0, .int .u8 0, .int .u8 0, .int .u8 0, .int .u8 0, .int .u8 0, .int .u8 0, .int .u8 0, .int .u8 0, .int .u8 0, .int .u8 0, .int .u8 0, .int .u8 0, .int .u8 0, .int .u8 0, .int .u8 0, .int .u8 0, .int .u8 0, .int .i64 0, .int .i64 0] 51)).setRow w5.heap.size (ndv n).toArray = w6 at HX HT HR HB ⊢
        generalize w5.heap.size = X at HX ⊢
        clear HZ HZL
        have c0 := HR.out.cell0
        rw [HTL.out] at c0
        go_wp2_with fail
        refine wp_region_free (P := Try.prog) 42 (fun w' => Below w6.heap.size w6 w') (fun oq v w' => match oq with
            | 0 => v = .bool true
            | 1 => v = .bool false
            | 2 => v = .bool false
            | 3 => v = .pointer (some ⟨X, 0, none⟩)
            | 4 => v = .agg (bv n.1).toArray
            | 5 => v = .pointer (some ⟨m, 0, none⟩)
            | 6 => v = .pointer (some ⟨m, 0, none⟩)
            | 7 => v = .pointer (some ⟨m, 0, none⟩)
            | 8 => v = .slice a1 TL c1
            | 9 => v = .int .i64 (j : Int)
            | 10 => v = .pointer (some ⟨g1, o1 + j * 32, none⟩)
            | 11 => v = .agg (bv n.1).toArray
            | 12 => v = .bool false
            | 13 => v = .bool false
            | 14 => v = .bool false
            | 15 => v = .pointer (some ⟨X, 32, none⟩)
            | 16 => v = .int .i64 n.2.1
            | 17 => v = .pointer (some ⟨m, 0, none⟩)
            | 18 => v = .pointer (some ⟨m, 0, none⟩)
            | 19 => v = .pointer (some ⟨m, 1, none⟩)
            | 20 => v = .slice a2 TL c2
            | 21 => v = .int .i64 (j : Int)
            | 22 => v = .pointer (some ⟨g2, o2 + j, none⟩)
            | 23 => v = .int .i64 n.2.1
            | 24 => v = .bool false
            | 25 => v = .bool false
            | 26 => v = .bool false
            | 27 => v = .pointer (some ⟨X, 33, none⟩)
            | 28 => v = .int .i64 n.2.2
            | 29 => v = .pointer (some ⟨m, 0, none⟩)
            | 30 => v = .int .i64 (j : Int)
            | 31 => v = .int .i64 n.2.2
            | 32 => v = .bool false
            | 33 => v = .bool false
            | 34 => v = .bool false
            | 35 => v = .pointer (some ⟨b, 0, none⟩)
            | 36 => v = .pointer (some ⟨X, 0, none⟩)
            | 37 => v = .agg (bv n.1).toArray
            | 38 => v = .int .i64 (j : Int)
            | 39 => v = .int .i64 (j : Int)
            | 40 => v = .bool false
            | 41 => v = .bool false
            | _ => True) (by kernel_rfl) (by kernel_rfl) (Below.refl _ _).drew ?gb ?vb ?steps ?fin
        case gb => exact fun a b h1 h2 => h1.trans (h2.mono h1.size)
        case vb =>
          intro oq v a b h hb
          match oq with
          | 0 => exact h
          | 1 => exact h
          | 2 => exact h
          | 3 => exact h
          | 4 => exact h
          | 5 => exact h
          | 6 => exact h
          | 7 => exact h
          | 8 => exact h
          | 9 => exact h
          | 10 => exact h
          | 11 => exact h
          | 12 => exact h
          | 13 => exact h
          | 14 => exact h
          | 15 => exact h
          | 16 => exact h
          | 17 => exact h
          | 18 => exact h
          | 19 => exact h
          | 20 => exact h
          | 21 => exact h
          | 22 => exact h
          | 23 => exact h
          | 24 => exact h
          | 25 => exact h
          | 26 => exact h
          | 27 => exact h
          | 28 => exact h
          | 29 => exact h
          | 30 => exact h
          | 31 => exact h
          | 32 => exact h
          | 33 => exact h
          | 34 => exact h
          | 35 => exact h
          | 36 => exact h
          | 37 => exact h
          | 38 => exact h
          | 39 => exact h
          | 40 => exact h
          | 41 => exact h
          | _ + 42 => trivial
        case steps =>
          intro vals
          simp only [List.take_succ_cons, List.take_zero, freeSteps, Act.put, List.setIfInBounds_toArray, List.set_cons_zero, List.set_cons_succ, Nat.reduceAdd]
          refine ⟨fun w8 hG hW => ?_, fun w8 hG hW => ?_, fun w8 hG hW => ?_, fun w8 hG hW => ?_, fun w8 hG hW => ?_, fun w8 hG hW => ?_, fun w8 hG hW => ?_, fun w8 hG hW => ?_, fun w8 hG hW => ?_, fun w8 hG hW => ?_, fun w8 hG hW => ?_, fun w8 hG hW => ?_, fun w8 hG hW => ?_, fun w8 hG hW => ?_, fun w8 hG hW => ?_, fun w8 hG hW => ?_, fun w8 hG hW => ?_, fun w8 hG hW => ?_, fun w8 hG hW => ?_, fun w8 hG hW => ?_, fun w8 hG hW => ?_, fun w8 hG hW => ?_, fun w8 hG hW => ?_, fun w8 hG hW => ?_, fun w8 hG hW => ?_, fun w8 hG hW => ?_, fun w8 hG hW => ?_, fun w8 hG hW => ?_, fun w8 hG hW => ?_, fun w8 hG hW => ?_, fun w8 hG hW => ?_, fun w8 hG hW => ?_, fun w8 hG hW => ?_, fun w8 hG hW => ?_, fun w8 hG hW => ?_, fun w8 hG hW => ?_, fun w8 hG hW => ?_, fun w8 hG hW => ?_, fun w8 hG hW => ?_, fun w8 hG hW => ?_, fun w8 hG hW => ?_, fun w8 hG hW => ?_, trivial⟩
          · clear hW
            refine stepAt_value rfl rfl rfl (.bool true) w8 ?_ ⟨rfl, Below.refl _ _⟩
            go_simp
          · have q0 := hW 0 (by decide)
            simp only at q0
            rw [q0]
            clear hW
            refine stepAt_value rfl rfl rfl (.bool false) w8 ?_ ⟨rfl, Below.refl _ _⟩
            go_simp
          · have q1 := hW 1 (by decide)
            simp only at q1
            rw [q1]
            clear hW
            refine stepAt_value rfl rfl rfl (.bool false) w8 ?_ ⟨rfl, Below.refl _ _⟩
            go_simp
          · have q2 := hW 2 (by decide)
            simp only at q2
            rw [q2]
            clear hW
            refine stepAt_value rfl rfl rfl (.pointer (some ⟨X, 0, none⟩)) w8 ?_ ⟨rfl, Below.refl _ _⟩
            go_simp
          · have q2 := hW 2 (by decide)
            simp only at q2
            have q3 := hW 3 (by decide)
            simp only at q3
            rw [q2, q3]
            clear hW
            exact stepAt_load_run rfl rfl rfl _ _ rfl _ _ rfl (run_load_root HNL.out (HX.out.below hG HX.out.lt).nodeName) ⟨rfl, Below.refl _ _⟩
          · have q2 := hW 2 (by decide)
            simp only at q2
            rw [q2]
            clear hW
            refine stepAt_value rfl rfl rfl (.pointer (some ⟨m, 0, none⟩)) w8 ?_ ⟨rfl, Below.refl _ _⟩
            go_simp
          · have q2 := hW 2 (by decide)
            simp only at q2
            have q5 := hW 5 (by decide)
            simp only at q5
            rw [q2, q5]
            clear hW
            refine stepAt_value rfl rfl rfl (.pointer (some ⟨m, 0, none⟩)) w8 ?_ ⟨rfl, Below.refl _ _⟩
            go_simp
          · have q2 := hW 2 (by decide)
            simp only at q2
            have q6 := hW 6 (by decide)
            simp only at q6
            rw [q2, q6]
            clear hW
            refine stepAt_value rfl rfl rfl (.pointer (some ⟨m, 0, none⟩)) w8 ?_ ⟨rfl, Below.refl _ _⟩
            go_simp
          · have q2 := hW 2 (by decide)
            simp only at q2
            have q7 := hW 7 (by decide)
            simp only at q7
            rw [q2, q7]
            clear hW
            refine stepAt_value rfl rfl rfl (.slice a1 TL c1) w8 ?_ ⟨rfl, Below.refl _ _⟩
            have hc := (HR.out.below hG).cell0
            rw [HTL.out] at hc
            go_simp
          · have q2 := hW 2 (by decide)
            simp only at q2
            rw [q2]
            clear hW
            refine stepAt_value rfl rfl rfl (.int .i64 (j : Int)) w8 ?_ ⟨rfl, Below.refl _ _⟩
            go_simp
          · have q2 := hW 2 (by decide)
            simp only at q2
            have q8 := hW 8 (by decide)
            simp only at q8
            have q9 := hW 9 (by decide)
            simp only at q9
            rw [q2, q8, q9]
            clear hW
            refine stepAt_value rfl rfl rfl (.pointer (some ⟨g1, o1 + j * 32, none⟩)) w8 ?_ ⟨rfl, Below.refl _ _⟩
            have ha := HA1.out
            have hlt := HLTZ.out
            go_simp
          · have q2 := hW 2 (by decide)
            simp only at q2
            have q10 := hW 10 (by decide)
            simp only at q10
            rw [q2, q10]
            clear hW
            exact stepAt_load_run rfl rfl rfl _ _ rfl _ _ rfl (run_load_root HNL.out (((HR.out.below hG).l1).name HG.out.rts (rs_at HNK.out)).2) ⟨rfl, Below.refl _ _⟩
          · have q2 := hW 2 (by decide)
            simp only at q2
            have q4 := hW 4 (by decide)
            simp only at q4
            have q11 := hW 11 (by decide)
            simp only at q11
            rw [q2, q4, q11]
            clear hW
            refine stepAt_value rfl rfl rfl (.bool false) w8 ?_ ⟨rfl, Below.refl _ _⟩
            have hnl := HNL.out
            have hnn : (n.1 == n.1) = true := beq_self_eq_true n.1
            go_simp
          · have q2 := hW 2 (by decide)
            simp only at q2
            have q12 := hW 12 (by decide)
            simp only at q12
            rw [q2, q12]
            clear hW
            refine stepAt_value rfl rfl rfl (.bool false) w8 ?_ ⟨rfl, Below.refl _ _⟩
            go_simp
          · have q13 := hW 13 (by decide)
            simp only at q13
            rw [q13]
            clear hW
            refine stepAt_value rfl rfl rfl (.bool false) w8 ?_ ⟨rfl, Below.refl _ _⟩
            go_simp
          · have q14 := hW 14 (by decide)
            simp only at q14
            rw [q14]
            clear hW
            refine stepAt_value rfl rfl rfl (.pointer (some ⟨X, 32, none⟩)) w8 ?_ ⟨rfl, Below.refl _ _⟩
            go_simp
          · have q14 := hW 14 (by decide)
            simp only at q14
            have q15 := hW 15 (by decide)
            simp only at q15
            rw [q14, q15]
            clear hW
            refine stepAt_value rfl rfl rfl (.int .i64 n.2.1) w8 ?_ ⟨rfl, Below.refl _ _⟩
            have hc := (HX.out.below hG HX.out.lt).nodeSlot HNL.out
            go_simp
          · have q14 := hW 14 (by decide)
            simp only at q14
            rw [q14]
            clear hW
            refine stepAt_value rfl rfl rfl (.pointer (some ⟨m, 0, none⟩)) w8 ?_ ⟨rfl, Below.refl _ _⟩
            go_simp
          · have q14 := hW 14 (by decide)
            simp only at q14
            have q17 := hW 17 (by decide)
            simp only at q17
            rw [q14, q17]
            clear hW
            refine stepAt_value rfl rfl rfl (.pointer (some ⟨m, 0, none⟩)) w8 ?_ ⟨rfl, Below.refl _ _⟩
            go_simp
          · have q14 := hW 14 (by decide)
            simp only at q14
            have q18 := hW 18 (by decide)
            simp only at q18
            rw [q14, q18]
            clear hW
            refine stepAt_value rfl rfl rfl (.pointer (some ⟨m, 1, none⟩)) w8 ?_ ⟨rfl, Below.refl _ _⟩
            go_simp
          · have q14 := hW 14 (by decide)
            simp only at q14
            have q19 := hW 19 (by decide)
            simp only at q19
            rw [q14, q19]
            clear hW
            refine stepAt_value rfl rfl rfl (.slice a2 TL c2) w8 ?_ ⟨rfl, Below.refl _ _⟩
            have hc := (HR.out.below hG).cell1
            rw [HTL.out] at hc
            go_simp
          · have q14 := hW 14 (by decide)
            simp only at q14
            rw [q14]
            clear hW
            refine stepAt_value rfl rfl rfl (.int .i64 (j : Int)) w8 ?_ ⟨rfl, Below.refl _ _⟩
            go_simp
          · have q14 := hW 14 (by decide)
            simp only at q14
            have q20 := hW 20 (by decide)
            simp only at q20
            have q21 := hW 21 (by decide)
            simp only at q21
            rw [q14, q20, q21]
            clear hW
            refine stepAt_value rfl rfl rfl (.pointer (some ⟨g2, o2 + j, none⟩)) w8 ?_ ⟨rfl, Below.refl _ _⟩
            have ha := HA2.out
            have hlt := HLTZ.out
            go_simp
          · have q14 := hW 14 (by decide)
            simp only at q14
            have q22 := hW 22 (by decide)
            simp only at q22
            rw [q14, q22]
            clear hW
            refine stepAt_value rfl rfl rfl (.int .i64 n.2.1) w8 ?_ ⟨rfl, Below.refl _ _⟩
            have hc := (HR.out.below hG).l2.cells j _ (zs_at HNK.out)
            go_simp
          · have q14 := hW 14 (by decide)
            simp only at q14
            have q16 := hW 16 (by decide)
            simp only at q16
            have q23 := hW 23 (by decide)
            simp only at q23
            rw [q14, q16, q23]
            clear hW
            refine stepAt_value rfl rfl rfl (.bool false) w8 ?_ ⟨rfl, Below.refl _ _⟩
            go_simp
          · have q14 := hW 14 (by decide)
            simp only at q14
            have q24 := hW 24 (by decide)
            simp only at q24
            rw [q14, q24]
            clear hW
            refine stepAt_value rfl rfl rfl (.bool false) w8 ?_ ⟨rfl, Below.refl _ _⟩
            go_simp
          · have q25 := hW 25 (by decide)
            simp only at q25
            rw [q25]
            clear hW
            refine stepAt_value rfl rfl rfl (.bool false) w8 ?_ ⟨rfl, Below.refl _ _⟩
            go_simp
          · have q26 := hW 26 (by decide)
            simp only at q26
            rw [q26]
            clear hW
            refine stepAt_value rfl rfl rfl (.pointer (some ⟨X, 33, none⟩)) w8 ?_ ⟨rfl, Below.refl _ _⟩
            go_simp
          · have q26 := hW 26 (by decide)
            simp only at q26
            have q27 := hW 27 (by decide)
            simp only at q27
            rw [q26, q27]
            clear hW
            refine stepAt_value rfl rfl rfl (.int .i64 n.2.2) w8 ?_ ⟨rfl, Below.refl _ _⟩
            have hc := (HX.out.below hG HX.out.lt).nodeParent HNL.out
            go_simp
          · have q26 := hW 26 (by decide)
            simp only at q26
            rw [q26]
            clear hW
            refine stepAt_value rfl rfl rfl (.pointer (some ⟨m, 0, none⟩)) w8 ?_ ⟨rfl, Below.refl _ _⟩
            go_simp
          · have q26 := hW 26 (by decide)
            simp only at q26
            rw [q26]
            clear hW
            refine stepAt_value rfl rfl rfl (.int .i64 (j : Int)) w8 ?_ ⟨rfl, Below.refl _ _⟩
            go_simp
          · have q26 := hW 26 (by decide)
            simp only at q26
            have q29 := hW 29 (by decide)
            simp only at q29
            have q30 := hW 30 (by decide)
            simp only at q30
            rw [q26, q29, q30]
            clear hW
            refine stepAt_call rfl rfl rfl 30 #[.pointer (some ⟨m, 0, none⟩), .int .i64 (j : Int)] (by go_simp) ((refup_any w8 G m t most j (HR.out.below hG).ref).mono fun e w' ⟨h1, h2⟩ => ⟨_, h1, by rw [HNO.out.1], h2⟩)
          · have q26 := hW 26 (by decide)
            simp only at q26
            have q28 := hW 28 (by decide)
            simp only at q28
            have q31 := hW 31 (by decide)
            simp only at q31
            rw [q26, q28, q31]
            clear hW
            refine stepAt_value rfl rfl rfl (.bool false) w8 ?_ ⟨rfl, Below.refl _ _⟩
            go_simp
          · have q26 := hW 26 (by decide)
            simp only at q26
            have q32 := hW 32 (by decide)
            simp only at q32
            rw [q26, q32]
            clear hW
            refine stepAt_value rfl rfl rfl (.bool false) w8 ?_ ⟨rfl, Below.refl _ _⟩
            go_simp
          · have q33 := hW 33 (by decide)
            simp only at q33
            rw [q33]
            clear hW
            refine stepAt_value rfl rfl rfl (.bool false) w8 ?_ ⟨rfl, Below.refl _ _⟩
            go_simp
          · have q34 := hW 34 (by decide)
            simp only at q34
            rw [q34]
            clear hW
            refine stepAt_value rfl rfl rfl (.pointer (some ⟨b, 0, none⟩)) w8 ?_ ⟨rfl, Below.refl _ _⟩
            go_simp
          · have q34 := hW 34 (by decide)
            simp only at q34
            rw [q34]
            clear hW
            refine stepAt_value rfl rfl rfl (.pointer (some ⟨X, 0, none⟩)) w8 ?_ ⟨rfl, Below.refl _ _⟩
            go_simp
          · have q34 := hW 34 (by decide)
            simp only at q34
            have q36 := hW 36 (by decide)
            simp only at q36
            rw [q34, q36]
            clear hW
            exact stepAt_load_run rfl rfl rfl _ _ rfl _ _ rfl (run_load_root HNL.out (HX.out.below hG HX.out.lt).nodeName) ⟨rfl, Below.refl _ _⟩
          · have q34 := hW 34 (by decide)
            simp only at q34
            have q35 := hW 35 (by decide)
            simp only at q35
            have q37 := hW 37 (by decide)
            simp only at q37
            rw [q34, q35, q37]
            clear hW
            refine stepAt_call rfl rfl rfl 11 #[.pointer (some ⟨b, 0, none⟩), .agg (bv n.1).toArray] (by go_simp) ((place_any w8 F b t most n.1 (HT.out.below hG) HNL.out).mono fun e w' ⟨h1, h2⟩ => ⟨_, h1, by rw [HPL.out], h2⟩)
          · have q34 := hW 34 (by decide)
            simp only at q34
            rw [q34]
            clear hW
            refine stepAt_value rfl rfl rfl (.int .i64 (j : Int)) w8 ?_ ⟨rfl, Below.refl _ _⟩
            go_simp
          · have q34 := hW 34 (by decide)
            simp only at q34
            have q38 := hW 38 (by decide)
            simp only at q38
            have q39 := hW 39 (by decide)
            simp only at q39
            rw [q34, q38, q39]
            clear hW
            refine stepAt_value rfl rfl rfl (.bool false) w8 ?_ ⟨rfl, Below.refl _ _⟩
            go_simp
          · have q34 := hW 34 (by decide)
            simp only at q34
            have q40 := hW 40 (by decide)
            simp only at q40
            rw [q34, q40]
            clear hW
            refine stepAt_value rfl rfl rfl (.bool false) w8 ?_ ⟨rfl, Below.refl _ _⟩
            go_simp
        case fin =>
          intro vals w10 hG hV
          have q41 : vals 41 = .bool false := hV 41 (by omega)
          simp only [List.take_succ_cons, List.take_zero, List.drop_succ_cons, List.drop_zero, putAll, Act.put, List.setIfInBounds_toArray, List.set_cons_zero, List.set_cons_succ, Nat.reduceAdd]
          rw [q41]
          clear hV q41
          generalize vals 0 = x0
          generalize vals 1 = x1
          generalize vals 2 = x2
          generalize vals 3 = x3
          generalize vals 4 = x4
          generalize vals 5 = x5
          generalize vals 6 = x6
          generalize vals 7 = x7
          generalize vals 8 = x8
          generalize vals 9 = x9
          generalize vals 10 = x10
          generalize vals 11 = x11
          generalize vals 12 = x12
          generalize vals 13 = x13
          generalize vals 14 = x14
          generalize vals 15 = x15
          generalize vals 16 = x16
          generalize vals 17 = x17
          generalize vals 18 = x18
          generalize vals 19 = x19
          generalize vals 20 = x20
          generalize vals 21 = x21
          generalize vals 22 = x22
          generalize vals 23 = x23
          generalize vals 24 = x24
          generalize vals 25 = x25
          generalize vals 26 = x26
          generalize vals 27 = x27
          generalize vals 28 = x28
          generalize vals 29 = x29
          generalize vals 30 = x30
          generalize vals 31 = x31
          generalize vals 32 = x32
          generalize vals 33 = x33
          generalize vals 34 = x34
          generalize vals 35 = x35
          generalize vals 36 = x36
          generalize vals 37 = x37
          generalize vals 38 = x38
          generalize vals 39 = x39
          generalize vals 40 = x40
          replace HT := Lib.hid (HT.out.below hG)
          replace HR := Lib.hid (HR.out.below hG)
          replace HB := Lib.hid (HB.out.trans (hG.mono HB.out.size))
          clear hG HX c0
          go_wp2_with fail
          have h256 := HM256.out
          have hlt := HLT.out
          go_roundw
          case rel => exact ⟨j + 2, by omega, by first | rfl | (rw [HWI.out]; congr 1; omega), HT, HR, HB⟩
          case measure => exact meas2 (TL + 2) _ _ (by first | rfl | (rw [HWI.out])) (by omega) (by omega)
      by_cases hje : j = TL
      · subst hje
        have HNA := Lib.hid (show nodeAt t (j : Int) = none by rw [nodeAt_nat]; exact List.getElem?_eq_none (by rw [HTL.out]; exact Nat.le_refl _))
        clear hlt hk hk0
        have HNO := Lib.hid (show nodeOr t j = ((zero32, 0, -1) : Nd) ∧ (nodeAt t j).isSome = false by rw [nodeOr, show nodeAt t j = none from HNA.out]; exact ⟨rfl, rfl⟩)
        have HNL := Lib.hid (show ((zero32, 0, -1) : Nd).1.length = 32 by simp [zero32])
        have c0 := HR.out.cell0
        rw [HTL.out] at c0
        go_wp2_with fail
        refine (node_any wr F b t most j HT.out).mono ?_
        rintro e w5 ⟨rfl, hbc⟩
        rw [HNO.out.1, HNO.out.2]
        replace HT := Lib.hid (HT.out.below hbc)
        replace HR := Lib.hid (HR.out.below hbc)
        replace HB := Lib.hid (HB.out.trans (hbc.mono HB.out.size))
        clear hbc c0
        have HZ := Lib.hid (blk_zero w5)
        have HZL := Lib.hid nd0_len
        have HX := Lib.hid (HZ.out.setRow (ndv ((zero32, 0, -1) : Nd)))
        have hbx : Below w5.heap.size w5 ((w5.alloc (.cells #[.int .u8 0, .int .u8 0, .int .u8 0, .int .u8 0, .int .u8 0, .int .u8 0, .int .u8 0, .int .u8 0, .int .u8 0, .int .u8 0, .int .u8 0, .int .u8 0, .int .u8 0, .int .u8 0, .int .u8 0, .int .u8 0, .int .u8 0, .int .u8 0, .int .u8 0, .int .u8 0, .int .u8 0, .int .u8 0, .int .u8 0, .int .u8 0, .int .u8 0, .int .u8 0, .int .u8 0, .int .u8 0, .int .u8 0, .int .u8 0, .int .u8 0, .int .u8 0, .int .i64 0, .int .i64 0] 51)).setRow w5.heap.size (ndv ((zero32, 0, -1) : Nd)).toArray) := below_row ((Below.refl _ w5).alloc (Nat.le_refl _) _) (Nat.le_refl _) _
        replace HT := Lib.hid (HT.out.below hbx)
        replace HR := Lib.hid (HR.out.below hbx)
        replace HB := Lib.hid (HB.out.trans (hbx.mono HB.out.size))
        clear hbx
        go_upto_region 7 with ((with_reducible refine wpList_store_node (.tmp 6) (.tmp 54) ?_ ?_ w5.heap.size nd0 ((zero32, 0, -1) : Nd) ?_ ?_ HZ.out HZL.out HNL.out ?_); rfl; rfl; rfl; rfl)
        generalize (w5.alloc (.cells #[.int .u8 0, .int .u8 0, .int .u8 0, .int .u8 0, .int .u8 0, .int .u8 0, .int .u8 0, .int .u8 0, .int .u8 0, .int .u8 0, .int .u8 0, .int .u8 0, .int .u8 0, .int .u8 0, .int .u8 0, .int .u8 0, .int .u8 0, .int .u8 0, .int .u8 0, .int .u8 0, .int .u8 0, .int .u8 0, .int .u8 0, .int .u8 0, .int .u8 0, .int .u8 0, .int .u8 0, .int .u8 0, .int .u8 0, .int .u8 0, .int .u8 0, .int .u8 0, .int .i64 0, .int .i64 0] 51)).setRow w5.heap.size (ndv ((zero32, 0, -1) : Nd)).toArray = w6 at HX HT HR HB ⊢
        generalize w5.heap.size = X at HX ⊢
        clear HZ HZL
        have c0 := HR.out.cell0
        rw [HTL.out] at c0
        go_wp2_with ((with_reducible refine wpList_load_node (.tmp 6) ?_ ?_ X 0 ((zero32, 0, -1) : Nd) ?_ HNL.out HX.out.nodeAll ?_); rfl; rfl; rfl)
        have h256 := HM256.out
        go_roundw
        case rel => exact ⟨j + 2, by omega, by first | rfl | (rw [HWI.out]; congr 1; omega), HT, HR, HB⟩
        case measure => exact meas2 (j + 2) _ _ (by first | rfl | (rw [HWI.out])) (by omega) (by omega)
      have hgt : ¬ ((j : Int) ≤ (TL : Int)) := by omega
      have c0 := HR.out.cell0
      rw [HTL.out] at c0
      go_wp2_with fail
      go_ret
      exact ⟨rfl, HB.out⟩
end Go.Proofs.Ytmchjmcdlapegaa
