/-
  The texts TabTake, one behind the other.
-/
import Derived.Test.YtoinigcfcjllcaaOnceM7
/-
  The program's Take: what becomes of a vote.
-/
namespace Go.Proofs.Ytoinigcfcjllcaa
open Go Go.RowKit
set_option maxRecDepth 10000

theorem again_any (w : World) (b m g : Nat) (t : Tb) (k : Nat) (r q : List UInt8) (h : TP w b m g t) (hk : k < t.n) (hr : r.length = 32) (hq : q.length = 32) :
    Calls Try.prog 25 #[.pointer (some ⟨g, k * 36, none⟩), .agg (bv r).toArray, .agg (bv q).toArray] w fun e w' => (r = q ∧ e = .returned (.int .i64 1) ∧ TP w' b m g t ∧ Kept [g] w w') ∨ (r ≠ q ∧ e = .returned (.int .i64 2) ∧ TP w' b m g (setO t (k : Int)) ∧ Kept [g] w w') := by
  have hb1 : Below w.heap.size w (w.alloc (.cells (bv r).toArray 27)) := (Below.refl _ w).alloc (Nat.le_refl _) _
  have hb2 : Below w.heap.size w ((w.alloc (.cells (bv r).toArray 27)).alloc (.cells (bv q).toArray 27)) := hb1.alloc (by simp) _
  have hx := Blk.new w 27 (bv r).toArray
  have hy := Blk.new (w.alloc (.cells (bv r).toArray 27)) 27 (bv q).toArray
  rw [List.toList_toArray] at hx hy
  rw [show (w.alloc (.cells (bv r).toArray 27)).heap.size = w.heap.size + 1 by simp] at hy
  have HX := Lib.hid (hx.alloc (.cells (bv q).toArray 27)).rootAll
  have HY := Lib.hid hy.rootAll
  have HT := Lib.hid (h.below hb2)
  have HB := Lib.hid hb2
  obtain ⟨X, hX⟩ : ∃ X, X = w.heap.size := ⟨_, rfl⟩
  obtain ⟨Y, hY⟩ : ∃ Y, Y = w.heap.size + 1 := ⟨_, rfl⟩
  rw [← hX] at HX
  rw [← hY] at HY
  clear h hb1 hb2 hx hy
  obtain ⟨E, hE⟩ : ∃ E, E = (r == q) := ⟨_, rfl⟩
  have HE := Lib.hid hE
  go_enter Try.func25, Try.ntmps25
  go_upto_region 1 with fail
  rw [← hY, ← hX]
  generalize (w.alloc (.cells (bv r).toArray 27)).alloc (.cells (bv q).toArray 27) = w1 at HX HY HT HB ⊢
  clear hX hY
  have hrq := fun W => root_eqW W r q hr hq
  rw [← hE] at hrq
  clear hE
  cases E with
  | true =>
    have HQ := Lib.hid (beq_iff_eq.1 HE.out.symm)
    clear HE
    go_wp2_with (first
      | ((with_reducible refine wpList_load_name (.tmp 4) ?_ ?_ X 0 r ?_ hr HX.out ?_); rfl; rfl; rfl)
      | ((with_reducible refine wpList_load_name (.tmp 5) ?_ ?_ Y 0 q ?_ hq HY.out ?_); rfl; rfl; rfl))
    go_ret
    exact .inl ⟨HQ.out, rfl, HT.out, Kept.of_below _ HB.out⟩
  | false =>
    have HQ := Lib.hid (beq_eq_false_iff_ne.1 HE.out.symm)
    clear HE
    have HO := Lib.hid (HT.out.doOut hk)
    have c1 := HT.out.out hk
    have f1 := HT.out.vot.free (k * 36 + 35)
    go_wp2_with (first
      | ((with_reducible refine wpList_load_name (.tmp 4) ?_ ?_ X 0 r ?_ hr HX.out ?_); rfl; rfl; rfl)
      | ((with_reducible refine wpList_load_name (.tmp 5) ?_ ?_ Y 0 q ?_ hq HY.out ?_); rfl; rfl; rfl))
    go_ret
    exact .inr ⟨HQ.out, rfl, HO.out.1, (Kept.of_below _ HB.out).trans HO.out.2 (NewF.refl _ _)⟩
theorem built_term (a e : Int) : Try.prog.built 59 [(0, .int .i64 a), (1, .int .i64 e)] = some (tml a e).toArray := by kernel_rfl
theorem zero_term (w : World) : Blk (w.alloc (.cells #[.int .i64 0, .int .i64 0] 59)) w.heap.size 59 (tml 0 0) := Blk.new w 59 #[.int .i64 0, .int .i64 0]
theorem zero_root (w : World) : Blk (w.alloc (.cells #[.int .u8 0, .int .u8 0, .int .u8 0, .int .u8 0, .int .u8 0, .int .u8 0, .int .u8 0, .int .u8 0, .int .u8 0, .int .u8 0, .int .u8 0, .int .u8 0, .int .u8 0, .int .u8 0, .int .u8 0, .int .u8 0, .int .u8 0, .int .u8 0, .int .u8 0, .int .u8 0, .int .u8 0, .int .u8 0, .int .u8 0, .int .u8 0, .int .u8 0, .int .u8 0, .int .u8 0, .int .u8 0, .int .u8 0, .int .u8 0, .int .u8 0, .int .u8 0] 27)) w.heap.size 27 (bv zero32) := Blk.new w _ (bv zero32).toArray
theorem run_store_name {w : World} {g : Nat} {r q : List UInt8} (hg : Blk w g 27 (bv r)) (hr : r.length = 32) (hq : q.length = 32) :
    (Instr.storeAt 27 (.pointer (some ⟨g, 0, none⟩)) (.agg (bv q).toArray)).run Try.prog w = .ok () (w.setRow g (bv q).toArray) := by
  have := run_storeAt_part (off := 0) hg 27 (rsize hq) (by rw [bv_length, bv_length]; omega) (bv_one q)
  rwa [splice_all _ _ (by rw [bv_length, bv_length, hr, hq])] at this
def nameOf (o : Option Fs) : List UInt8 := match o with | some f => f.g | none => zero32
theorem nameOf_len {t : Tb} (h : FitT t) (a e : Int) : (nameOf (fstT t.fs a e)).length = 32 := by
  unfold nameOf
  cases hf : fstT t.fs a e with
  | none => simp [zero32]
  | some f => exact h.fs.g f (fstT_some hf).1
theorem toNat_cast (k : Nat) : ((k : Int)).toNat = k := rfl
set_option maxHeartbeats 16000000 in
theorem take_any (w : World) (b m g : Nat) (t : Tb) (vo : Vt) (h : TP w b m g t) (hv : vo.g.length = 32) (hn : t.fs.length ≤ 1000) :
    Calls Try.prog 13 #[.pointer (some ⟨b, 0, none⟩), .agg (vcl vo).toArray] w fun e w' => e = .returned (.int .i64 (takeT t vo).1) ∧ TP w' b m g (takeT t vo).2 ∧ Kept [b, m, g] w w' := by
  have hb1 : Below w.heap.size w (w.alloc (.cells (vcl vo).toArray 29)) := (Below.refl _ w).alloc (Nat.le_refl _) _
  have hx := Blk.new w 29 (vcl vo).toArray
  rw [List.toList_toArray] at hx
  obtain ⟨X, hX⟩ : ∃ X, X = w.heap.size := ⟨_, rfl⟩
  rw [← hX] at hx
  have HX := Lib.hid hx
  have HT := Lib.hid (h.below hb1)
  have HB := Lib.hid hb1
  have HN := Lib.hid hn
  have HLW := Lib.hid h.low
  have HXL := Lib.hid (show w.heap.size ≤ X by omega)
  clear h hb1 hx hn
  go_enter Try.func13, Try.ntmps13
  go_upto_region 1 with fail
  rw [← hX]
  generalize w.alloc (.cells (vcl vo).toArray 29) = w1 at HX HT HB ⊢
  clear hX
  have c0 := HX.out.cell 0
  have c1 := HX.out.cell 1
  simp only [vcl, List.getElem?_cons_zero, List.getElem?_cons_succ] at c0 c1
  have HC := Lib.hid (has_any w1 b m g t vo.w HT.out)
  have HC2 := Lib.hid (within_any w1 vo.s 0 1073741824)
  cases hi : isW t vo.w with
  | false =>
    have HNO := Lib.hid (show takeT t vo = (5, t) by unfold takeT; rw [if_neg (fun hok => by unfold isW at hi; rw [decide_eq_true ⟨hok.1, hok.2.1⟩] at hi; cases hi)])
    rw [hi] at HC
    clear hi
    go_wp2_with fail
    refine HC.out.mono ?_
    rintro e w1 ⟨rfl, rfl⟩
    go_wp2_with fail
    go_ret
    exact ⟨by rw [HNO.out]; rfl, by rw [HNO.out]; exact HT.out, Kept.of_below _ HB.out⟩
  | true =>
    obtain ⟨k, hkw, hk⟩ := isW_nat hi
    rw [hi] at HC
    by_cases hs : 0 ≤ vo.s ∧ vo.s ≤ 1073741824
    · rw [decide_eq_true hs] at HC2
      have HOK := Lib.hid (show okV t vo from ⟨by omega, by omega, hs.1, hs.2⟩)
      have HKW := Lib.hid hkw
      rw [hkw] at c0 HC
      clear hi hs hkw
      go_wp2_with fail
      refine HC.out.mono ?_
      rintro e w1 ⟨rfl, rfl⟩
      go_wp2_with fail
      refine HC2.out.mono ?_
      rintro e w1 ⟨rfl, rfl⟩
      clear HC HC2
      have HKN := Lib.hid (show (k : Int) < (t.n : Int) by omega)
      go_upto_region 3 with fail
      clear c0 c1
      refine wp_region_free (P := Try.prog) 8 (fun w' => Below w1.heap.size w1 w') (fun oq v w' => match oq with
          | 0 => v = .pointer (some ⟨b, 0, none⟩)
          | 1 => v = .pointer (some ⟨b, 0, none⟩)
          | 2 => v = .pointer (some ⟨b, 1, none⟩)
          | 3 => v = .slice (some ⟨g, 0, none⟩) t.n t.n
          | 4 => v = .pointer (some ⟨X, 0, none⟩)
          | 5 => v = .int .i64 (k : Int)
          | 6 => v = .pointer (some ⟨g, k * 36, none⟩)
          | 7 => v = .pointer (some ⟨g, k * 36, none⟩)
          | _ => True) (by kernel_rfl) (by kernel_rfl) (Below.refl _ _).drew ?gb ?vb ?steps ?fin
      case gb => exact fun a b h1 h2 => h1.trans (h2.mono h1.size)
      case vb =>
        intro oq v a b h hb
        match oq with
        | 0 => exact h
        | 1 => exact h
        | 2 => exact h
        | 3 => exact h
        | 4 => exact h
        | 5 => exact h
        | 6 => exact h
        | 7 => exact h
        | _ + 8 => trivial
      case steps =>
        intro vals
        simp only [List.take_succ_cons, List.take_zero, freeSteps, Act.put, List.setIfInBounds_toArray, List.set_cons_zero, List.set_cons_succ, Nat.reduceAdd]
        refine ⟨fun w8 hG hW => ?_, fun w8 hG hW => ?_, fun w8 hG hW => ?_, fun w8 hG hW => ?_, fun w8 hG hW => ?_, fun w8 hG hW => ?_, fun w8 hG hW => ?_, fun w8 hG hW => ?_, trivial⟩
        · clear hW
          refine stepAt_value rfl rfl rfl (.pointer (some ⟨b, 0, none⟩)) w8 ?_ ⟨rfl, Below.refl _ _⟩
          go_simp
        · have q0 := hW 0 (by decide)
          simp only at q0
          rw [q0]
          clear hW
          refine stepAt_value rfl rfl rfl (.pointer (some ⟨b, 0, none⟩)) w8 ?_ ⟨rfl, Below.refl _ _⟩
          go_simp
        · have q1 := hW 1 (by decide)
          simp only at q1
          rw [q1]
          clear hW
          refine stepAt_value rfl rfl rfl (.pointer (some ⟨b, 1, none⟩)) w8 ?_ ⟨rfl, Below.refl _ _⟩
          go_simp
        · have q2 := hW 2 (by decide)
          simp only at q2
          rw [q2]
          clear hW
          refine stepAt_value rfl rfl rfl (.slice (some ⟨g, 0, none⟩) t.n t.n) w8 ?_ ⟨rfl, Below.refl _ _⟩
          have cc := (HT.out.below hG).cell1
          go_simp
        · clear hW
          refine stepAt_value rfl rfl rfl (.pointer (some ⟨X, 0, none⟩)) w8 ?_ ⟨rfl, Below.refl _ _⟩
          go_simp
        · have q4 := hW 4 (by decide)
          simp only at q4
          rw [q4]
          clear hW
          refine stepAt_value rfl rfl rfl (.int .i64 (k : Int)) w8 ?_ ⟨rfl, Below.refl _ _⟩
          have cc := (HX.out.below hG HX.out.lt).cell 0
          simp only [vcl, List.getElem?_cons_zero] at cc
          rw [HKW.out] at cc
          go_simp
        · have q3 := hW 3 (by decide)
          simp only at q3
          have q5 := hW 5 (by decide)
          simp only at q5
          rw [q3, q5]
          clear hW
          refine stepAt_value rfl rfl rfl (.pointer (some ⟨g, k * 36, none⟩)) w8 ?_ ⟨rfl, Below.refl _ _⟩
          have hlt := HKN.out
          go_simp
        · have q6 := hW 6 (by decide)
          simp only at q6
          rw [q6]
          clear hW
          refine stepAt_value rfl rfl rfl (.pointer (some ⟨g, k * 36, none⟩)) w8 ?_ ⟨rfl, Below.refl _ _⟩
          go_simp
      case fin =>
        intro vals w2 hG hV
        have q7 := hV 7 (by omega)
        simp only at q7
        simp only [List.take_succ_cons, List.take_zero, List.drop_succ_cons, List.drop_zero, putAll, Act.put, List.setIfInBounds_toArray, List.set_cons_zero, List.set_cons_succ, Nat.reduceAdd]
        rw [q7]
        clear hV q7
        generalize vals 0 = y0
        generalize vals 1 = y1
        generalize vals 2 = y2
        generalize vals 3 = y3
        generalize vals 4 = y4
        generalize vals 5 = y5
        generalize vals 6 = y6
        replace HT := Lib.hid (HT.out.below hG)
        replace HX := Lib.hid (HX.out.below hG HX.out.lt)
        replace HB := Lib.hid (HB.out.trans (hG.mono HB.out.size))
        clear hG
        obtain ⟨O, hO⟩ : ∃ O, O = otN t k := ⟨_, rfl⟩
        have HOT := Lib.hid hO.symm
        have c35 := HT.out.out hk
        rw [← hO] at c35
        clear hO
        cases O with
        | true =>
          have HTK := Lib.hid (show takeT t vo = (4, t) by
            unfold takeT
            rw [if_pos HOK.out, if_pos (by unfold otT; rw [HKW.out]; exact HOT.out)])
          go_wp2_with fail
          go_ret
          exact ⟨by rw [HTK.out]; rfl, by rw [HTK.out]; exact HT.out, Kept.of_below _ HB.out⟩
        | false =>
          go_upto_region 6 with fail
          clear c35
          obtain ⟨w3, hw3⟩ : ∃ w3, w3 = w2 := ⟨_, rfl⟩
          rw [← hw3] at HT HX HB ⊢
          clear hw3
          have HER := Lib.hid (ep_range HT.out.fit.gd.k1 HOK.out.2.2.1 HOK.out.2.2.2)
          have HSI := Lib.hid (show I6 vo.s by have h1 := HOK.out.2.2.1; have h2 := HOK.out.2.2.2; unfold I6; omega)
          have HK6 := Lib.hid (show I6 (k : Int) by have := HT.out.fit.gd.n2; unfold I6; omega)
          have HE6 := Lib.hid (show I6 (ep t.k vo.s) by have := HER.out; unfold I6; omega)
          refine wp_region_free (P := Try.prog) 8 (fun w' => Below w3.heap.size w3 w') (fun oq v w' => match oq with
              | 0 => v = .pointer (some ⟨X, 0, none⟩)
              | 1 => v = .int .i64 (k : Int)
              | 2 => v = .pointer (some ⟨b, 0, none⟩)
              | 3 => v = .pointer (some ⟨X, 1, none⟩)
              | 4 => v = .int .i64 vo.s
              | 5 => v = .int .i64 (ep t.k vo.s)
              | 6 => v = tmv (k : Int) (ep t.k vo.s)
              | 7 => ∃ Y, v = .pointer (some ⟨Y, 0, none⟩) ∧ w.heap.size ≤ Y ∧ Blk w' Y 59 (tml 0 0)
              | _ => True) (by kernel_rfl) (by kernel_rfl) (Below.refl _ _).drew ?gb ?vb ?steps ?fin
          case gb => exact fun a b h1 h2 => h1.trans (h2.mono h1.size)
          case vb =>
            intro oq v a b h hb
            match oq with
            | 0 => exact h
            | 1 => exact h
            | 2 => exact h
            | 3 => exact h
            | 4 => exact h
            | 5 => exact h
            | 6 => exact h
            | 7 => (obtain ⟨Y, h1, h2, h3⟩ := h; exact ⟨Y, h1, h2, h3.below hb h3.lt⟩)
            | _ + 8 => trivial
          case steps =>
            intro vals
            simp only [List.take_succ_cons, List.take_zero, freeSteps, Act.put, List.setIfInBounds_toArray, List.set_cons_zero, List.set_cons_succ, Nat.reduceAdd]
            refine ⟨fun w8 hG hW => ?_, fun w8 hG hW => ?_, fun w8 hG hW => ?_, fun w8 hG hW => ?_, fun w8 hG hW => ?_, fun w8 hG hW => ?_, fun w8 hG hW => ?_, fun w8 hG hW => ?_, trivial⟩
            · clear hW
              refine stepAt_value rfl rfl rfl (.pointer (some ⟨X, 0, none⟩)) w8 ?_ ⟨rfl, Below.refl _ _⟩
              go_simp
            · have q0 := hW 0 (by decide)
              simp only at q0
              rw [q0]
              clear hW
              refine stepAt_value rfl rfl rfl (.int .i64 (k : Int)) w8 ?_ ⟨rfl, Below.refl _ _⟩
              have cc := (HX.out.below hG HX.out.lt).cell 0
              simp only [vcl, List.getElem?_cons_zero] at cc
              rw [HKW.out] at cc
              go_simp
            · clear hW
              refine stepAt_value rfl rfl rfl (.pointer (some ⟨b, 0, none⟩)) w8 ?_ ⟨rfl, Below.refl _ _⟩
              go_simp
            · clear hW
              refine stepAt_value rfl rfl rfl (.pointer (some ⟨X, 1, none⟩)) w8 ?_ ⟨rfl, Below.refl _ _⟩
              go_simp
            · have q3 := hW 3 (by decide)
              simp only at q3
              rw [q3]
              clear hW
              refine stepAt_value rfl rfl rfl (.int .i64 vo.s) w8 ?_ ⟨rfl, Below.refl _ _⟩
              have cc := (HX.out.below hG HX.out.lt).cell 1
              simp only [vcl, List.getElem?_cons_zero, List.getElem?_cons_succ] at cc
              go_simp
            · have q2 := hW 2 (by decide)
              simp only at q2
              have q4 := hW 4 (by decide)
              simp only at q4
              rw [q2, q4]
              clear hW
              refine stepAt_call rfl rfl rfl 22 #[.pointer (some ⟨b, 0, none⟩), .int .i64 vo.s] (by go_simp) ((epoch_any w8 b m g t vo.s (HT.out.below hG) HSI.out).mono fun e w' ⟨h1, h2⟩ => ⟨_, h1, rfl, by rw [h2]; exact Below.refl _ _⟩)
            · have q1 := hW 1 (by decide)
              simp only at q1
              have q5 := hW 5 (by decide)
              simp only at q5
              rw [q1, q5]
              clear hW
              refine stepAt_build rfl rfl rfl 59 _ rfl (tml (k : Int) (ep t.k vo.s)).toArray ?_ ⟨rfl, Below.refl _ _⟩
              simp only [List.map_toArray, List.map_cons, List.map_nil]
              exact built_term _ _
            · clear hW
              refine stepAt_value rfl rfl rfl (.pointer (some ⟨w8.heap.size, 0, none⟩)) (w8.alloc (.cells #[.int .i64 0, .int .i64 0] 59)) (by go_simp) ⟨⟨_, rfl, Nat.le_trans HB.out.size hG.size, zero_term w8⟩, (Below.refl _ _).alloc (Nat.le_refl _) _⟩
          case fin =>
            intro vals w4 hG hV
            obtain ⟨Y, q7, hYL, hY⟩ := hV 7 (by omega)
            have q6 := hV 6 (by omega)
            simp only at q6
            simp only [List.take_succ_cons, List.take_zero, List.drop_succ_cons, List.drop_zero, putAll, Act.put, List.setIfInBounds_toArray, List.set_cons_zero, List.set_cons_succ, Nat.reduceAdd]
            rw [q6, q7]
            clear hV q6 q7
            generalize vals 0 = y0
            generalize vals 1 = y1
            generalize vals 2 = y2
            generalize vals 3 = y3
            generalize vals 4 = y4
            generalize vals 5 = y5
            replace HT := Lib.hid (HT.out.below hG)
            replace HX := Lib.hid (HX.out.below hG HX.out.lt)
            replace HB := Lib.hid (HB.out.trans (hG.mono HB.out.size))
            clear hG
            have HY0 := Lib.hid hY
            have HYL := Lib.hid hYL
            clear hY hYL
            have HYA := Lib.hid (show Away [b, m, g] [Y] from fun x hx hm => by have := HLW.out x hx; have := HYL.out; simp at hm; omega)
            have HYX := Lib.hid (show Away [b, m, g] [X] from fun x hx hm => by have := HLW.out x hx; have := HXL.out; simp at hm; omega)
            go_upto_region 7 with ((with_reducible refine wpList_store_term (.tmp 6) (.tmp 37) ?_ ?_ Y 0 0 (k : Int) (ep t.k vo.s) ?_ ?_ HY0.out ?_); rfl; rfl; rfl; rfl)
            try simp only [Act.put]
            have HKY := Lib.hid (show Kept [Y] w4 (w4.setRow Y (tml (k : Int) (ep t.k vo.s)).toArray) from (Kept.refl _ _).setRow (.inl (by simp)) _)
            have HY := Lib.hid (HY0.out.setRow (tml (k : Int) (ep t.k vo.s)))
            have HXY := Lib.hid (show X ≠ Y from fun e => by subst e; have h1 := HX.out; have h2 := HY0.out; unfold Blk at h1 h2; rw [h1] at h2; simp at h2)
            replace HX := Lib.hid (HX.out.setRow_other (tml (k : Int) (ep t.k vo.s)).toArray HXY.out)
            replace HT := Lib.hid (HT.out.keep HKY.out HYA.out)
            replace HB := Lib.hid (HB.out.trans (HKY.out.below (B := w.heap.size) HB.out.size (fun x hx => by simp at hx; rw [hx]; exact HYL.out)))
            clear HKY HY0
            generalize w4.setRow Y (tml (k : Int) (ep t.k vo.s)).toArray = w5 at HT HX HB HY ⊢
            have HOT2 := HOT
            have HOT := Lib.hid (show otT t (k : Int) = false from HOT2.out)
            clear HOT2
            cases hff : fstT t.fs (k : Int) (ep t.k vo.s) with
            | some f =>
              have HFF := Lib.hid hff
              have HRL := Lib.hid (HT.out.fit.fs.g f (fstT_some hff).1)
              have HR0 := Lib.hid (show nameOf (fstT t.fs (k : Int) (ep t.k vo.s)) = f.g ∧ (fstT t.fs (k : Int) (ep t.k vo.s)).isSome = true by rw [hff]; exact ⟨rfl, rfl⟩)
              clear hff
              refine wp_region_freeT (P := Try.prog) 11 (fun w' => Below w5.heap.size w5 w') (fun oq v w' => match oq with
                  | 0 => v = .pointer (some ⟨b, 0, none⟩)
                  | 1 => v = .pointer (some ⟨b, 0, none⟩)
                  | 2 => v = .pointer (some ⟨b, 2, none⟩)
                  | 3 => v = .map (some m)
                  | 4 => v = tmv (k : Int) (ep t.k vo.s)
                  | 5 => v = .tuple #[.agg (bv f.g).toArray, .bool true]
                  | 6 => v = .tuple #[.agg (bv f.g).toArray, .bool true]
                  | 7 => v = .agg (bv f.g).toArray
                  | 8 => v = .bool true
                  | 9 => ∃ g, v = .pointer (some ⟨g, 0, none⟩) ∧ w5.heap.size ≤ g ∧ Blk w' g 27 (bv zero32)
                  | 10 => True
                  | _ => True) (fun hh oq => match oq with
                  | 9 => hh 10
                  | _ => false) [(10, 0), (10, 1), (10, 2), (10, 3), (10, 4), (10, 5), (10, 6), (10, 7), (10, 9)] 10 (by decide) (fun s w' => ∃ g, s 9 = .pointer (some ⟨g, 0, none⟩) ∧ w5.heap.size ≤ g ∧ Blk w' g 27 (bv f.g)) (by kernel_rfl) (by kernel_rfl) (by kernel_rfl) (Below.refl _ _).drew ?gb ?vb ?db ?steps ?fin
              case gb => exact fun a b h1 h2 => h1.trans (h2.mono h1.size)
              case vb =>
                intro oq v a b h hb
                match oq with
                | 0 => exact h
                | 1 => exact h
                | 2 => exact h
                | 3 => exact h
                | 4 => exact h
                | 5 => exact h
                | 6 => exact h
                | 7 => exact h
                | 8 => exact h
                | 9 => (obtain ⟨g, h1, h2, h3⟩ := h; exact ⟨g, h1, h2, h3.below hb h3.lt⟩)
                | 10 => trivial
                | _ + 11 => trivial
              case db =>
                intro hh i oq h
                split at h
                · exact turnOn_of h
                · cases h
              case steps =>
                intro vals
                simp only [List.take_succ_cons, List.take_zero, freeStepsT, Act.put, List.setIfInBounds_toArray, List.set_cons_zero, List.set_cons_succ, Nat.reduceAdd]
                refine ⟨fun hh w8 hi hK hG hW hV => ?_, fun hh w8 hi hK hG hW hV => ?_, fun hh w8 hi hK hG hW hV => ?_, fun hh w8 hi hK hG hW hV => ?_, fun hh w8 hi hK hG hW hV => ?_, fun hh w8 hi hK hG hW hV => ?_, fun hh w8 hi hK hG hW hV => ?_, fun hh w8 hi hK hG hW hV => ?_, fun hh w8 hi hK hG hW hV => ?_, fun hh w8 hi hK hG hW hV => ?_, fun hh w8 hi hK hG hW hV => ?_, trivial⟩
                · refine stepS_early (by decide) (by decide) hK hi (stepS_of rfl ?_)
                  clear hW hV hK hi
                  refine stepAt_value rfl rfl rfl (.pointer (some ⟨b, 0, none⟩)) w8 ?_ ⟨rfl, .inl (Below.refl _ _)⟩
                  go_simp
                · refine stepS_early (by decide) (by decide) hK hi (stepS_of rfl ?_)
                  have q0 := hV 0 (hW 0 (by decide)) rfl
                  simp only at q0
                  rw [q0]
                  clear hW hV hK hi
                  refine stepAt_value rfl rfl rfl (.pointer (some ⟨b, 0, none⟩)) w8 ?_ ⟨rfl, .inl (Below.refl _ _)⟩
                  go_simp
                · refine stepS_early (by decide) (by decide) hK hi (stepS_of rfl ?_)
                  have q1 := hV 1 (hW 1 (by decide)) rfl
                  simp only at q1
                  rw [q1]
                  clear hW hV hK hi
                  refine stepAt_value rfl rfl rfl (.pointer (some ⟨b, 2, none⟩)) w8 ?_ ⟨rfl, .inl (Below.refl _ _)⟩
                  go_simp
                · refine stepS_early (by decide) (by decide) hK hi (stepS_of rfl ?_)
                  have q2 := hV 2 (hW 2 (by decide)) rfl
                  simp only at q2
                  rw [q2]
                  clear hW hV hK hi
                  refine stepAt_value rfl rfl rfl (.map (some m)) w8 ?_ ⟨rfl, .inl (Below.refl _ _)⟩
                  have cc := (HT.out.below hG).cell2
                  go_simp
                · refine stepS_early (by decide) (by decide) hK hi (stepS_of rfl ?_)
                  clear hW hV hK hi
                  refine stepAt_load_run rfl rfl rfl _ _ rfl _ _ rfl (run_load_term (HY.out.below hG HY.out.lt)) ⟨rfl, .inl (Below.refl _ _)⟩
                · refine stepS_early (by decide) (by decide) hK hi (stepS_of rfl ?_)
                  have q3 := hV 3 (hW 3 (by decide)) rfl
                  simp only at q3
                  have q4 := hV 4 (hW 4 (by decide)) rfl
                  simp only at q4
                  rw [q3, q4]
                  clear hW hV hK hi
                  refine stepAt_value rfl rfl rfl (.tuple #[.agg (bv f.g).toArray, .bool true]) w8 ?_ ⟨rfl, .inl (Below.refl _ _)⟩
                  have hlk := (HT.out.below hG).look HK6.out HE6.out
                  rw [HFF.out] at hlk
                  go_simp
                · refine stepS_early (by decide) (by decide) hK hi (stepS_of rfl ?_)
                  have q5 := hV 5 (hW 5 (by decide)) rfl
                  simp only at q5
                  rw [q5]
                  clear hW hV hK hi
                  refine stepAt_value rfl rfl rfl (.tuple #[.agg (bv f.g).toArray, .bool true]) w8 ?_ ⟨rfl, .inl (Below.refl _ _)⟩
                  go_simp
                · refine stepS_early (by decide) (by decide) hK hi (stepS_of rfl ?_)
                  have q6 := hV 6 (hW 6 (by decide)) rfl
                  simp only at q6
                  rw [q6]
                  clear hW hV hK hi
                  refine stepAt_value rfl rfl rfl (.agg (bv f.g).toArray) w8 ?_ ⟨rfl, .inl (Below.refl _ _)⟩
                  go_simp
                · refine stepS_late (by decide) (fun v ht => by
                    obtain ⟨g, h1, h2, h3⟩ := ht
                    exact ⟨g, by rw [turnTo_ne (by decide)]; exact h1, h2, h3⟩) (stepS_of rfl ?_)
                  have q6 := hV 6 (hW 6 (by decide)) rfl
                  simp only at q6
                  rw [q6]
                  clear hW hV hK hi
                  refine stepAt_value rfl rfl rfl (.bool true) w8 ?_ ⟨rfl, rfl⟩
                  go_simp
                · refine stepS_early (by decide) (by decide) hK hi (stepS_of rfl ?_)
                  clear hW hV hK hi
                  refine stepAt_value rfl rfl rfl (.pointer (some ⟨w8.heap.size, 0, none⟩)) (w8.alloc (.cells #[.int .u8 0, .int .u8 0, .int .u8 0, .int .u8 0, .int .u8 0, .int .u8 0, .int .u8 0, .int .u8 0, .int .u8 0, .int .u8 0, .int .u8 0, .int .u8 0, .int .u8 0, .int .u8 0, .int .u8 0, .int .u8 0, .int .u8 0, .int .u8 0, .int .u8 0, .int .u8 0, .int .u8 0, .int .u8 0, .int .u8 0, .int .u8 0, .int .u8 0, .int .u8 0, .int .u8 0, .int .u8 0, .int .u8 0, .int .u8 0, .int .u8 0, .int .u8 0] 27)) (by go_simp) ⟨⟨_, rfl, hG.size, zero_root w8⟩, .inl ((Below.refl _ _).alloc (Nat.le_refl _) _)⟩
                · obtain ⟨g, hg, hgb, hblk⟩ := hV 9 (hW 9 (by decide)) hi
                  have q7 := hV 7 (hW 7 (by decide)) rfl
                  simp only at q7
                  rw [hg, q7]
                  refine stepS_skip rfl rfl (execs_store rfl rfl rfl (run_store_name hblk (by simp [zero32]) HRL.out)) ⟨⟨trivial, .inr ⟨below_row hG hgb _, fun j hj hd => ?_⟩⟩, fun _ => ⟨g, by rw [turnTo_ne (by decide)]; exact hg, hgb, hblk.setRow (bv f.g)⟩, fun hm => absurd hm (by rw [hi]; simp)⟩
                  match j, hj, hd with
                  | 0, hj, _ => exact hV 0 hj rfl
                  | 1, hj, _ => exact hV 1 hj rfl
                  | 2, hj, _ => exact hV 2 hj rfl
                  | 3, hj, _ => exact hV 3 hj rfl
                  | 4, hj, _ => exact hV 4 hj rfl
                  | 5, hj, _ => exact hV 5 hj rfl
                  | 6, hj, _ => exact hV 6 hj rfl
                  | 7, hj, _ => exact hV 7 hj rfl
                  | 8, hj, _ => exact hV 8 hj rfl
                  | 9, _, hd => exact absurd hd (by simp [turnOn])
                  | 10, _, _ => trivial
                  | _ + 11, _, _ => trivial
              case fin =>
                intro hh vals w6 hall hG hV hT
                obtain ⟨Z, q9, hZL, hZ⟩ := hT
                have q8 := hV 8 (hall 8 (by omega)) rfl
                simp only at q8
                simp only [List.take_succ_cons, List.take_zero, List.drop_succ_cons, List.drop_zero, putAll, Act.put, List.setIfInBounds_toArray, List.set_cons_zero, List.set_cons_succ, Nat.reduceAdd]
                rw [q8, q9]
                clear hV q8 q9 hall
                generalize vals 0 = z0
                generalize vals 1 = z1
                generalize vals 2 = z2
                generalize vals 3 = z3
                generalize vals 4 = z4
                generalize vals 5 = z5
                generalize vals 6 = z6
                generalize vals 7 = z7
                replace HT := Lib.hid (HT.out.below hG)
                replace HX := Lib.hid (HX.out.below hG HX.out.lt)
                replace HY := Lib.hid (HY.out.below hG HY.out.lt)
                replace HB := Lib.hid (HB.out.trans (hG.mono HB.out.size))
                have HZ := Lib.hid hZ
                clear hG hZ hZL
                have HZA := Lib.hid HZ.out.rootAll
                have HVN := Lib.hid HX.out.voteName
                have HTK := Lib.hid (show (f.g = vo.g → takeT t vo = (1, t)) ∧ (f.g ≠ vo.g → takeT t vo = (2, setO t (k : Int))) by
                  have h1 := HOT.out
                  have h2 := HFF.out
                  refine ⟨fun hg => ?_, fun hg => ?_⟩
                  · unfold takeT
                    rw [if_pos HOK.out, HKW.out, if_neg (by rw [h1]; decide), h2]
                    exact if_pos hg
                  · unfold takeT
                    rw [if_pos HOK.out, HKW.out, if_neg (by rw [h1]; decide), h2]
                    exact if_neg hg)
                go_wp2_with (first
                  | ((with_reducible refine wpList_load_name (.tmp 7) ?_ ?_ Z 0 f.g ?_ HRL.out HZA.out ?_); rfl; rfl; rfl)
                  | ((with_reducible refine wpList_load_name (.tmp 50) ?_ ?_ X 2 vo.g ?_ hv HVN.out ?_); rfl; rfl; rfl))
                refine (again_any w6 b m g t k f.g vo.g HT.out hk HRL.out hv).mono ?_
                rintro e w7 (⟨hg, rfl, ht, hkk⟩ | ⟨hg, rfl, ht, hkk⟩)
                · have HE := Lib.hid (HTK.out.1 hg)
                  have HTN := Lib.hid ht
                  have HKN := Lib.hid ((Kept.of_below [b, m, g] HB.out).trans (hkk.mono (F' := [b, m, g]) (by simp)) (NewF.refl _ _))
                  clear hg ht hkk
                  go_wp2_with fail
                  go_ret
                  exact ⟨by rw [HE.out]; rfl, by rw [HE.out]; exact HTN.out, HKN.out⟩
                · have HE := Lib.hid (HTK.out.2 hg)
                  have HTN := Lib.hid ht
                  have HKN := Lib.hid ((Kept.of_below [b, m, g] HB.out).trans (hkk.mono (F' := [b, m, g]) (by simp)) (NewF.refl _ _))
                  clear hg ht hkk
                  go_wp2_with fail
                  go_ret
                  exact ⟨by rw [HE.out]; rfl, by rw [HE.out]; exact HTN.out, HKN.out⟩
            | none =>
              have HFF := Lib.hid hff
              have HRL := Lib.hid (show zero32.length = 32 by simp [zero32])
              have HR0 := Lib.hid (show nameOf (fstT t.fs (k : Int) (ep t.k vo.s)) = zero32 ∧ (fstT t.fs (k : Int) (ep t.k vo.s)).isSome = false by rw [hff]; exact ⟨rfl, rfl⟩)
              clear hff
              refine wp_region_freeT (P := Try.prog) 11 (fun w' => Below w5.heap.size w5 w') (fun oq v w' => match oq with
                  | 0 => v = .pointer (some ⟨b, 0, none⟩)
                  | 1 => v = .pointer (some ⟨b, 0, none⟩)
                  | 2 => v = .pointer (some ⟨b, 2, none⟩)
                  | 3 => v = .map (some m)
                  | 4 => v = tmv (k : Int) (ep t.k vo.s)
                  | 5 => v = .tuple #[.agg (bv zero32).toArray, .bool false]
                  | 6 => v = .tuple #[.agg (bv zero32).toArray, .bool false]
                  | 7 => v = .agg (bv zero32).toArray
                  | 8 => v = .bool false
                  | 9 => ∃ g, v = .pointer (some ⟨g, 0, none⟩) ∧ w5.heap.size ≤ g ∧ Blk w' g 27 (bv zero32)
                  | 10 => True
                  | _ => True) (fun hh oq => match oq with
                  | 9 => hh 10
                  | _ => false) [(10, 0), (10, 1), (10, 2), (10, 3), (10, 4), (10, 5), (10, 6), (10, 7), (10, 9)] 10 (by decide) (fun s w' => ∃ g, s 9 = .pointer (some ⟨g, 0, none⟩) ∧ w5.heap.size ≤ g ∧ Blk w' g 27 (bv zero32)) (by kernel_rfl) (by kernel_rfl) (by kernel_rfl) (Below.refl _ _).drew ?gb ?vb ?db ?steps ?fin
              case gb => exact fun a b h1 h2 => h1.trans (h2.mono h1.size)
              case vb =>
                intro oq v a b h hb
                match oq with
                | 0 => exact h
                | 1 => exact h
                | 2 => exact h
                | 3 => exact h
                | 4 => exact h
                | 5 => exact h
                | 6 => exact h
                | 7 => exact h
                | 8 => exact h
                | 9 => (obtain ⟨g, h1, h2, h3⟩ := h; exact ⟨g, h1, h2, h3.below hb h3.lt⟩)
                | 10 => trivial
                | _ + 11 => trivial
              case db =>
                intro hh i oq h
                split at h
                · exact turnOn_of h
                · cases h
              case steps =>
                intro vals
                simp only [List.take_succ_cons, List.take_zero, freeStepsT, Act.put, List.setIfInBounds_toArray, List.set_cons_zero, List.set_cons_succ, Nat.reduceAdd]
                refine ⟨fun hh w8 hi hK hG hW hV => ?_, fun hh w8 hi hK hG hW hV => ?_, fun hh w8 hi hK hG hW hV => ?_, fun hh w8 hi hK hG hW hV => ?_, fun hh w8 hi hK hG hW hV => ?_, fun hh w8 hi hK hG hW hV => ?_, fun hh w8 hi hK hG hW hV => ?_, fun hh w8 hi hK hG hW hV => ?_, fun hh w8 hi hK hG hW hV => ?_, fun hh w8 hi hK hG hW hV => ?_, fun hh w8 hi hK hG hW hV => ?_, trivial⟩
                · refine stepS_early (by decide) (by decide) hK hi (stepS_of rfl ?_)
                  clear hW hV hK hi
                  refine stepAt_value rfl rfl rfl (.pointer (some ⟨b, 0, none⟩)) w8 ?_ ⟨rfl, .inl (Below.refl _ _)⟩
                  go_simp
                · refine stepS_early (by decide) (by decide) hK hi (stepS_of rfl ?_)
                  have q0 := hV 0 (hW 0 (by decide)) rfl
                  simp only at q0
                  rw [q0]
                  clear hW hV hK hi
                  refine stepAt_value rfl rfl rfl (.pointer (some ⟨b, 0, none⟩)) w8 ?_ ⟨rfl, .inl (Below.refl _ _)⟩
                  go_simp
                · refine stepS_early (by decide) (by decide) hK hi (stepS_of rfl ?_)
                  have q1 := hV 1 (hW 1 (by decide)) rfl
                  simp only at q1
                  rw [q1]
                  clear hW hV hK hi
                  refine stepAt_value rfl rfl rfl (.pointer (some ⟨b, 2, none⟩)) w8 ?_ ⟨rfl, .inl (Below.refl _ _)⟩
                  go_simp
                · refine stepS_early (by decide) (by decide) hK hi (stepS_of rfl ?_)
                  have q2 := hV 2 (hW 2 (by decide)) rfl
                  simp only at q2
                  rw [q2]
                  clear hW hV hK hi
                  refine stepAt_value rfl rfl rfl (.map (some m)) w8 ?_ ⟨rfl, .inl (Below.refl _ _)⟩
                  have cc := (HT.out.below hG).cell2
                  go_simp
                · refine stepS_early (by decide) (by decide) hK hi (stepS_of rfl ?_)
                  clear hW hV hK hi
                  refine stepAt_load_run rfl rfl rfl _ _ rfl _ _ rfl (run_load_term (HY.out.below hG HY.out.lt)) ⟨rfl, .inl (Below.refl _ _)⟩
                · refine stepS_early (by decide) (by decide) hK hi (stepS_of rfl ?_)
                  have q3 := hV 3 (hW 3 (by decide)) rfl
                  simp only at q3
                  have q4 := hV 4 (hW 4 (by decide)) rfl
                  simp only at q4
                  rw [q3, q4]
                  clear hW hV hK hi
                  refine stepAt_value rfl rfl rfl (.tuple #[.agg (bv zero32).toArray, .bool false]) w8 ?_ ⟨rfl, .inl (Below.refl _ _)⟩
                  have hlk := (HT.out.below hG).look HK6.out HE6.out
                  rw [HFF.out] at hlk
                  go_simp
                · refine stepS_early (by decide) (by decide) hK hi (stepS_of rfl ?_)
                  have q5 := hV 5 (hW 5 (by decide)) rfl
                  simp only at q5
                  rw [q5]
                  clear hW hV hK hi
                  refine stepAt_value rfl rfl rfl (.tuple #[.agg (bv zero32).toArray, .bool false]) w8 ?_ ⟨rfl, .inl (Below.refl _ _)⟩
                  go_simp
                · refine stepS_early (by decide) (by decide) hK hi (stepS_of rfl ?_)
                  have q6 := hV 6 (hW 6 (by decide)) rfl
                  simp only at q6
                  rw [q6]
                  clear hW hV hK hi
                  refine stepAt_value rfl rfl rfl (.agg (bv zero32).toArray) w8 ?_ ⟨rfl, .inl (Below.refl _ _)⟩
                  go_simp
                · refine stepS_late (by decide) (fun v ht => by
                    obtain ⟨g, h1, h2, h3⟩ := ht
                    exact ⟨g, by rw [turnTo_ne (by decide)]; exact h1, h2, h3⟩) (stepS_of rfl ?_)
                  have q6 := hV 6 (hW 6 (by decide)) rfl
                  simp only at q6
                  rw [q6]
                  clear hW hV hK hi
                  refine stepAt_value rfl rfl rfl (.bool false) w8 ?_ ⟨rfl, rfl⟩
                  go_simp
                · refine stepS_early (by decide) (by decide) hK hi (stepS_of rfl ?_)
                  clear hW hV hK hi
                  refine stepAt_value rfl rfl rfl (.pointer (some ⟨w8.heap.size, 0, none⟩)) (w8.alloc (.cells #[.int .u8 0, .int .u8 0, .int .u8 0, .int .u8 0, .int .u8 0, .int .u8 0, .int .u8 0, .int .u8 0, .int .u8 0, .int .u8 0, .int .u8 0, .int .u8 0, .int .u8 0, .int .u8 0, .int .u8 0, .int .u8 0, .int .u8 0, .int .u8 0, .int .u8 0, .int .u8 0, .int .u8 0, .int .u8 0, .int .u8 0, .int .u8 0, .int .u8 0, .int .u8 0, .int .u8 0, .int .u8 0, .int .u8 0, .int .u8 0, .int .u8 0, .int .u8 0] 27)) (by go_simp) ⟨⟨_, rfl, hG.size, zero_root w8⟩, .inl ((Below.refl _ _).alloc (Nat.le_refl _) _)⟩
                · obtain ⟨g, hg, hgb, hblk⟩ := hV 9 (hW 9 (by decide)) hi
                  have q7 := hV 7 (hW 7 (by decide)) rfl
                  simp only at q7
                  rw [hg, q7]
                  refine stepS_skip rfl rfl (execs_store rfl rfl rfl (run_store_name hblk (by simp [zero32]) HRL.out)) ⟨⟨trivial, .inr ⟨below_row hG hgb _, fun j hj hd => ?_⟩⟩, fun _ => ⟨g, by rw [turnTo_ne (by decide)]; exact hg, hgb, hblk.setRow (bv zero32)⟩, fun hm => absurd hm (by rw [hi]; simp)⟩
                  match j, hj, hd with
                  | 0, hj, _ => exact hV 0 hj rfl
                  | 1, hj, _ => exact hV 1 hj rfl
                  | 2, hj, _ => exact hV 2 hj rfl
                  | 3, hj, _ => exact hV 3 hj rfl
                  | 4, hj, _ => exact hV 4 hj rfl
                  | 5, hj, _ => exact hV 5 hj rfl
                  | 6, hj, _ => exact hV 6 hj rfl
                  | 7, hj, _ => exact hV 7 hj rfl
                  | 8, hj, _ => exact hV 8 hj rfl
                  | 9, _, hd => exact absurd hd (by simp [turnOn])
                  | 10, _, _ => trivial
                  | _ + 11, _, _ => trivial
              case fin =>
                intro hh vals w6 hall hG hV hT
                obtain ⟨Z, q9, hZL, hZ⟩ := hT
                have q8 := hV 8 (hall 8 (by omega)) rfl
                simp only at q8
                simp only [List.take_succ_cons, List.take_zero, List.drop_succ_cons, List.drop_zero, putAll, Act.put, List.setIfInBounds_toArray, List.set_cons_zero, List.set_cons_succ, Nat.reduceAdd]
                rw [q8, q9]
                clear hV q8 q9 hall
                generalize vals 0 = z0
                generalize vals 1 = z1
                generalize vals 2 = z2
                generalize vals 3 = z3
                generalize vals 4 = z4
                generalize vals 5 = z5
                generalize vals 6 = z6
                generalize vals 7 = z7
                replace HT := Lib.hid (HT.out.below hG)
                replace HX := Lib.hid (HX.out.below hG HX.out.lt)
                replace HY := Lib.hid (HY.out.below hG HY.out.lt)
                replace HB := Lib.hid (HB.out.trans (hG.mono HB.out.size))
                have HZ := Lib.hid hZ
                clear hG hZ hZL
                go_upto_region 10 with fail
                refine wp_region_free (P := Try.prog) 7 (fun w' => Below w6.heap.size w6 w') (fun oq v w' => match oq with
                    | 0 => v = .pointer (some ⟨b, 0, none⟩)
                    | 1 => v = .pointer (some ⟨b, 0, none⟩)
                    | 2 => v = .pointer (some ⟨b, 2, none⟩)
                    | 3 => v = .map (some m)
                    | 4 => v = tmv (k : Int) (ep t.k vo.s)
                    | 5 => v = .pointer (some ⟨X, 2, none⟩)
                    | 6 => v = .agg (bv vo.g).toArray
                    | _ => True) (by kernel_rfl) (by kernel_rfl) (Below.refl _ _).drew ?gb ?vb ?steps ?fin
                case gb => exact fun a b h1 h2 => h1.trans (h2.mono h1.size)
                case vb =>
                  intro oq v a b h hb
                  match oq with
                  | 0 => exact h
                  | 1 => exact h
                  | 2 => exact h
                  | 3 => exact h
                  | 4 => exact h
                  | 5 => exact h
                  | 6 => exact h
                  | _ + 7 => trivial
                case steps =>
                  intro vals
                  simp only [List.take_succ_cons, List.take_zero, freeSteps, Act.put, List.setIfInBounds_toArray, List.set_cons_zero, List.set_cons_succ, Nat.reduceAdd]
                  refine ⟨fun w8 hG hW => ?_, fun w8 hG hW => ?_, fun w8 hG hW => ?_, fun w8 hG hW => ?_, fun w8 hG hW => ?_, fun w8 hG hW => ?_, fun w8 hG hW => ?_, trivial⟩
                  · clear hW
                    refine stepAt_value rfl rfl rfl (.pointer (some ⟨b, 0, none⟩)) w8 ?_ ⟨rfl, Below.refl _ _⟩
                    go_simp
                  · have q0 := hW 0 (by decide)
                    simp only at q0
                    rw [q0]
                    clear hW
                    refine stepAt_value rfl rfl rfl (.pointer (some ⟨b, 0, none⟩)) w8 ?_ ⟨rfl, Below.refl _ _⟩
                    go_simp
                  · have q1 := hW 1 (by decide)
                    simp only at q1
                    rw [q1]
                    clear hW
                    refine stepAt_value rfl rfl rfl (.pointer (some ⟨b, 2, none⟩)) w8 ?_ ⟨rfl, Below.refl _ _⟩
                    go_simp
                  · have q2 := hW 2 (by decide)
                    simp only at q2
                    rw [q2]
                    clear hW
                    refine stepAt_value rfl rfl rfl (.map (some m)) w8 ?_ ⟨rfl, Below.refl _ _⟩
                    have cc := (HT.out.below hG).cell2
                    go_simp
                  · clear hW
                    refine stepAt_load_run rfl rfl rfl _ _ rfl _ _ rfl (run_load_term (HY.out.below hG HY.out.lt)) ⟨rfl, Below.refl _ _⟩
                  · clear hW
                    refine stepAt_value rfl rfl rfl (.pointer (some ⟨X, 2, none⟩)) w8 ?_ ⟨rfl, Below.refl _ _⟩
                    go_simp
                  · have q5 := hW 5 (by decide)
                    simp only at q5
                    rw [q5]
                    clear hW
                    refine stepAt_load_run rfl rfl rfl _ _ rfl _ _ rfl (run_load_root hv (HX.out.below hG HX.out.lt).voteName) ⟨rfl, Below.refl _ _⟩
                case fin =>
                  intro vals w7 hG hV
                  have q3 := hV 3 (by omega)
                  simp only at q3
                  have q4 := hV 4 (by omega)
                  simp only at q4
                  have q6 := hV 6 (by omega)
                  simp only at q6
                  simp only [List.take_succ_cons, List.take_zero, List.drop_succ_cons, List.drop_zero, putAll, Act.put, List.setIfInBounds_toArray, List.set_cons_zero, List.set_cons_succ, Nat.reduceAdd]
                  rw [q3, q4, q6]
                  clear hV q3 q4 q6
                  generalize vals 0 = y0
                  generalize vals 1 = y1
                  generalize vals 2 = y2
                  generalize vals 5 = y5
                  replace HT := Lib.hid (HT.out.below hG)
                  replace HX := Lib.hid (HX.out.below hG HX.out.lt)
                  replace HY := Lib.hid (HY.out.below hG HY.out.lt)
                  replace HB := Lib.hid (HB.out.trans (hG.mono HB.out.size))
                  clear hG
                  obtain ⟨D, hD, hS⟩ := HT.out.map
                  have HD := Lib.hid hD
                  have HS := Lib.hid hS
                  clear hD hS
                  go_upto_region 11 with (at_mapUpdate; refine wpList_mapUpdate_own _ rfl _ _ _ 55 rfl 59 27 Try.keyedT Try.underlying55 rootE m t.fs.length D rfl HD.out (by have := HN.out; unfold maxLen; omega) (tmv (k : Int) (ep t.k vo.s)) (.agg (bv vo.g).toArray) _ rfl rfl (key_term HK6.out HE6.out) (.lit (.string vo.g)) [] (rootE_mk hv) ?_; intro w9 hown3 hg3)
                  rw [← HKW.out] at hown3
                  have HF := Lib.hid (HT.out.doF hv HOK.out (by rw [HKW.out]; exact HFF.out) HS.out hown3 HD.out.isMap hg3)
                  have HKP := Lib.hid (Kept.of_below [b, m, g] HB.out |>.trans (HF.out.2.mono (F' := [b, m, g]) (by simp)) (NewF.refl _ _))
                  have HX2 := Lib.hid (HX.out.kept HF.out.2 (by simp; exact fun e => HYX.out X (by rw [e]; simp) (by simp)))
                  have HY2 := Lib.hid (HY.out.kept HF.out.2 (by simp; exact fun e => HYA.out Y (by rw [e]; simp) (by simp)))
                  have HT2 := Lib.hid HF.out.1
                  clear hown3 hg3 HF HT HD HS HX HY HB
                  try simp only [Act.put]
                  obtain ⟨H, hH⟩ : ∃ H, H = hsN t k := ⟨_, rfl⟩
                  have HHS := Lib.hid hH.symm
                  clear hH
                  have HLS := Lib.hid (show I6 (ltN t k).s by have := HT2.out.fit.l k; rw [show ltN (addF t vo) k = ltN t k from rfl] at this; unfold I6; omega)
                  cases H with
                  | false =>
                    have HTK := Lib.hid (show takeT t vo = (0, setL (addF t vo) vo) by
                      unfold takeT
                      rw [if_pos HOK.out, HKW.out, if_neg (by rw [HOT.out]; decide), HFF.out]
                      exact if_neg fun hc => by have := hc.1; rw [show hsT t (k : Int) = hsN t k from rfl, HHS.out] at this; cases this)
                    refine wp_region_free (P := Try.prog) 16 (fun w' => Below w9.heap.size w9 w') (fun oq v w' => match oq with
                        | 0 => v = .pointer (some ⟨g, k * 36, none⟩)
                        | 1 => v = .pointer (some ⟨g, k * 36, none⟩)
                        | 2 => v = .pointer (some ⟨g, k * 36 + 34, none⟩)
                        | 3 => v = .bool false
                        | 4 => v = .bool false
                        | 5 => v = undef
                        | 6 => v = undef
                        | 7 => v = undef
                        | 8 => v = undef
                        | 9 => v = undef
                        | 10 => v = undef
                        | 11 => v = undef
                        | 12 => v = undef
                        | 13 => v = undef
                        | 14 => v = undef
                        | 15 => v = .bool false
                        | _ => True) (by kernel_rfl) (by kernel_rfl) (Below.refl _ _).drew ?gb ?vb ?steps ?fin
                    case gb => exact fun a b h1 h2 => h1.trans (h2.mono h1.size)
                    case vb =>
                      intro oq v a b h hb
                      match oq with
                      | 0 => exact h
                      | 1 => exact h
                      | 2 => exact h
                      | 3 => exact h
                      | 4 => exact h
                      | 5 => exact h
                      | 6 => exact h
                      | 7 => exact h
                      | 8 => exact h
                      | 9 => exact h
                      | 10 => exact h
                      | 11 => exact h
                      | 12 => exact h
                      | 13 => exact h
                      | 14 => exact h
                      | 15 => exact h
                      | _ + 16 => trivial
                    case steps =>
                      intro vals
                      simp only [List.take_succ_cons, List.take_zero, freeSteps, Act.put, List.setIfInBounds_toArray, List.set_cons_zero, List.set_cons_succ, Nat.reduceAdd]
                      refine ⟨fun w8 hG hW => ?_, fun w8 hG hW => ?_, fun w8 hG hW => ?_, fun w8 hG hW => ?_, fun w8 hG hW => ?_, fun w8 hG hW => ?_, fun w8 hG hW => ?_, fun w8 hG hW => ?_, fun w8 hG hW => ?_, fun w8 hG hW => ?_, fun w8 hG hW => ?_, fun w8 hG hW => ?_, fun w8 hG hW => ?_, fun w8 hG hW => ?_, fun w8 hG hW => ?_, fun w8 hG hW => ?_, trivial⟩
                      · clear hW
                        refine stepAt_value rfl rfl rfl (.pointer (some ⟨g, k * 36, none⟩)) w8 ?_ ⟨rfl, Below.refl _ _⟩
                        go_simp
                      · have q0 := hW 0 (by decide)
                        simp only at q0
                        rw [q0]
                        clear hW
                        refine stepAt_value rfl rfl rfl (.pointer (some ⟨g, k * 36, none⟩)) w8 ?_ ⟨rfl, Below.refl _ _⟩
                        go_simp
                      · have q1 := hW 1 (by decide)
                        simp only at q1
                        rw [q1]
                        clear hW
                        refine stepAt_value rfl rfl rfl (.pointer (some ⟨g, k * 36 + 34, none⟩)) w8 ?_ ⟨rfl, Below.refl _ _⟩
                        go_simp
                      · have q2 := hW 2 (by decide)
                        simp only at q2
                        rw [q2]
                        clear hW
                        refine stepAt_value rfl rfl rfl (.bool false) w8 ?_ ⟨rfl, Below.refl _ _⟩
                        have cc := (HT2.out.below hG).voted hk
                        rw [show hsN (addF t vo) k = hsN t k from rfl, HHS.out] at cc
                        go_simp
                      · have q3 := hW 3 (by decide)
                        simp only at q3
                        rw [q3]
                        clear hW
                        refine stepAt_value rfl rfl rfl (.bool false) w8 ?_ ⟨rfl, Below.refl _ _⟩
                        go_simp
                      · have q4 := hW 4 (by decide)
                        simp only at q4
                        rw [q4]
                        clear hW
                        exact stepAt_skip rfl rfl rfl ⟨rfl, Below.refl _ _⟩
                      · have q4 := hW 4 (by decide)
                        simp only at q4
                        rw [q4]
                        clear hW
                        exact stepAt_skip rfl rfl rfl ⟨rfl, Below.refl _ _⟩
                      · have q4 := hW 4 (by decide)
                        simp only at q4
                        rw [q4]
                        clear hW
                        exact stepAt_skip rfl rfl rfl ⟨rfl, Below.refl _ _⟩
                      · have q4 := hW 4 (by decide)
                        simp only at q4
                        rw [q4]
                        clear hW
                        exact stepAt_skip rfl rfl rfl ⟨rfl, Below.refl _ _⟩
                      · have q4 := hW 4 (by decide)
                        simp only at q4
                        rw [q4]
                        clear hW
                        exact stepAt_skip rfl rfl rfl ⟨rfl, Below.refl _ _⟩
                      · have q4 := hW 4 (by decide)
                        simp only at q4
                        rw [q4]
                        clear hW
                        exact stepAt_skip rfl rfl rfl ⟨rfl, Below.refl _ _⟩
                      · have q4 := hW 4 (by decide)
                        simp only at q4
                        rw [q4]
                        clear hW
                        exact stepAt_skip rfl rfl rfl ⟨rfl, Below.refl _ _⟩
                      · have q4 := hW 4 (by decide)
                        simp only at q4
                        rw [q4]
                        clear hW
                        exact stepAt_skip rfl rfl rfl ⟨rfl, Below.refl _ _⟩
                      · have q4 := hW 4 (by decide)
                        simp only at q4
                        rw [q4]
                        clear hW
                        exact stepAt_skip rfl rfl rfl ⟨rfl, Below.refl _ _⟩
                      · have q4 := hW 4 (by decide)
                        simp only at q4
                        rw [q4]
                        clear hW
                        exact stepAt_skip rfl rfl rfl ⟨rfl, Below.refl _ _⟩
                      · have q4 := hW 4 (by decide)
                        simp only at q4
                        rw [q4]
                        clear hW
                        refine stepAt_value rfl rfl rfl (.bool false) w8 ?_ ⟨rfl, Below.refl _ _⟩
                        go_simp
                    case fin =>
                      intro vals w10 hG hV
                      have q15 := hV 15 (by omega)
                      simp only at q15
                      simp only [List.take_succ_cons, List.take_zero, List.drop_succ_cons, List.drop_zero, putAll, Act.put, List.setIfInBounds_toArray, List.set_cons_zero, List.set_cons_succ, Nat.reduceAdd]
                      rw [q15]
                      clear hV q15
                      generalize vals 0 = y0
                      generalize vals 1 = y1
                      generalize vals 2 = y2
                      generalize vals 3 = y3
                      generalize vals 4 = y4
                      generalize vals 5 = y5
                      generalize vals 6 = y6
                      generalize vals 7 = y7
                      generalize vals 8 = y8
                      generalize vals 9 = y9
                      generalize vals 10 = y10
                      generalize vals 11 = y11
                      generalize vals 12 = y12
                      generalize vals 13 = y13
                      generalize vals 14 = y14
                      replace HT2 := Lib.hid (HT2.out.below hG)
                      replace HX2 := Lib.hid (HX2.out.below hG HX2.out.lt)
                      replace HKP := Lib.hid (HKP.out.then hG)
                      clear hG
                      have HVA := Lib.hid HX2.out.voteAll
                      have HVR := Lib.hid (HT2.out.rowV hk HKW.out hv ⟨HOK.out.2.2.1, HOK.out.2.2.2⟩)
                      have HDV := Lib.hid (HT2.out.doV hv ⟨HOK.out.2.2.1, HOK.out.2.2.2⟩)
                      have HDH := Lib.hid (HDV.out.1.doH hk HKW.out)
                      have HVT := Lib.hid HT2.out.vot
                      have HFIT := Lib.hid (show k * 36 + 34 ≤ (rowsOf (addF t vo).n (vrow (addF t vo))).length by rw [rowsOf_length HT2.out.fit.vrow]; have : (addF t vo).n = t.n := rfl; omega)
                      have cv := HDV.out.1.voted hk
                      have fv := HDV.out.1.vot.free (k * 36 + 34)
                      go_wp2_with (first
                        | ((with_reducible refine wpList_load_vote (.tmp 3) ?_ ?_ X 0 vo ?_ hv HVA.out ?_); rfl; rfl; rfl)
                        | ((with_reducible refine wpList_store_votePart (.tmp 80) (.tmp 78) ?_ ?_ g (k * 36) 62 _ _ vo ?_ ?_ HVT.out hv HFIT.out HVR.out ?_); rfl; rfl; rfl; rfl))
                      go_ret
                      exact ⟨by rw [HTK.out]; rfl, by rw [HTK.out]; exact HDH.out.1, (HKP.out.trans (HDV.out.2.mono (F' := [b, m, g]) (by simp)) (NewF.refl _ _)).trans (HDH.out.2.mono (F' := [b, m, g]) (by simp)) (NewF.refl _ _)⟩
                  | true =>
                    by_cases hgt : (ep t.k vo.s) < ep t.k (ltN t k).s
                    · have HGT := Lib.hid (show (ep t.k vo.s) < ep t.k (ltN t k).s from hgt)
                      clear hgt
                      have HTK := Lib.hid (show takeT t vo = (3, addF t vo) by
                        unfold takeT
                        rw [if_pos HOK.out, HKW.out, if_neg (by rw [HOT.out]; decide), HFF.out]
                        exact if_pos ⟨HHS.out, HGT.out⟩)
                      refine wp_region_free (P := Try.prog) 16 (fun w' => Below w9.heap.size w9 w') (fun oq v w' => match oq with
                          | 0 => v = .pointer (some ⟨g, k * 36, none⟩)
                          | 1 => v = .pointer (some ⟨g, k * 36, none⟩)
                          | 2 => v = .pointer (some ⟨g, k * 36 + 34, none⟩)
                          | 3 => v = .bool true
                          | 4 => v = .bool true
                          | 5 => v = .pointer (some ⟨b, 0, none⟩)
                          | 6 => v = .pointer (some ⟨g, k * 36, none⟩)
                          | 7 => v = .pointer (some ⟨g, k * 36, none⟩)
                          | 8 => v = .pointer (some ⟨g, k * 36, none⟩)
                          | 9 => v = .pointer (some ⟨g, k * 36 + 1, none⟩)
                          | 10 => v = .int .i64 (ltN t k).s
                          | 11 => v = .int .i64 (ep t.k (ltN t k).s)
                          | 12 => v = .pointer (some ⟨Y, 1, none⟩)
                          | 13 => v = .int .i64 (ep t.k vo.s)
                          | 14 => v = .bool true
                          | 15 => v = .bool true
                          | _ => True) (by kernel_rfl) (by kernel_rfl) (Below.refl _ _).drew ?gb ?vb ?steps ?fin
                      case gb => exact fun a b h1 h2 => h1.trans (h2.mono h1.size)
                      case vb =>
                        intro oq v a b h hb
                        match oq with
                        | 0 => exact h
                        | 1 => exact h
                        | 2 => exact h
                        | 3 => exact h
                        | 4 => exact h
                        | 5 => exact h
                        | 6 => exact h
                        | 7 => exact h
                        | 8 => exact h
                        | 9 => exact h
                        | 10 => exact h
                        | 11 => exact h
                        | 12 => exact h
                        | 13 => exact h
                        | 14 => exact h
                        | 15 => exact h
                        | _ + 16 => trivial
                      case steps =>
                        intro vals
                        simp only [List.take_succ_cons, List.take_zero, freeSteps, Act.put, List.setIfInBounds_toArray, List.set_cons_zero, List.set_cons_succ, Nat.reduceAdd]
                        refine ⟨fun w8 hG hW => ?_, fun w8 hG hW => ?_, fun w8 hG hW => ?_, fun w8 hG hW => ?_, fun w8 hG hW => ?_, fun w8 hG hW => ?_, fun w8 hG hW => ?_, fun w8 hG hW => ?_, fun w8 hG hW => ?_, fun w8 hG hW => ?_, fun w8 hG hW => ?_, fun w8 hG hW => ?_, fun w8 hG hW => ?_, fun w8 hG hW => ?_, fun w8 hG hW => ?_, fun w8 hG hW => ?_, trivial⟩
                        · clear hW
                          refine stepAt_value rfl rfl rfl (.pointer (some ⟨g, k * 36, none⟩)) w8 ?_ ⟨rfl, Below.refl _ _⟩
                          go_simp
                        · have q0 := hW 0 (by decide)
                          simp only at q0
                          rw [q0]
                          clear hW
                          refine stepAt_value rfl rfl rfl (.pointer (some ⟨g, k * 36, none⟩)) w8 ?_ ⟨rfl, Below.refl _ _⟩
                          go_simp
                        · have q1 := hW 1 (by decide)
                          simp only at q1
                          rw [q1]
                          clear hW
                          refine stepAt_value rfl rfl rfl (.pointer (some ⟨g, k * 36 + 34, none⟩)) w8 ?_ ⟨rfl, Below.refl _ _⟩
                          go_simp
                        · have q2 := hW 2 (by decide)
                          simp only at q2
                          rw [q2]
                          clear hW
                          refine stepAt_value rfl rfl rfl (.bool true) w8 ?_ ⟨rfl, Below.refl _ _⟩
                          have cc := (HT2.out.below hG).voted hk
                          rw [show hsN (addF t vo) k = hsN t k from rfl, HHS.out] at cc
                          go_simp
                        · have q3 := hW 3 (by decide)
                          simp only at q3
                          rw [q3]
                          clear hW
                          refine stepAt_value rfl rfl rfl (.bool true) w8 ?_ ⟨rfl, Below.refl _ _⟩
                          go_simp
                        · have q4 := hW 4 (by decide)
                          simp only at q4
                          rw [q4]
                          clear hW
                          refine stepAt_value rfl rfl rfl (.pointer (some ⟨b, 0, none⟩)) w8 ?_ ⟨rfl, Below.refl _ _⟩
                          go_simp
                        · have q4 := hW 4 (by decide)
                          simp only at q4
                          rw [q4]
                          clear hW
                          refine stepAt_value rfl rfl rfl (.pointer (some ⟨g, k * 36, none⟩)) w8 ?_ ⟨rfl, Below.refl _ _⟩
                          go_simp
                        · have q4 := hW 4 (by decide)
                          simp only at q4
                          have q6 := hW 6 (by decide)
                          simp only at q6
                          rw [q4, q6]
                          clear hW
                          refine stepAt_value rfl rfl rfl (.pointer (some ⟨g, k * 36, none⟩)) w8 ?_ ⟨rfl, Below.refl _ _⟩
                          go_simp
                        · have q4 := hW 4 (by decide)
                          simp only at q4
                          have q7 := hW 7 (by decide)
                          simp only at q7
                          rw [q4, q7]
                          clear hW
                          refine stepAt_value rfl rfl rfl (.pointer (some ⟨g, k * 36, none⟩)) w8 ?_ ⟨rfl, Below.refl _ _⟩
                          go_simp
                        · have q4 := hW 4 (by decide)
                          simp only at q4
                          have q8 := hW 8 (by decide)
                          simp only at q8
                          rw [q4, q8]
                          clear hW
                          refine stepAt_value rfl rfl rfl (.pointer (some ⟨g, k * 36 + 1, none⟩)) w8 ?_ ⟨rfl, Below.refl _ _⟩
                          go_simp
                        · have q4 := hW 4 (by decide)
                          simp only at q4
                          have q9 := hW 9 (by decide)
                          simp only at q9
                          rw [q4, q9]
                          clear hW
                          refine stepAt_value rfl rfl rfl (.int .i64 (ltN t k).s) w8 ?_ ⟨rfl, Below.refl _ _⟩
                          have cc := (HT2.out.below hG).slot hk
                          rw [show ltN (addF t vo) k = ltN t k from rfl] at cc
                          go_simp
                        · have q4 := hW 4 (by decide)
                          simp only at q4
                          have q5 := hW 5 (by decide)
                          simp only at q5
                          have q10 := hW 10 (by decide)
                          simp only at q10
                          rw [q4, q5, q10]
                          clear hW
                          refine stepAt_call rfl rfl rfl 22 #[.pointer (some ⟨b, 0, none⟩), .int .i64 (ltN t k).s] (by go_simp) ((epoch_any w8 b m g (addF t vo) (ltN t k).s (HT2.out.below hG) HLS.out).mono fun e w' ⟨h1, h2⟩ => ⟨_, h1, rfl, by rw [h2]; exact Below.refl _ _⟩)
                        · have q4 := hW 4 (by decide)
                          simp only at q4
                          rw [q4]
                          clear hW
                          refine stepAt_value rfl rfl rfl (.pointer (some ⟨Y, 1, none⟩)) w8 ?_ ⟨rfl, Below.refl _ _⟩
                          go_simp
                        · have q4 := hW 4 (by decide)
                          simp only at q4
                          have q12 := hW 12 (by decide)
                          simp only at q12
                          rw [q4, q12]
                          clear hW
                          refine stepAt_value rfl rfl rfl (.int .i64 (ep t.k vo.s)) w8 ?_ ⟨rfl, Below.refl _ _⟩
                          have cc := (HY2.out.below hG HY2.out.lt).cell 1
                          simp only [tml, List.getElem?_cons_zero, List.getElem?_cons_succ] at cc
                          go_simp
                        · have q4 := hW 4 (by decide)
                          simp only at q4
                          have q11 := hW 11 (by decide)
                          simp only at q11
                          have q13 := hW 13 (by decide)
                          simp only at q13
                          rw [q4, q11, q13]
                          clear hW
                          refine stepAt_value rfl rfl rfl (.bool true) w8 ?_ ⟨rfl, Below.refl _ _⟩
                          have hgt := HGT.out
                          go_simp
                        · have q4 := hW 4 (by decide)
                          simp only at q4
                          have q14 := hW 14 (by decide)
                          simp only at q14
                          rw [q4, q14]
                          clear hW
                          refine stepAt_value rfl rfl rfl (.bool true) w8 ?_ ⟨rfl, Below.refl _ _⟩
                          go_simp
                      case fin =>
                        intro vals w10 hG hV
                        have q15 := hV 15 (by omega)
                        simp only at q15
                        simp only [List.take_succ_cons, List.take_zero, List.drop_succ_cons, List.drop_zero, putAll, Act.put, List.setIfInBounds_toArray, List.set_cons_zero, List.set_cons_succ, Nat.reduceAdd]
                        rw [q15]
                        clear hV q15
                        generalize vals 0 = y0
                        generalize vals 1 = y1
                        generalize vals 2 = y2
                        generalize vals 3 = y3
                        generalize vals 4 = y4
                        generalize vals 5 = y5
                        generalize vals 6 = y6
                        generalize vals 7 = y7
                        generalize vals 8 = y8
                        generalize vals 9 = y9
                        generalize vals 10 = y10
                        generalize vals 11 = y11
                        generalize vals 12 = y12
                        generalize vals 13 = y13
                        generalize vals 14 = y14
                        replace HT2 := Lib.hid (HT2.out.below hG)
                        replace HX2 := Lib.hid (HX2.out.below hG HX2.out.lt)
                        replace HKP := Lib.hid (HKP.out.then hG)
                        clear hG
                        go_wp2_with fail
                        go_ret
                        exact ⟨by rw [HTK.out]; rfl, by rw [HTK.out]; exact HT2.out, HKP.out⟩
                    · have HGT := Lib.hid (show ¬ (ep t.k vo.s) < ep t.k (ltN t k).s from hgt)
                      clear hgt
                      have HTK := Lib.hid (show takeT t vo = (0, setL (addF t vo) vo) by
                        unfold takeT
                        rw [if_pos HOK.out, HKW.out, if_neg (by rw [HOT.out]; decide), HFF.out]
                        exact if_neg fun hc => HGT.out hc.2)
                      refine wp_region_free (P := Try.prog) 16 (fun w' => Below w9.heap.size w9 w') (fun oq v w' => match oq with
                          | 0 => v = .pointer (some ⟨g, k * 36, none⟩)
                          | 1 => v = .pointer (some ⟨g, k * 36, none⟩)
                          | 2 => v = .pointer (some ⟨g, k * 36 + 34, none⟩)
                          | 3 => v = .bool true
                          | 4 => v = .bool true
                          | 5 => v = .pointer (some ⟨b, 0, none⟩)
                          | 6 => v = .pointer (some ⟨g, k * 36, none⟩)
                          | 7 => v = .pointer (some ⟨g, k * 36, none⟩)
                          | 8 => v = .pointer (some ⟨g, k * 36, none⟩)
                          | 9 => v = .pointer (some ⟨g, k * 36 + 1, none⟩)
                          | 10 => v = .int .i64 (ltN t k).s
                          | 11 => v = .int .i64 (ep t.k (ltN t k).s)
                          | 12 => v = .pointer (some ⟨Y, 1, none⟩)
                          | 13 => v = .int .i64 (ep t.k vo.s)
                          | 14 => v = .bool false
                          | 15 => v = .bool false
                          | _ => True) (by kernel_rfl) (by kernel_rfl) (Below.refl _ _).drew ?gb ?vb ?steps ?fin
                      case gb => exact fun a b h1 h2 => h1.trans (h2.mono h1.size)
                      case vb =>
                        intro oq v a b h hb
                        match oq with
                        | 0 => exact h
                        | 1 => exact h
                        | 2 => exact h
                        | 3 => exact h
                        | 4 => exact h
                        | 5 => exact h
                        | 6 => exact h
                        | 7 => exact h
                        | 8 => exact h
                        | 9 => exact h
                        | 10 => exact h
                        | 11 => exact h
                        | 12 => exact h
                        | 13 => exact h
                        | 14 => exact h
                        | 15 => exact h
                        | _ + 16 => trivial
                      case steps =>
                        intro vals
                        simp only [List.take_succ_cons, List.take_zero, freeSteps, Act.put, List.setIfInBounds_toArray, List.set_cons_zero, List.set_cons_succ, Nat.reduceAdd]
                        refine ⟨fun w8 hG hW => ?_, fun w8 hG hW => ?_, fun w8 hG hW => ?_, fun w8 hG hW => ?_, fun w8 hG hW => ?_, fun w8 hG hW => ?_, fun w8 hG hW => ?_, fun w8 hG hW => ?_, fun w8 hG hW => ?_, fun w8 hG hW => ?_, fun w8 hG hW => ?_, fun w8 hG hW => ?_, fun w8 hG hW => ?_, fun w8 hG hW => ?_, fun w8 hG hW => ?_, fun w8 hG hW => ?_, trivial⟩
                        · clear hW
                          refine stepAt_value rfl rfl rfl (.pointer (some ⟨g, k * 36, none⟩)) w8 ?_ ⟨rfl, Below.refl _ _⟩
                          go_simp
                        · have q0 := hW 0 (by decide)
                          simp only at q0
                          rw [q0]
                          clear hW
                          refine stepAt_value rfl rfl rfl (.pointer (some ⟨g, k * 36, none⟩)) w8 ?_ ⟨rfl, Below.refl _ _⟩
                          go_simp
                        · have q1 := hW 1 (by decide)
                          simp only at q1
                          rw [q1]
                          clear hW
                          refine stepAt_value rfl rfl rfl (.pointer (some ⟨g, k * 36 + 34, none⟩)) w8 ?_ ⟨rfl, Below.refl _ _⟩
                          go_simp
                        · have q2 := hW 2 (by decide)
                          simp only at q2
                          rw [q2]
                          clear hW
                          refine stepAt_value rfl rfl rfl (.bool true) w8 ?_ ⟨rfl, Below.refl _ _⟩
                          have cc := (HT2.out.below hG).voted hk
                          rw [show hsN (addF t vo) k = hsN t k from rfl, HHS.out] at cc
                          go_simp
                        · have q3 := hW 3 (by decide)
                          simp only at q3
                          rw [q3]
                          clear hW
                          refine stepAt_value rfl rfl rfl (.bool true) w8 ?_ ⟨rfl, Below.refl _ _⟩
                          go_simp
                        · have q4 := hW 4 (by decide)
                          simp only at q4
                          rw [q4]
                          clear hW
                          refine stepAt_value rfl rfl rfl (.pointer (some ⟨b, 0, none⟩)) w8 ?_ ⟨rfl, Below.refl _ _⟩
                          go_simp
                        · have q4 := hW 4 (by decide)
                          simp only at q4
                          rw [q4]
                          clear hW
                          refine stepAt_value rfl rfl rfl (.pointer (some ⟨g, k * 36, none⟩)) w8 ?_ ⟨rfl, Below.refl _ _⟩
                          go_simp
                        · have q4 := hW 4 (by decide)
                          simp only at q4
                          have q6 := hW 6 (by decide)
                          simp only at q6
                          rw [q4, q6]
                          clear hW
                          refine stepAt_value rfl rfl rfl (.pointer (some ⟨g, k * 36, none⟩)) w8 ?_ ⟨rfl, Below.refl _ _⟩
                          go_simp
                        · have q4 := hW 4 (by decide)
                          simp only at q4
                          have q7 := hW 7 (by decide)
                          simp only at q7
                          rw [q4, q7]
                          clear hW
                          refine stepAt_value rfl rfl rfl (.pointer (some ⟨g, k * 36, none⟩)) w8 ?_ ⟨rfl, Below.refl _ _⟩
                          go_simp
                        · have q4 := hW 4 (by decide)
                          simp only at q4
                          have q8 := hW 8 (by decide)
                          simp only at q8
                          rw [q4, q8]
                          clear hW
                          refine stepAt_value rfl rfl rfl (.pointer (some ⟨g, k * 36 + 1, none⟩)) w8 ?_ ⟨rfl, Below.refl _ _⟩
                          go_simp
                        · have q4 := hW 4 (by decide)
                          simp only at q4
                          have q9 := hW 9 (by decide)
                          simp only at q9
                          rw [q4, q9]
                          clear hW
                          refine stepAt_value rfl rfl rfl (.int .i64 (ltN t k).s) w8 ?_ ⟨rfl, Below.refl _ _⟩
                          have cc := (HT2.out.below hG).slot hk
                          rw [show ltN (addF t vo) k = ltN t k from rfl] at cc
                          go_simp
                        · have q4 := hW 4 (by decide)
                          simp only at q4
                          have q5 := hW 5 (by decide)
                          simp only at q5
                          have q10 := hW 10 (by decide)
                          simp only at q10
                          rw [q4, q5, q10]
                          clear hW
                          refine stepAt_call rfl rfl rfl 22 #[.pointer (some ⟨b, 0, none⟩), .int .i64 (ltN t k).s] (by go_simp) ((epoch_any w8 b m g (addF t vo) (ltN t k).s (HT2.out.below hG) HLS.out).mono fun e w' ⟨h1, h2⟩ => ⟨_, h1, rfl, by rw [h2]; exact Below.refl _ _⟩)
                        · have q4 := hW 4 (by decide)
                          simp only at q4
                          rw [q4]
                          clear hW
                          refine stepAt_value rfl rfl rfl (.pointer (some ⟨Y, 1, none⟩)) w8 ?_ ⟨rfl, Below.refl _ _⟩
                          go_simp
                        · have q4 := hW 4 (by decide)
                          simp only at q4
                          have q12 := hW 12 (by decide)
                          simp only at q12
                          rw [q4, q12]
                          clear hW
                          refine stepAt_value rfl rfl rfl (.int .i64 (ep t.k vo.s)) w8 ?_ ⟨rfl, Below.refl _ _⟩
                          have cc := (HY2.out.below hG HY2.out.lt).cell 1
                          simp only [tml, List.getElem?_cons_zero, List.getElem?_cons_succ] at cc
                          go_simp
                        · have q4 := hW 4 (by decide)
                          simp only at q4
                          have q11 := hW 11 (by decide)
                          simp only at q11
                          have q13 := hW 13 (by decide)
                          simp only at q13
                          rw [q4, q11, q13]
                          clear hW
                          refine stepAt_value rfl rfl rfl (.bool false) w8 ?_ ⟨rfl, Below.refl _ _⟩
                          have hgt := HGT.out
                          go_simp
                        · have q4 := hW 4 (by decide)
                          simp only at q4
                          have q14 := hW 14 (by decide)
                          simp only at q14
                          rw [q4, q14]
                          clear hW
                          refine stepAt_value rfl rfl rfl (.bool false) w8 ?_ ⟨rfl, Below.refl _ _⟩
                          go_simp
                      case fin =>
                        intro vals w10 hG hV
                        have q15 := hV 15 (by omega)
                        simp only at q15
                        simp only [List.take_succ_cons, List.take_zero, List.drop_succ_cons, List.drop_zero, putAll, Act.put, List.setIfInBounds_toArray, List.set_cons_zero, List.set_cons_succ, Nat.reduceAdd]
                        rw [q15]
                        clear hV q15
                        generalize vals 0 = y0
                        generalize vals 1 = y1
                        generalize vals 2 = y2
                        generalize vals 3 = y3
                        generalize vals 4 = y4
                        generalize vals 5 = y5
                        generalize vals 6 = y6
                        generalize vals 7 = y7
                        generalize vals 8 = y8
                        generalize vals 9 = y9
                        generalize vals 10 = y10
                        generalize vals 11 = y11
                        generalize vals 12 = y12
                        generalize vals 13 = y13
                        generalize vals 14 = y14
                        replace HT2 := Lib.hid (HT2.out.below hG)
                        replace HX2 := Lib.hid (HX2.out.below hG HX2.out.lt)
                        replace HKP := Lib.hid (HKP.out.then hG)
                        clear hG
                        have HVA := Lib.hid HX2.out.voteAll
                        have HVR := Lib.hid (HT2.out.rowV hk HKW.out hv ⟨HOK.out.2.2.1, HOK.out.2.2.2⟩)
                        have HDV := Lib.hid (HT2.out.doV hv ⟨HOK.out.2.2.1, HOK.out.2.2.2⟩)
                        have HDH := Lib.hid (HDV.out.1.doH hk HKW.out)
                        have HVT := Lib.hid HT2.out.vot
                        have HFIT := Lib.hid (show k * 36 + 34 ≤ (rowsOf (addF t vo).n (vrow (addF t vo))).length by rw [rowsOf_length HT2.out.fit.vrow]; have : (addF t vo).n = t.n := rfl; omega)
                        have cv := HDV.out.1.voted hk
                        have fv := HDV.out.1.vot.free (k * 36 + 34)
                        go_wp2_with (first
                          | ((with_reducible refine wpList_load_vote (.tmp 3) ?_ ?_ X 0 vo ?_ hv HVA.out ?_); rfl; rfl; rfl)
                          | ((with_reducible refine wpList_store_votePart (.tmp 80) (.tmp 78) ?_ ?_ g (k * 36) 62 _ _ vo ?_ ?_ HVT.out hv HFIT.out HVR.out ?_); rfl; rfl; rfl; rfl))
                        go_ret
                        exact ⟨by rw [HTK.out]; rfl, by rw [HTK.out]; exact HDH.out.1, (HKP.out.trans (HDV.out.2.mono (F' := [b, m, g]) (by simp)) (NewF.refl _ _)).trans (HDH.out.2.mono (F' := [b, m, g]) (by simp)) (NewF.refl _ _)⟩
    · rw [decide_eq_false hs] at HC2
      have HNO := Lib.hid (show takeT t vo = (5, t) by unfold takeT; rw [if_neg (fun hok => hs ⟨hok.2.2.1, hok.2.2.2⟩)])
      clear hi hs hkw hk
      go_wp2_with fail
      refine HC.out.mono ?_
      rintro e w1 ⟨rfl, rfl⟩
      go_wp2_with fail
      refine HC2.out.mono ?_
      rintro e w1 ⟨rfl, rfl⟩
      go_wp2_with fail
      go_ret
      exact ⟨by rw [HNO.out]; rfl, by rw [HNO.out]; exact HT.out, Kept.of_below _ HB.out⟩
end Go.Proofs.Ytoinigcfcjllcaa
