/-
  The texts RefAll, one behind the other.
-/
import Derived.Test.YtjodhagjfjgbcaaLeavesM16
import Derived.Test.YtjodhagjfjgbcaaLeavesM18
import Derived.Test.YtjodhagjfjgbcaaLeavesM9
/-
  The document's All: what is left below a block, and its own weights.
-/
namespace Go.Proofs.Ytjodhagjfjgbcaa
open Go Go.RowKit
set_option maxRecDepth 10000

theorem sls_empty (w : World) (most : Int) : Sls (w.alloc (.cells #[.slice none 0 0, .slice none 0 0, .slice none 0 0, .int .i64 most] 44)) [w.heap.size] w.heap.size 44 (refItems (.slice none 0 0) (.slice none 0 0) (.slice none 0 0) []) [.int .i64 most] := by
  refine ⟨Blk.new w 44 #[.slice none 0 0, .slice none 0 0, .slice none 0 0, .int .i64 most], fun x hx => ?_, fun x hx => ?_, ?_, by simp, fun x hx k hk => ?_, fun x hx => ?_⟩
  · simp only [refItems, List.mem_cons, List.not_mem_nil, or_false] at hx
    rcases hx with rfl | rfl | rfl <;> exact wide_nil0 _ _ 0
  · simp only [refItems, List.mem_cons, List.not_mem_nil, or_false] at hx
    rcases hx with rfl | rfl | rfl <;> simp [Value.ownBlock]
  · intro i j x y hij hx hy k hk
    have := List.mem_of_getElem? hx
    simp only [refItems, List.mem_cons, List.not_mem_nil, or_false] at this
    rcases this with rfl | rfl | rfl <;> simp [Value.ownBlock] at hk
  · simp only [refItems, List.mem_cons, List.not_mem_nil, or_false] at hx
    rcases hx with rfl | rfl | rfl <;> simp [Value.ownBlock] at hk
  · simp at hx
    simp
    omega
theorem sls_cut {w : World} {F : List Nat} {b : Nat} {most : Int} {v1 v2 v3 v1' v2' v3' : Value} {c c' : List Nd} {r p : List UInt8} {s : Int} (h1 : rs c' = rs c ++ [r]) (h2 : zs c' = zs c ++ [.int .i64 s]) (h3 : pns c' = pns c ++ [p])
    (h : Sls w F b 44 ((((refItems v1 v2 v3 c).set 0 (32, v1', rv (rs c) ++ bv r)).set 1 (1, v2', zs c ++ [.int .i64 s])).set 2 (32, v3', rv (pns c) ++ bv p)) [.int .i64 most]) :
    Sls w F b 44 (refItems v1' v2' v3' c') [.int .i64 most] := by
  have e : (((refItems v1 v2 v3 c).set 0 (32, v1', rv (rs c) ++ bv r)).set 1 (1, v2', zs c ++ [.int .i64 s])).set 2 (32, v3', rv (pns c) ++ bv p) = refItems v1' v2' v3' c' := by
    unfold refItems
    rw [h1, h2, h3, rv_append, rv_append, rv_sole, rv_sole]
    simp
  rw [← e]
  exact h
/-- The parent's name that a block has then. -/
def cutPn (t : List Nd) (p k : Nat) : List UInt8 := if k = p then zero32 else pnm t (parW t k)
theorem Good.cut_rows {t : List Nd} {most : Int} (G : Good t most) {p n : Nat} (hp : p < t.length) (hn : n < t.length) (ha : abW t p n = true) : rs (cutN t p (n + 1)) = rs (cutN t p n) ++ [pnm t (n : Int)] ∧ zs (cutN t p (n + 1)) = zs (cutN t p n) ++ [.int .i64 (slW t n)] ∧ pns (cutN t p (n + 1)) = pns (cutN t p n) ++ [cutPn t p n] := by
  refine ⟨by rw [cutN_hit ha, rs_append]; rfl, by rw [cutN_hit ha, zs_append]; rfl, ?_⟩
  by_cases e : n = p
  · subst e
    rw [cutN_first G, cutN_start G, pns_one, cutPn, if_pos rfl]
    rfl
  · have hpn := G.abW_le (n + 1) p n (by omega) ha
    have hG := G.cutN_good (p := p) n (by omega) (by omega)
    obtain ⟨q, hq, hqn, haq, e1, e2, e3, e4, e5, e6, e7⟩ := G.cut_next (p := p) (n := n) (by omega) hn ha hG
    rw [cutN_hit ha, e6, hG.pns_snoc e2, cutPn, if_neg e, hq]
    rfl
/-- The new tree, as far as it is laid, and its own weights. -/
structure RaM (w2 : World) (Bt : Nat) (most : Int) (items : List (Nat × Value × List Value)) (v : Value) (o : List Int) (F : List Nat) (wx : World) : Prop where
  sls : Sls wx F Bt 44 items [.int .i64 most]
  hi : High w2.heap.size F
  own : Wide 1 wx w2.heap.size v (zv o)
  ap : ∀ j, v.ownBlock = some j → j < wx.heap.size ∧ j ∉ F
  bel : Below w2.heap.size w2 wx
section
variable {w2 wx w' : World} {Bt : Nat} {most : Int} {items : List (Nat × Value × List Value)} {v : Value} {o : List Int} {F : List Nat}
theorem RaM.below (h : RaM w2 Bt most items v o F wx) (hb : Below wx.heap.size wx w') : RaM w2 Bt most items v o F w' :=
  ⟨h.sls.below hb, h.hi, h.own.below hb, fun j hj => ⟨Nat.lt_of_lt_of_le (h.ap j hj).1 hb.size, (h.ap j hj).2⟩, h.bel.trans (hb.mono h.bel.size)⟩
theorem RaM.stored (h : RaM w2 Bt most items v o F wx) {i k : Nat} {u u' : Value} {xs xs' : List Value} (hi : items[i]? = some (k, u, xs)) (hk : Kept (ownL u) wx w') (hw : Wide k w' 0 u' xs') (h0 : 0 < xs'.length) (ho : u'.ownBlock = u.ownBlock ∨ ∃ j, u'.ownBlock = some j ∧ wx.heap.size ≤ j) :
    ∃ F', RaM w2 Bt most (items.set i (k, u', xs')) v o F' (w'.setCell ⟨Bt, i, none⟩ u') ∧ ∀ j, j < wx.heap.size → j ∉ F → j ∉ F' ∧ (w'.setCell ⟨Bt, i, none⟩ u').heap[j]? = wx.heap[j]? := by
  obtain ⟨r1, r2, r3⟩ := h.sls.stored hi hk hw h0 ho
  have hj : ∀ j, j < wx.heap.size → j ∉ F → j ∉ ownL u' ++ F := fun j hj hn hm => by
    rcases r3 j hm with h1 | h1
    · exact hn h1
    · omega
  refine ⟨_, ⟨r1, h.hi.new r3 h.bel.size, h.own.kept r2 fun j hv => (h.ap j hv).2, fun j hv => ⟨Nat.lt_of_lt_of_le (h.ap j hv).1 r2.size, hj j (h.ap j hv).1 (h.ap j hv).2⟩, h.bel.trans (r2.below h.bel.size h.hi)⟩, fun j h1 h2 => ⟨hj j h1 h2, r2.block j h1 h2⟩⟩
theorem RaM.row (h : RaM w2 Bt most items v o F wx) {j : Nat} (hj : j ∉ F) (ho : w2.heap.size ≤ j ∧ v.ownBlock ≠ some j) (r : List UInt8) : RaM w2 Bt most items v o F (wx.setRow j (bv r).toArray) := by
  have hk : Kept [j] wx (wx.setRow j (bv r).toArray) := (Kept.refl _ _).setRow (.inl (by simp)) _
  exact ⟨h.sls.keep hk (fun q hq hm => by simp at hm; subst hm; exact hj hq), h.hi, h.own.kept hk (fun q hq hm => by simp at hm; subst hm; exact ho.2 hq), fun q hq => ⟨Nat.lt_of_lt_of_le (h.ap q hq).1 hk.size, (h.ap q hq).2⟩, below_row h.bel ho.1 _⟩
theorem RaM.grown (h : RaM w2 Bt most items v o F wx) {v' : Value} {o' : List Int} (hw : Wide 1 w' w2.heap.size v' (zv o')) (h0 : 0 < o'.length) (hg : Grew wx v w' v') : RaM w2 Bt most items v' o' F w' := by
  have hk : Kept (ownL v) wx w' := Kept.of_grown _ hg.grown fun j hj => mem_ownL.2 hj
  refine ⟨h.sls.keep hk fun j hj hm => (h.ap j (mem_ownL.1 hm)).2 hj, h.hi, hw, fun j hj => ⟨hw.ownLt (by rw [zv_length]; exact h0) j hj, ?_⟩, h.bel.trans (hg.belowW h.own h.bel.size)⟩
  rcases hg.own with h1 | ⟨q, h1, h2⟩
  · exact (h.ap j (h1.symm.trans hj)).2
  · rw [h1] at hj
    cases hj
    intro hm
    have := h.sls.low _ hm
    omega
end
def RaS (w2 : World) (Bt : Nat) (most : Int) (c : List Nd) (v : Value) (o : List Int) (wx : World) : Prop := ∃ v1 v2 v3 F, RaM w2 Bt most (refItems v1 v2 v3 c) v o F wx
theorem DW.cellT {w : World} {M R : List Nat} {mb rb : Nat} {t : List Nd} {own : List Int} {most : Int} (h : DW w M mb t R rb own most) : w.cell? ⟨rb, 0, none⟩ = some (.pointer (some ⟨mb, 0, none⟩)) := by
  obtain ⟨a1, c1, g1, o1, hs⟩ := h.rw.open
  exact hs.cell0
theorem rwk_made (w : World) (tb b : Nat) (own : List Int) (v : Value) (hv : Wide 1 w 0 v (zv own)) (h0 : 0 < own.length) (hb : b = w.heap.size) (known : Nat) :
    RWk (w.alloc (.cells #[.pointer (some ⟨tb, 0, none⟩), v, .int .i64 (known : Int)] 47)) (ownL v ++ [b]) b tb own known := by
  have hlt : ∀ j, v.ownBlock = some j → j < w.heap.size := hv.ownLt (by rw [zv_length]; exact h0)
  subst hb
  refine ⟨v, ?_, fun x hx => ?_, fun x hx => ?_, ?_, by simp, fun x hx k hk => ?_, fun x hx => ?_⟩
  · exact Blk.new w 47 #[.pointer (some ⟨tb, 0, none⟩), v, .int .i64 (known : Int)]
  · simp only [List.mem_cons, List.not_mem_nil, or_false] at hx
    subst hx
    exact hv.alloc _
  · simp only [List.mem_cons, List.not_mem_nil, or_false] at hx
    subst hx
    intro e
    have := hlt _ e
    omega
  · intro i j x y hij hx hy k hk
    have h1 := (List.getElem?_eq_some_iff.1 hx).1
    have h2 := (List.getElem?_eq_some_iff.1 hy).1
    simp at h1 h2
    omega
  · simp only [List.mem_cons, List.not_mem_nil, or_false] at hx
    subst hx
    exact List.mem_append_left _ (mem_ownL.2 hk)
  · rcases List.mem_append.1 hx with hx | hx
    · have := hlt x (mem_ownL.1 hx)
      simp; omega
    · simp at hx
      simp
      omega

set_option maxHeartbeats 16000000 in
theorem rall_none (w : World) (M : List Nat) (mb : Nat) (t : List Nd) (R : List Nat) (rb : Nat) (own : List Int) (most : Int) (r : List UInt8) (hP : plc t r = -1) (h : DW w M mb t R rb own most) (hr : r.length = 32) :
    Calls Try.prog 13 #[.pointer (some ⟨rb, 0, none⟩), .agg (bv r).toArray] w fun e w' => e = .returned (.tuple #[.pointer none, .bool false]) ∧ Below w.heap.size w w' := by
  have HB := Lib.hid (show Below w.heap.size w (w.alloc (.cells (bv r).toArray 24)) from (Below.refl _ w).alloc (Nat.le_refl _) _)
  have HX := Lib.hid (Blk.new w 24 (bv r).toArray)
  have HD := Lib.hid (h.below HB.out)
  obtain ⟨X, hX⟩ : ∃ X, X = w.heap.size := ⟨_, rfl⟩
  rw [← hX] at HX
  have HXW := Lib.hid (show w.heap.size ≤ X by omega)
  go_enter Try.func13, Try.ntmps13
  go_upto_region 1 with fail
  rw [← hX]
  generalize w.alloc (.cells (bv r).toArray 24) = w1 at HB HX HD ⊢
  clear hX
  refine wp_region_free (P := Try.prog) 7 (fun w' => Below w1.heap.size w1 w') (fun oq v w' => match oq with
      | 0 => v = .pointer (some ⟨rb, 0, none⟩)
      | 1 => v = .pointer (some ⟨rb, 0, none⟩)
      | 2 => v = .pointer (some ⟨rb, 0, none⟩)
      | 3 => v = .pointer (some ⟨mb, 0, none⟩)
      | 4 => v = .agg (bv r).toArray
      | 5 => v = .int .i64 (plc t r)
      | 6 => v = .int .i64 (plc t r)
      | _ => True) (by kernel_rfl) (by kernel_rfl) (Below.refl _ _).drew ?gb ?vb ?steps ?fin
  case gb => exact fun a b h1 h2 => h1.trans (h2.mono h1.size)
  case vb =>
    intro oq v a b h hb
    match oq with
    | 0 => exact h
    | 1 => exact h
    | 2 => exact h
    | 3 => exact h
    | 4 => exact h
    | 5 => exact h
    | 6 => exact h
    | _ + 7 => trivial
  case steps =>
    intro vals
    simp only [List.take_succ_cons, List.take_zero, freeSteps, Act.put, List.setIfInBounds_toArray, List.set_cons_zero, List.set_cons_succ, Nat.reduceAdd]
    refine ⟨fun w8 hG hW => ?_, fun w8 hG hW => ?_, fun w8 hG hW => ?_, fun w8 hG hW => ?_, fun w8 hG hW => ?_, fun w8 hG hW => ?_, fun w8 hG hW => ?_, trivial⟩
    · clear hW
      refine stepAt_value rfl rfl rfl (.pointer (some ⟨rb, 0, none⟩)) w8 ?_ ⟨rfl, Below.refl _ _⟩
      go_simp
    · have q0 := hW 0 (by decide)
      simp only at q0
      rw [q0]
      clear hW
      refine stepAt_value rfl rfl rfl (.pointer (some ⟨rb, 0, none⟩)) w8 ?_ ⟨rfl, Below.refl _ _⟩
      go_simp
    · have q1 := hW 1 (by decide)
      simp only at q1
      rw [q1]
      clear hW
      refine stepAt_value rfl rfl rfl (.pointer (some ⟨rb, 0, none⟩)) w8 ?_ ⟨rfl, Below.refl _ _⟩
      go_simp
    · have q2 := hW 2 (by decide)
      simp only at q2
      rw [q2]
      clear hW
      refine stepAt_value rfl rfl rfl (.pointer (some ⟨mb, 0, none⟩)) w8 ?_ ⟨rfl, Below.refl _ _⟩
      have c := (HD.out.below hG).cellT
      go_simp
    · clear hW
      exact stepAt_load_run rfl rfl rfl _ _ rfl _ _ rfl (run_load_root hr (HX.out.below hG HX.out.lt).rootAll) ⟨rfl, Below.refl _ _⟩
    · have q3 := hW 3 (by decide)
      simp only at q3
      have q4 := hW 4 (by decide)
      simp only at q4
      rw [q3, q4]
      clear hW
      refine stepAt_call rfl rfl rfl 32 #[.pointer (some ⟨mb, 0, none⟩), .agg (bv r).toArray] (by go_simp) ((refplace_any w8 M mb t most r (HD.out.ref.below hG) hr).mono fun e w' ⟨h1, h2⟩ => ⟨_, h1, rfl, h2⟩)
    · have q5 := hW 5 (by decide)
      simp only at q5
      rw [q5]
      clear hW
      refine stepAt_value rfl rfl rfl (.int .i64 (plc t r)) w8 ?_ ⟨rfl, Below.refl _ _⟩
      go_simp
  case fin =>
    intro vals w2 hG hV
    have q6 := hV 6 (by omega)
    simp only at q6
    simp only [List.take_succ_cons, List.take_zero, List.drop_succ_cons, List.drop_zero, putAll, Act.put, List.setIfInBounds_toArray, List.set_cons_zero, List.set_cons_succ, Nat.reduceAdd]
    rw [q6, hP]
    clear hV q6
    generalize vals 0 = y0
    generalize vals 1 = y1
    generalize vals 2 = y2
    generalize vals 3 = y3
    generalize vals 4 = y4
    generalize vals 5 = y5
    replace HD := Lib.hid (HD.out.below hG)
    replace HX := Lib.hid (HX.out.below hG HX.out.lt)
    replace HB := Lib.hid (HB.out.trans (hG.mono HB.out.size))
    clear hG
    go_wp2_with fail
    go_ret2
    exact ⟨rfl, HB.out⟩

set_option maxHeartbeats 16000000 in
theorem rall_ok (w : World) (M : List Nat) (mb : Nat) (t : List Nd) (R : List Nat) (rb : Nat) (own : List Int) (most : Int) (r : List UInt8) (p : Nat) (hP : plc t r = (p : Int)) (hl : own.length = t.length) (h : DW w M mb t R rb own most) (hr : r.length = 32) :
    Calls Try.prog 13 #[.pointer (some ⟨rb, 0, none⟩), .agg (bv r).toArray] w fun e w' => ∃ M' mb' R' rb', e = .returned (.tuple #[.pointer (some ⟨rb', 0, none⟩), .bool true]) ∧ DW w' M' mb' (cutT t p) R' rb' (cutO t own p) most ∧ Below w.heap.size w w' := by
  have HPL := Lib.hid (show p < t.length by have := plc_lt t r; omega)
  have HLW := Lib.hid hl
  have HOG := Lib.hid h.og
  have HGD := Lib.hid h.ref.1
  have HM256 := Lib.hid (show t.length ≤ 256 by have := h.ref.1.room; have := h.ref.1.most256; omega)
  obtain ⟨i0, hi0, hz0, hz1, hz2⟩ := info_parts Try.infoRootB
  have hzc : (Value.agg (bv zero32).toArray).cells.size = 32 := by simp [Value.cells, bv_length, zero32]
  obtain ⟨j0, ji0, jz0, jz1, jz2⟩ := info_parts Try.info3
  have jzc : (Value.int .i64 0).cells.size = 1 := rfl
  have HB := Lib.hid (show Below w.heap.size w (w.alloc (.cells (bv r).toArray 24)) from (Below.refl _ w).alloc (Nat.le_refl _) _)
  have HX := Lib.hid (Blk.new w 24 (bv r).toArray)
  have HD := Lib.hid (h.below HB.out)
  obtain ⟨X, hX⟩ : ∃ X, X = w.heap.size := ⟨_, rfl⟩
  rw [← hX] at HX
  have HXW := Lib.hid (show w.heap.size ≤ X by omega)
  go_enter Try.func13, Try.ntmps13
  go_upto_region 1 with fail
  rw [← hX]
  generalize w.alloc (.cells (bv r).toArray 24) = w1 at HB HX HD ⊢
  clear hX
  refine wp_region_free (P := Try.prog) 7 (fun w' => Below w1.heap.size w1 w') (fun oq v w' => match oq with
      | 0 => v = .pointer (some ⟨rb, 0, none⟩)
      | 1 => v = .pointer (some ⟨rb, 0, none⟩)
      | 2 => v = .pointer (some ⟨rb, 0, none⟩)
      | 3 => v = .pointer (some ⟨mb, 0, none⟩)
      | 4 => v = .agg (bv r).toArray
      | 5 => v = .int .i64 (plc t r)
      | 6 => v = .int .i64 (plc t r)
      | _ => True) (by kernel_rfl) (by kernel_rfl) (Below.refl _ _).drew ?gb ?vb ?steps ?fin
  case gb => exact fun a b h1 h2 => h1.trans (h2.mono h1.size)
  case vb =>
    intro oq v a b h hb
    match oq with
    | 0 => exact h
    | 1 => exact h
    | 2 => exact h
    | 3 => exact h
    | 4 => exact h
    | 5 => exact h
    | 6 => exact h
    | _ + 7 => trivial
  case steps =>
    intro vals
    simp only [List.take_succ_cons, List.take_zero, freeSteps, Act.put, List.setIfInBounds_toArray, List.set_cons_zero, List.set_cons_succ, Nat.reduceAdd]
    refine ⟨fun w8 hG hW => ?_, fun w8 hG hW => ?_, fun w8 hG hW => ?_, fun w8 hG hW => ?_, fun w8 hG hW => ?_, fun w8 hG hW => ?_, fun w8 hG hW => ?_, trivial⟩
    · clear hW
      refine stepAt_value rfl rfl rfl (.pointer (some ⟨rb, 0, none⟩)) w8 ?_ ⟨rfl, Below.refl _ _⟩
      go_simp
    · have q0 := hW 0 (by decide)
      simp only at q0
      rw [q0]
      clear hW
      refine stepAt_value rfl rfl rfl (.pointer (some ⟨rb, 0, none⟩)) w8 ?_ ⟨rfl, Below.refl _ _⟩
      go_simp
    · have q1 := hW 1 (by decide)
      simp only at q1
      rw [q1]
      clear hW
      refine stepAt_value rfl rfl rfl (.pointer (some ⟨rb, 0, none⟩)) w8 ?_ ⟨rfl, Below.refl _ _⟩
      go_simp
    · have q2 := hW 2 (by decide)
      simp only at q2
      rw [q2]
      clear hW
      refine stepAt_value rfl rfl rfl (.pointer (some ⟨mb, 0, none⟩)) w8 ?_ ⟨rfl, Below.refl _ _⟩
      have c := (HD.out.below hG).cellT
      go_simp
    · clear hW
      exact stepAt_load_run rfl rfl rfl _ _ rfl _ _ rfl (run_load_root hr (HX.out.below hG HX.out.lt).rootAll) ⟨rfl, Below.refl _ _⟩
    · have q3 := hW 3 (by decide)
      simp only at q3
      have q4 := hW 4 (by decide)
      simp only at q4
      rw [q3, q4]
      clear hW
      refine stepAt_call rfl rfl rfl 32 #[.pointer (some ⟨mb, 0, none⟩), .agg (bv r).toArray] (by go_simp) ((refplace_any w8 M mb t most r (HD.out.ref.below hG) hr).mono fun e w' ⟨h1, h2⟩ => ⟨_, h1, rfl, h2⟩)
    · have q5 := hW 5 (by decide)
      simp only at q5
      rw [q5]
      clear hW
      refine stepAt_value rfl rfl rfl (.int .i64 (plc t r)) w8 ?_ ⟨rfl, Below.refl _ _⟩
      go_simp
  case fin =>
    intro vals w2 hG hV
    have q6 := hV 6 (by omega)
    simp only at q6
    simp only [List.take_succ_cons, List.take_zero, List.drop_succ_cons, List.drop_zero, putAll, Act.put, List.setIfInBounds_toArray, List.set_cons_zero, List.set_cons_succ, Nat.reduceAdd]
    rw [q6, hP]
    clear hV q6
    generalize vals 0 = y0
    generalize vals 1 = y1
    generalize vals 2 = y2
    generalize vals 3 = y3
    generalize vals 4 = y4
    generalize vals 5 = y5
    replace HD := Lib.hid (HD.out.below hG)
    replace HX := Lib.hid (HX.out.below hG HX.out.lt)
    replace HB := Lib.hid (HB.out.trans (hG.mono HB.out.size))
    clear hG
    obtain ⟨a1, a2, a3, c1, c2, c3, g1, g2, g3, o1, o2, o3, hrs⟩ := HD.out.ref.open
    have HRS := Lib.hid hrs
    have k0 := HD.out.cellT
    have k1 := hrs.cell3
    have hpn : ¬ ((p : Int) < 0) := by omega
    clear hrs
    go_upto_region 5 with fail
    clear k0 k1 hpn
    have HM0 := Lib.hid (show RaM w2 w2.heap.size most (refItems (.slice none 0 0) (.slice none 0 0) (.slice none 0 0) []) (.slice none 0 0) [] [w2.heap.size] (w2.alloc (.cells #[.slice none 0 0, .slice none 0 0, .slice none 0 0, .int .i64 most] 44)) from ⟨sls_empty w2 most, fun x hx => by simp at hx; omega, wide_nil0 1 _ _, fun j hj => by simp [Value.ownBlock] at hj, (Below.refl _ _).alloc (Nat.le_refl _) _⟩)
    have hBtE : ∃ Bt, Bt = w2.heap.size := ⟨_, rfl⟩
    obtain ⟨Bt, hBt⟩ := hBtE
    have HMx := Lib.hid (show RaS w2 Bt most [] (.slice none 0 0) [] (w2.alloc (.cells #[.slice none 0 0, .slice none 0 0, .slice none 0 0, .int .i64 most] 44)) from ⟨_, _, _, _, by rw [hBt]; exact HM0.out⟩)
    have HB3 := Lib.hid HM0.out.bel
    rw [← hBt] at ⊢
    generalize w2.alloc (.cells #[.slice none 0 0, .slice none 0 0, .slice none 0 0, .int .i64 most] 44) = w3 at HMx HB3 ⊢
    clear HM0 hBt
    have k0 := (HD.out.below HB3.out).cellT
    have k2 := (HRS.out.below HB3.out).cell0
    obtain ⟨N, hN⟩ : ∃ N, t.length = N := ⟨_, rfl⟩
    have HN := Lib.hid hN
    rw [hN] at k2
    have HNL := Lib.hid (show N ≤ 256 by rw [← hN]; exact HM256.out)
    clear hN
    go_wp2_with fail
    clear k0 k2
    go_loopw [8, 37] (fun v i wx => ∃ k : Nat, k ≤ N ∧ i = .int .i64 k ∧ Hid (RaS w2 Bt most (cutN t p k) v (cuoN t own p k) wx)) (fun _ i _ => N - (intOf i).toNat)
    case atStart => exact ⟨0, Nat.zero_le _, rfl, HMx⟩
    case round =>
      clear HMx HB3
      obtain ⟨k, hk, rfl, HRA⟩ := hrel
      obtain ⟨v1, v2, v3, F, hm⟩ := HRA.out
      have HM := Lib.hid hm
      clear hm HRA
      obtain ⟨wx, rfl⟩ : ∃ x, x = wr := ⟨_, rfl⟩
      by_cases hlt : k < N
      · obtain ⟨x, hx, hx1, hx2, hx3⟩ := HGD.out.at (show k < t.length by rw [HN.out]; exact hlt)
        obtain ⟨n0, hn0⟩ : ∃ n0, t[p]? = some n0 := ⟨_, List.getElem?_eq_getElem HPL.out⟩
        have HAB := Lib.hid (show belowT t r x.1 = abW t p k by rw [← plc_name hP hn0]; exact HGD.out.below_ab hn0 hx)
        have HXL := Lib.hid (show x.1.length = 32 from HGD.out.nds x (List.mem_of_getElem? hx))
        have HX1 := Lib.hid hx1
        have HX2 := Lib.hid hx2
        have HXA := Lib.hid hx
        obtain ⟨ha1, hc1⟩ := (HRS.out.below HM.out.bel).l1.name HGD.out.rts (rs_at hx)
        subst ha1
        have HC1 := Lib.hid hc1
        have HLT := Lib.hid hlt
        have hlt' : (k : Int) < (N : Int) := by omega
        have HWK := Lib.hid (show wrap64 ((k : Int) + 1) = ((k + 1 : Nat) : Int) by have := HNL.out; have := HLT.out; unfold wrap64; omega)
        clear hx hx1 hx2 hx3 hn0 hc1 hk hlt
        have HYF0 := Lib.hid HM.out.sls.low
        have HZ := Lib.hid (blk_zeroR wx)
        have HZL := Lib.hid zero32_len
        have HY := Lib.hid (HZ.out.setRow (bv x.1))
        have hbx : Below wx.heap.size wx ((wx.alloc (.cells #[.int .u8 0, .int .u8 0, .int .u8 0, .int .u8 0, .int .u8 0, .int .u8 0, .int .u8 0, .int .u8 0, .int .u8 0, .int .u8 0, .int .u8 0, .int .u8 0, .int .u8 0, .int .u8 0, .int .u8 0, .int .u8 0, .int .u8 0, .int .u8 0, .int .u8 0, .int .u8 0, .int .u8 0, .int .u8 0, .int .u8 0, .int .u8 0, .int .u8 0, .int .u8 0, .int .u8 0, .int .u8 0, .int .u8 0, .int .u8 0, .int .u8 0, .int .u8 0] 24)).setRow wx.heap.size (bv x.1).toArray) := below_row ((Below.refl _ wx).alloc (Nat.le_refl _) _) (Nat.le_refl _) _
        replace HM := Lib.hid (HM.out.below hbx)
        clear hbx
        obtain ⟨Y, hRR⟩ : ∃ Y, Y = wx.heap.size := ⟨_, rfl⟩
        have HYF := Lib.hid (show Y ∉ F from fun hm => by have := HYF0.out Y hm; omega)
        go_upto_region 9 with (first | ((with_reducible refine wpList_load_name (.tmp 40) ?_ ?_ g1 (o1 + k * 32) x.1 ?_ HXL.out HC1.out ?_); rfl; rfl; rfl) | ((with_reducible refine wpList_store_name (.tmp 10) (.tmp 41) ?_ ?_ wx.heap.size zero32 x.1 ?_ ?_ HZ.out HZL.out HXL.out ?_); rfl; rfl; rfl; rfl))
        try simp only [Act.put]
        rw [← hRR] at HY HM ⊢
        generalize (wx.alloc (.cells #[.int .u8 0, .int .u8 0, .int .u8 0, .int .u8 0, .int .u8 0, .int .u8 0, .int .u8 0, .int .u8 0, .int .u8 0, .int .u8 0, .int .u8 0, .int .u8 0, .int .u8 0, .int .u8 0, .int .u8 0, .int .u8 0, .int .u8 0, .int .u8 0, .int .u8 0, .int .u8 0, .int .u8 0, .int .u8 0, .int .u8 0, .int .u8 0, .int .u8 0, .int .u8 0, .int .u8 0, .int .u8 0, .int .u8 0, .int .u8 0, .int .u8 0, .int .u8 0] 24)).setRow Y (bv x.1).toArray = w5 at HY HM ⊢
        clear HZ HZL hRR
        have HD5 := Lib.hid (HD.out.below HM.out.bel)
        have HX5 := Lib.hid (HX.out.below HM.out.bel HX.out.lt)
        clear HC1 HYF0
        obtain ⟨A, hA⟩ : ∃ A, abW t p k = A := ⟨_, rfl⟩
        have HA := Lib.hid hA
        clear hA
        refine wp_region_free (P := Try.prog) 8 (fun w' => Below w5.heap.size w5 w') (fun oq v w' => match oq with
            | 0 => v = .pointer (some ⟨rb, 0, none⟩)
            | 1 => v = .pointer (some ⟨rb, 0, none⟩)
            | 2 => v = .pointer (some ⟨rb, 0, none⟩)
            | 3 => v = .pointer (some ⟨mb, 0, none⟩)
            | 4 => v = .agg (bv r).toArray
            | 5 => v = .agg (bv x.1).toArray
            | 6 => v = .bool A
            | 7 => v = .bool (!A)
            | _ => True) (by kernel_rfl) (by kernel_rfl) (Below.refl _ _).drew ?gb ?vb ?steps ?fin
        case gb => exact fun a b h1 h2 => h1.trans (h2.mono h1.size)
        case vb =>
          intro oq v a b h hb
          match oq with
          | 0 => exact h
          | 1 => exact h
          | 2 => exact h
          | 3 => exact h
          | 4 => exact h
          | 5 => exact h
          | 6 => exact h
          | 7 => exact h
          | _ + 8 => trivial
        case steps =>
          intro vals
          simp only [List.take_succ_cons, List.take_zero, freeSteps, Act.put, List.setIfInBounds_toArray, List.set_cons_zero, List.set_cons_succ, Nat.reduceAdd]
          refine ⟨fun w8 hG hW => ?_, fun w8 hG hW => ?_, fun w8 hG hW => ?_, fun w8 hG hW => ?_, fun w8 hG hW => ?_, fun w8 hG hW => ?_, fun w8 hG hW => ?_, fun w8 hG hW => ?_, trivial⟩
          · clear hW
            refine stepAt_value rfl rfl rfl (.pointer (some ⟨rb, 0, none⟩)) w8 ?_ ⟨rfl, Below.refl _ _⟩
            go_simp
          · have q0 := hW 0 (by decide)
            simp only at q0
            rw [q0]
            clear hW
            refine stepAt_value rfl rfl rfl (.pointer (some ⟨rb, 0, none⟩)) w8 ?_ ⟨rfl, Below.refl _ _⟩
            go_simp
          · have q1 := hW 1 (by decide)
            simp only at q1
            rw [q1]
            clear hW
            refine stepAt_value rfl rfl rfl (.pointer (some ⟨rb, 0, none⟩)) w8 ?_ ⟨rfl, Below.refl _ _⟩
            go_simp
          · have q2 := hW 2 (by decide)
            simp only at q2
            rw [q2]
            clear hW
            refine stepAt_value rfl rfl rfl (.pointer (some ⟨mb, 0, none⟩)) w8 ?_ ⟨rfl, Below.refl _ _⟩
            have c := (HD5.out.below hG).cellT
            go_simp
          · clear hW
            exact stepAt_load_run rfl rfl rfl _ _ rfl _ _ rfl (run_load_root hr (HX5.out.below hG HX5.out.lt).rootAll) ⟨rfl, Below.refl _ _⟩
          · clear hW
            exact stepAt_load_run rfl rfl rfl _ _ rfl _ _ rfl (run_load_root HXL.out (HY.out.below hG HY.out.lt).rootAll) ⟨rfl, Below.refl _ _⟩
          · have q3 := hW 3 (by decide)
            simp only at q3
            have q4 := hW 4 (by decide)
            simp only at q4
            have q5 := hW 5 (by decide)
            simp only at q5
            rw [q3, q4, q5]
            clear hW
            refine stepAt_call rfl rfl rfl 39 #[.pointer (some ⟨mb, 0, none⟩), .agg (bv r).toArray, .agg (bv x.1).toArray] (by go_simp) ((refbelow_any w8 M mb t most r x.1 (HD5.out.ref.below hG) hr HXL.out).mono fun e w' ⟨h1, h2⟩ => ⟨_, h1, by rw [HAB.out, HA.out], h2⟩)
          · have q6 := hW 6 (by decide)
            simp only at q6
            rw [q6]
            clear hW
            refine stepAt_value rfl rfl rfl (.bool (!A)) w8 ?_ ⟨rfl, Below.refl _ _⟩
            go_simp
        case fin =>
          intro vals w6 hG hV
          have q7 := hV 7 (by omega)
          simp only at q7
          simp only [List.take_succ_cons, List.take_zero, List.drop_succ_cons, List.drop_zero, putAll, Act.put, List.setIfInBounds_toArray, List.set_cons_zero, List.set_cons_succ, Nat.reduceAdd]
          rw [q7]
          clear hV q7
          generalize vals 0 = y0
          generalize vals 1 = y1
          generalize vals 2 = y2
          generalize vals 3 = y3
          generalize vals 4 = y4
          generalize vals 5 = y5
          generalize vals 6 = y6
          replace HM := Lib.hid (HM.out.below hG)
          replace HY := Lib.hid (HY.out.below hG HY.out.lt)
          clear hG HD5 HX5 HAB
          cases A with
          | false =>
            have HNE := Lib.hid (show cutN t p (k + 1) = cutN t p k from cutN_miss (by rw [HA.out]; decide))
            have HOE := Lib.hid (show cuoN t own p (k + 1) = cuoN t own p k from cuoN_miss (by rw [HA.out]; decide))
            have HRN := Lib.hid (show RaS w2 Bt most (cutN t p (k + 1)) u8 (cuoN t own p (k + 1)) w6 by rw [HNE.out, HOE.out]; exact ⟨_, _, _, _, HM.out⟩)
            clear HM HY HNE HOE
            have hlk := HLT.out
            go_wp2_with fail
            go_roundw
            case rel => exact ⟨k + 1, by omega, by first | rw [HWK.out] | rw [Int.natCast_succ], HRN⟩
            case measure => first | exact measK N k 1 ((k : Int) + 1) (by omega) hlk Nat.zero_lt_one | exact measK N k 1 (wrap64 ((k : Int) + 1)) HWK.out hlk Nat.zero_lt_one
          | true =>
            obtain ⟨e1, e2, e3⟩ := HGD.out.cut_rows HPL.out (show k < t.length by rw [HN.out]; exact HLT.out) HA.out
            rw [HX1.out] at e1
            rw [HX2.out] at e2
            have HE1 := Lib.hid e1
            have HE2 := Lib.hid e2
            have HE3 := Lib.hid e3
            obtain ⟨PN, hPN⟩ : ∃ PN, cutPn t p k = PN := ⟨_, rfl⟩
            rw [hPN] at HE3
            have HPN := Lib.hid hPN
            have HCO := Lib.hid (show cuoN t own p (k + 1) = cuoN t own p k ++ [owZ own k] from cuoN_hit HA.out)
            obtain ⟨c, hc⟩ : ∃ c, cutN t p k = c := ⟨_, rfl⟩
            have HCE0 := Lib.hid hc
            rw [hc] at HE1 HE2 HE3 HM
            have HCL := Lib.hid (show c.length ≤ 256 by rw [← hc, cutN_length]; have := nuN_le t p k; have := HNL.out; have := HLT.out; omega)
            have HL1 := Lib.hid (show (rv (rs c)).length = c.length * 32 by
              rw [rv_length _ (fun z hz => by rw [← hc] at hz; obtain ⟨j, _, _, h3⟩ := cutN_mem.1 hz; rw [← h3]; exact HGD.out.pnm_len _), rs_length])
            have HL3 := Lib.hid (show (rv (pns c)).length = c.length * 32 by
              rw [rv_length _ (fun z hz => by
                obtain ⟨n1, hn1, rfl⟩ := List.mem_map.1 hz
                unfold pnm
                cases hq : nodeAt c n1.2.2 with
                | none => simp [zero32]
                | some m1 =>
                  obtain ⟨j, _, hj⟩ := nodeAt_some hq
                  have hmr := mem_rs hj
                  rw [← hc] at hmr
                  obtain ⟨j', _, _, h3⟩ := cutN_mem.1 hmr
                  simp only
                  rw [← h3]
                  exact HGD.out.pnm_len _), pns_length])
            have HPL32 := Lib.hid (show PN.length = 32 by
              rw [← hPN, cutPn]
              split
              · exact zero32_len
              · exact HGD.out.pnm_len _)
            have hcl := HCL.out
            have hxl := HXL.out
            have hpl := HPL32.out
            clear e1 e2 e3 hPN hc
            obtain ⟨s1, n1, d1, _, _, e1, _, _⟩ := (HM.out.sls.wide (32, v1, rv (rs c)) (by simp [refItems])).lies
            subst e1
            obtain ⟨s2, n2, d2, _, _, e2, _, _⟩ := (HM.out.sls.wide (1, v2, zs c) (by simp [refItems])).lies
            subst e2
            obtain ⟨s3, n3, d3, _, _, e3, _, _⟩ := (HM.out.sls.wide (32, v3, rv (pns c)) (by simp [refItems])).lies
            subst e3
            go_upto_region 10 with fail
            have HBLK := Lib.hid HM.out.sls.blk
            have HCE := Lib.hid (show (((refItems (.slice s1 n1 d1) (.slice s2 n2 d2) (.slice s3 n3 d3) c)).map (·.2.1) ++ [.int .i64 most])[0]? = some (.slice s1 n1 d1) from rfl)
            have HWD := Lib.hid (HM.out.sls.wide (32, .slice s1 n1 d1, rv (rs c)) (by simp [refItems]))
            have HNB := Lib.hid (show Bt ∉ ownL (.slice s1 n1 d1) from fun hx => HM.out.sls.nb (32, .slice s1 n1 d1, rv (rs c)) (by simp [refItems]) (mem_ownL.1 hx))
            have HOF := Lib.hid (show ∀ j ∈ ownL (.slice s1 n1 d1), j ∈ F from fun j hj => HM.out.sls.inv (32, .slice s1 n1 d1, rv (rs c)) (by simp [refItems]) j (mem_ownL.1 hj))
            replace HYF := Lib.hid HYF
            refine wp_region_freeK (P := Try.prog) 10 (fun w' => Kept (ownL (.slice s1 n1 d1)) w6 w' ∧ Wide 32 w' 0 (.slice s1 n1 d1) (rv (rs c))) (fun oq v w' => match oq with
                | 0 => v = .pointer (some ⟨Bt, 0, none⟩)
                | 1 => v = .pointer (some ⟨Bt, 0, none⟩)
                | 2 => v = .pointer (some ⟨Bt, 0, none⟩)
                | 3 => v = .pointer (some ⟨Bt, 0, none⟩)
                | 4 => v = .slice s1 n1 d1
                | 5 => v = .agg (bv x.1).toArray
                | 6 => ∃ g, v = .slice (some ⟨g, 0, none⟩) 1 1 ∧ Lies w' w'.heap.size (some ⟨g, 0, none⟩) g 0 (bv x.1)
                | 7 => Wide 32 w' 0 v (rv (rs c) ++ bv x.1) ∧ (v.ownBlock = Value.ownBlock (.slice s1 n1 d1) ∨ ∃ j, v.ownBlock = some j ∧ w6.heap.size ≤ j)
                | 8 => v = .pointer (some ⟨Bt, 0, none⟩)
                | 9 => v = .pointer (some ⟨Bt, 0, none⟩)
                | _ => True) (fun hh oq => match oq with
                | 6 => hh 7
                | _ => false) [] (by kernel_rfl) (by kernel_rfl) (by kernel_rfl) ⟨(Kept.refl _ _).drew, HWD.out.below (Below.refl _ _).drew⟩ ?gb ?vb ?db ?steps ?fin
            case gb => exact fun a b h1 h2 => ⟨h1.1.then h2, h1.2.below h2⟩
            case vb =>
              intro oq v a b h hb
              match oq with
              | 0 => exact h
              | 1 => exact h
              | 2 => exact h
              | 3 => exact h
              | 4 => exact h
              | 5 => exact h
              | 6 => (obtain ⟨g, h1, h2⟩ := h; exact ⟨g, h1, h2.below hb⟩)
              | 7 => exact ⟨h.1.below hb, h.2⟩
              | 8 => exact h
              | 9 => exact h
              | _ + 10 => trivial
            case db =>
              intro hh i oq h
              split at h
              · exact turnOn_of h
              · cases h
            case steps =>
              intro vals
              simp only [List.take_succ_cons, List.take_zero, freeStepsK, Act.put, List.setIfInBounds_toArray, List.set_cons_zero, List.set_cons_succ, Nat.reduceAdd]
              refine ⟨fun hh w8 hi hK hG hW hV => ?_, fun hh w8 hi hK hG hW hV => ?_, fun hh w8 hi hK hG hW hV => ?_, fun hh w8 hi hK hG hW hV => ?_, fun hh w8 hi hK hG hW hV => ?_, fun hh w8 hi hK hG hW hV => ?_, fun hh w8 hi hK hG hW hV => ?_, fun hh w8 hi hK hG hW hV => ?_, fun hh w8 hi hK hG hW hV => ?_, fun hh w8 hi hK hG hW hV => ?_, trivial⟩
              · clear hW hV hK hi
                refine stepAt_value rfl rfl rfl (.pointer (some ⟨Bt, 0, none⟩)) w8 ?_ ⟨rfl, .inl (Below.refl _ _)⟩
                go_simp
              · clear hW hV hK hi
                refine stepAt_value rfl rfl rfl (.pointer (some ⟨Bt, 0, none⟩)) w8 ?_ ⟨rfl, .inl (Below.refl _ _)⟩
                go_simp
              · have q1 := hV 1 (hW 1 (by decide)) rfl
                simp only at q1
                rw [q1]
                clear hW hV hK hi
                refine stepAt_value rfl rfl rfl (.pointer (some ⟨Bt, 0, none⟩)) w8 ?_ ⟨rfl, .inl (Below.refl _ _)⟩
                go_simp
              · have q2 := hV 2 (hW 2 (by decide)) rfl
                simp only at q2
                rw [q2]
                clear hW hV hK hi
                refine stepAt_value rfl rfl rfl (.pointer (some ⟨Bt, 0, none⟩)) w8 ?_ ⟨rfl, .inl (Below.refl _ _)⟩
                go_simp
              · have q3 := hV 3 (hW 3 (by decide)) rfl
                simp only at q3
                rw [q3]
                clear hW hV hK hi
                have c := ((HBLK.out.kept hG.1 HNB.out).cell 0).trans HCE.out
                refine stepAt_value rfl rfl rfl (.slice s1 n1 d1) w8 ?_ ⟨rfl, .inl (Below.refl _ _)⟩
                go_simp
              · clear hW hV hK hi
                refine stepAt_load_run rfl rfl rfl _ _ rfl _ _ rfl (run_load_root hxl (HY.out.kept hG.1 (fun hm => HYF.out (HOF.out _ hm))).rootAll) ⟨rfl, .inl (Below.refl _ _)⟩
              · have q5 := hV 5 (hW 5 (by decide)) rfl
                simp only at q5
                rw [q5]
                clear hW hV hK hi
                refine stepAt_build_rows rfl rfl rfl 37 24 1 _ rfl i0 (.agg (bv zero32).toArray) (s := 32) (by omega) [bv x.1] (fun rr hrr => by simp at hrr; rw [hrr]; exact (by rw [bv_length, hxl])) Try.underlying37 hi0 hz0 hz1 rfl (by omega) (by omega) rfl ⟨⟨w8.heap.size, rfl, ?_⟩, .inl ((Below.refl _ _).alloc (Nat.le_refl _) _)⟩
                rw [show ([bv x.1] : List (List Value)).flatten = bv x.1 by simp]
                exact ⟨fun _ => rfl, fun _ => by simp, fun j u hj => by rw [Nat.zero_add]; exact ((Blk.new w8 24 (bv x.1).toArray).cell j).trans hj⟩
              · have q4 := hV 4 (hW 4 (by decide)) rfl
                simp only at q4
                obtain ⟨g, q6, hl6⟩ := hV 6 (hW 6 (by decide)) hi
                rw [q4, q6]
                refine stepAt_append_wide2 rfl rfl rfl _ _ 37 37 rfl rfl hG.2 (by omega) 24 i0 (.agg (bv zero32).toArray) 32 Try.underlying37 hi0 hz0 hz1 hz2 hzc _ rfl 1 (bv x.1) (hl6.src 1 37 24 Try.underlying37 ((by rw [bv_length, hxl])) (bv_one x.1) (by omega)) ?_ ?_ (Nat.zero_le _) fun v' w' h1 h2 h3 => ⟨⟨h1, ?_⟩, .inr ⟨⟨hG.1.trans (Kept.of_grown _ h2.grown (fun j hj => mem_ownL.2 hj)) (NewF.refl _ _), h3⟩, fun j hj hd => ?_⟩⟩
                · rw [HL1.out]; unfold maxLen; omega
                · rw [HL1.out]; omega
                · rcases h2.own with h | ⟨j, h, hj⟩
                  · exact .inl h
                  · exact .inr ⟨j, h, Nat.le_trans hG.1.size hj⟩
                · match j, hj, hd with
                  | 0, hj, _ => exact hV 0 hj rfl
                  | 1, hj, _ => exact hV 1 hj rfl
                  | 2, hj, _ => exact hV 2 hj rfl
                  | 3, hj, _ => exact hV 3 hj rfl
                  | 4, hj, _ => exact hV 4 hj rfl
                  | 5, hj, _ => exact hV 5 hj rfl
                  | 6, _, hd => simp only [turnOn_self] at hd; cases hd
                  | 7, hj, _ => rw [hi] at hj; cases hj
                  | 8, hj, _ => exact hV 8 hj rfl
                  | 9, hj, _ => exact hV 9 hj rfl
                  | _ + 10, _, _ => trivial
              · have q0 := hV 0 (hW 0 (by decide)) rfl
                simp only at q0
                rw [q0]
                clear hW hV hK hi
                refine stepAt_value rfl rfl rfl (.pointer (some ⟨Bt, 0, none⟩)) w8 ?_ ⟨rfl, .inl (Below.refl _ _)⟩
                go_simp
              · have q8 := hV 8 (hW 8 (by decide)) rfl
                simp only at q8
                rw [q8]
                clear hW hV hK hi
                refine stepAt_value rfl rfl rfl (.pointer (some ⟨Bt, 0, none⟩)) w8 ?_ ⟨rfl, .inl (Below.refl _ _)⟩
                go_simp
            case fin =>
              intro hh vals w10 hall hG hV
              have q7 := hV 7 (hall 7 (by omega)) rfl
              have q9 := hV 9 (hall 9 (by omega)) rfl
              simp only at q7 q9
              simp only [List.take_succ_cons, List.take_zero, List.drop_succ_cons, List.drop_zero, putAll, Act.put, List.setIfInBounds_toArray, List.set_cons_zero, List.set_cons_succ, Nat.reduceAdd]
              rw [q9]
              have HG := Lib.hid hG.1
              have HW7 := Lib.hid q7.1
              have HO7 := Lib.hid q7.2
              clear hV q7 q9 hG hall
              generalize vals 0 = x0
              generalize vals 1 = x1
              generalize vals 2 = x2
              generalize vals 3 = x3
              generalize vals 4 = x4
              generalize vals 5 = x5
              generalize vals 6 = x6
              generalize vals 8 = x8
              obtain ⟨v7, hv7⟩ : ∃ v7, vals 7 = v7 := ⟨_, rfl⟩
              rw [hv7] at HW7 HO7 ⊢
              clear hv7
              obtain ⟨ao7, n7, cap7, b7, off7, e7, _, _⟩ := HW7.out.lies
              subst e7
              have c9 := (HBLK.out.kept HG.out HNB.out).cell 0
              have f9 := (HBLK.out.kept HG.out HNB.out).free 0
              go_upto_region 11 with fail
              clear c9 f9
              obtain ⟨F7, hm, hj⟩ := HM.out.stored (i := 0) rfl HG.out HW7.out (by rw [List.length_append, bv_length, hxl]; omega) HO7.out
              have hjHY := hj _ HY.out.lt HYF.out
              replace HY := Lib.hid (show Blk _ Y 24 (bv x.1) from hjHY.2.trans HY.out)
              replace HYF := Lib.hid hjHY.1
              replace HM := Lib.hid hm
              clear hm hj hjHY HOF HNB HWD HCE HBLK HG HW7 HO7
              generalize w10.setCell ⟨Bt, 0, none⟩ (.slice ao7 n7 cap7) = w7 at HM HY ⊢
              obtain ⟨F, rfl⟩ : ∃ z, z = F7 := ⟨_, rfl⟩
              have HBLK := Lib.hid HM.out.sls.blk
              have HCE := Lib.hid (show ((((refItems (.slice s1 n1 d1) (.slice s2 n2 d2) (.slice s3 n3 d3) c).set 0 (32, .slice ao7 n7 cap7, rv (rs c) ++ bv x.1))).map (·.2.1) ++ [.int .i64 most])[1]? = some (.slice s2 n2 d2) from rfl)
              have HWD := Lib.hid (HM.out.sls.wide (1, .slice s2 n2 d2, zs c) (by simp [refItems]))
              have HNB := Lib.hid (show Bt ∉ ownL (.slice s2 n2 d2) from fun hx => HM.out.sls.nb (1, .slice s2 n2 d2, zs c) (by simp [refItems]) (mem_ownL.1 hx))
              have HOF := Lib.hid (show ∀ j ∈ ownL (.slice s2 n2 d2), j ∈ F from fun j hj => HM.out.sls.inv (1, .slice s2 n2 d2, zs c) (by simp [refItems]) j (mem_ownL.1 hj))
              obtain ⟨ha2, hc2⟩ := slots_at (HRS.out.below HM.out.bel).l2 HXA.out
              subst ha2
              have HRK := Lib.hid (show ∀ w8, Kept (ownL (.slice s2 n2 d2)) w7 w8 → Below w2.heap.size w2 w8 from fun w8 hk => HM.out.bel.trans (hk.below HM.out.bel.size (fun j hj => HM.out.hi j (HOF.out j hj))))
              have HZL := Lib.hid (show (zs c).length = c.length from zs_length c)
              have hnt := HN.out
              have hlt := HLT.out
              clear hc2
              refine wp_region_freeK (P := Try.prog) 19 (fun w' => Kept (ownL (.slice s2 n2 d2)) w7 w' ∧ Wide 1 w' 0 (.slice s2 n2 d2) (zs c)) (fun oq v w' => match oq with
                  | 0 => v = .pointer (some ⟨Bt, 0, none⟩)
                  | 1 => v = .pointer (some ⟨Bt, 0, none⟩)
                  | 2 => v = .pointer (some ⟨Bt, 0, none⟩)
                  | 3 => v = .pointer (some ⟨Bt, 1, none⟩)
                  | 4 => v = .slice s2 n2 d2
                  | 5 => v = .pointer (some ⟨rb, 0, none⟩)
                  | 6 => v = .pointer (some ⟨rb, 0, none⟩)
                  | 7 => v = .pointer (some ⟨rb, 0, none⟩)
                  | 8 => v = .pointer (some ⟨mb, 0, none⟩)
                  | 9 => v = .pointer (some ⟨mb, 0, none⟩)
                  | 10 => v = .pointer (some ⟨mb, 1, none⟩)
                  | 11 => v = .slice (some ⟨g2, o2, none⟩) N c2
                  | 12 => v = .int .i64 (k : Int)
                  | 13 => v = .pointer (some ⟨g2, o2 + k, none⟩)
                  | 14 => v = .int .i64 x.2.1
                  | 15 => ∃ g, v = .slice (some ⟨g, 0, none⟩) 1 1 ∧ Lies w' w'.heap.size (some ⟨g, 0, none⟩) g 0 ([.int .i64 x.2.1])
                  | 16 => Wide 1 w' 0 v (zs c ++ [.int .i64 x.2.1]) ∧ (v.ownBlock = Value.ownBlock (.slice s2 n2 d2) ∨ ∃ j, v.ownBlock = some j ∧ w7.heap.size ≤ j)
                  | 17 => v = .pointer (some ⟨Bt, 0, none⟩)
                  | 18 => v = .pointer (some ⟨Bt, 1, none⟩)
                  | _ => True) (fun hh oq => match oq with
                  | 15 => hh 16
                  | _ => false) [] (by kernel_rfl) (by kernel_rfl) (by kernel_rfl) ⟨(Kept.refl _ _).drew, HWD.out.below (Below.refl _ _).drew⟩ ?gb ?vb ?db ?steps ?fin
              case gb => exact fun a b h1 h2 => ⟨h1.1.then h2, h1.2.below h2⟩
              case vb =>
                intro oq v a b h hb
                match oq with
                | 0 => exact h
                | 1 => exact h
                | 2 => exact h
                | 3 => exact h
                | 4 => exact h
                | 5 => exact h
                | 6 => exact h
                | 7 => exact h
                | 8 => exact h
                | 9 => exact h
                | 10 => exact h
                | 11 => exact h
                | 12 => exact h
                | 13 => exact h
                | 14 => exact h
                | 15 => (obtain ⟨g, h1, h2⟩ := h; exact ⟨g, h1, h2.below hb⟩)
                | 16 => exact ⟨h.1.below hb, h.2⟩
                | 17 => exact h
                | 18 => exact h
                | _ + 19 => trivial
              case db =>
                intro hh i oq h
                split at h
                · exact turnOn_of h
                · cases h
              case steps =>
                intro vals
                simp only [List.take_succ_cons, List.take_zero, freeStepsK, Act.put, List.setIfInBounds_toArray, List.set_cons_zero, List.set_cons_succ, Nat.reduceAdd]
                refine ⟨fun hh w8 hi hK hG hW hV => ?_, fun hh w8 hi hK hG hW hV => ?_, fun hh w8 hi hK hG hW hV => ?_, fun hh w8 hi hK hG hW hV => ?_, fun hh w8 hi hK hG hW hV => ?_, fun hh w8 hi hK hG hW hV => ?_, fun hh w8 hi hK hG hW hV => ?_, fun hh w8 hi hK hG hW hV => ?_, fun hh w8 hi hK hG hW hV => ?_, fun hh w8 hi hK hG hW hV => ?_, fun hh w8 hi hK hG hW hV => ?_, fun hh w8 hi hK hG hW hV => ?_, fun hh w8 hi hK hG hW hV => ?_, fun hh w8 hi hK hG hW hV => ?_, fun hh w8 hi hK hG hW hV => ?_, fun hh w8 hi hK hG hW hV => ?_, fun hh w8 hi hK hG hW hV => ?_, fun hh w8 hi hK hG hW hV => ?_, fun hh w8 hi hK hG hW hV => ?_, trivial⟩
                · clear hW hV hK hi
                  refine stepAt_value rfl rfl rfl (.pointer (some ⟨Bt, 0, none⟩)) w8 ?_ ⟨rfl, .inl (Below.refl _ _)⟩
                  go_simp
                · clear hW hV hK hi
                  refine stepAt_value rfl rfl rfl (.pointer (some ⟨Bt, 0, none⟩)) w8 ?_ ⟨rfl, .inl (Below.refl _ _)⟩
                  go_simp
                · have q1 := hV 1 (hW 1 (by decide)) rfl
                  simp only at q1
                  rw [q1]
                  clear hW hV hK hi
                  refine stepAt_value rfl rfl rfl (.pointer (some ⟨Bt, 0, none⟩)) w8 ?_ ⟨rfl, .inl (Below.refl _ _)⟩
                  go_simp
                · have q2 := hV 2 (hW 2 (by decide)) rfl
                  simp only at q2
                  rw [q2]
                  clear hW hV hK hi
                  refine stepAt_value rfl rfl rfl (.pointer (some ⟨Bt, 1, none⟩)) w8 ?_ ⟨rfl, .inl (Below.refl _ _)⟩
                  go_simp
                · have q3 := hV 3 (hW 3 (by decide)) rfl
                  simp only at q3
                  rw [q3]
                  clear hW hV hK hi
                  have c := ((HBLK.out.kept hG.1 HNB.out).cell 1).trans HCE.out
                  refine stepAt_value rfl rfl rfl (.slice s2 n2 d2) w8 ?_ ⟨rfl, .inl (Below.refl _ _)⟩
                  go_simp
                · clear hW hV hK hi
                  refine stepAt_value rfl rfl rfl (.pointer (some ⟨rb, 0, none⟩)) w8 ?_ ⟨rfl, .inl (Below.refl _ _)⟩
                  go_simp
                · have q5 := hV 5 (hW 5 (by decide)) rfl
                  simp only at q5
                  rw [q5]
                  clear hW hV hK hi
                  refine stepAt_value rfl rfl rfl (.pointer (some ⟨rb, 0, none⟩)) w8 ?_ ⟨rfl, .inl (Below.refl _ _)⟩
                  go_simp
                · have q6 := hV 6 (hW 6 (by decide)) rfl
                  simp only at q6
                  rw [q6]
                  clear hW hV hK hi
                  refine stepAt_value rfl rfl rfl (.pointer (some ⟨rb, 0, none⟩)) w8 ?_ ⟨rfl, .inl (Below.refl _ _)⟩
                  go_simp
                · have q7 := hV 7 (hW 7 (by decide)) rfl
                  simp only at q7
                  rw [q7]
                  clear hW hV hK hi
                  refine stepAt_value rfl rfl rfl (.pointer (some ⟨mb, 0, none⟩)) w8 ?_ ⟨rfl, .inl (Below.refl _ _)⟩
                  have c := (HD.out.below (HRK.out w8 hG.1)).cellT
                  go_simp
                · have q8 := hV 8 (hW 8 (by decide)) rfl
                  simp only at q8
                  rw [q8]
                  clear hW hV hK hi
                  refine stepAt_value rfl rfl rfl (.pointer (some ⟨mb, 0, none⟩)) w8 ?_ ⟨rfl, .inl (Below.refl _ _)⟩
                  go_simp
                · have q9 := hV 9 (hW 9 (by decide)) rfl
                  simp only at q9
                  rw [q9]
                  clear hW hV hK hi
                  refine stepAt_value rfl rfl rfl (.pointer (some ⟨mb, 1, none⟩)) w8 ?_ ⟨rfl, .inl (Below.refl _ _)⟩
                  go_simp
                · have q10 := hV 10 (hW 10 (by decide)) rfl
                  simp only at q10
                  rw [q10]
                  clear hW hV hK hi
                  refine stepAt_value rfl rfl rfl (.slice (some ⟨g2, o2, none⟩) N c2) w8 ?_ ⟨rfl, .inl (Below.refl _ _)⟩
                  have c := (HRS.out.below (HRK.out w8 hG.1)).cell1
                  rw [hnt] at c
                  go_simp
                · clear hW hV hK hi
                  refine stepAt_value rfl rfl rfl (.int .i64 (k : Int)) w8 ?_ ⟨rfl, .inl (Below.refl _ _)⟩
                  go_simp
                · have q11 := hV 11 (hW 11 (by decide)) rfl
                  simp only at q11
                  have q12 := hV 12 (hW 12 (by decide)) rfl
                  simp only at q12
                  rw [q11, q12]
                  clear hW hV hK hi
                  refine stepAt_value rfl rfl rfl (.pointer (some ⟨g2, o2 + k, none⟩)) w8 ?_ ⟨rfl, .inl (Below.refl _ _)⟩
                  go_simp
                · have q13 := hV 13 (hW 13 (by decide)) rfl
                  simp only at q13
                  rw [q13]
                  clear hW hV hK hi
                  refine stepAt_value rfl rfl rfl (.int .i64 x.2.1) w8 ?_ ⟨rfl, .inl (Below.refl _ _)⟩
                  have c := (slots_at (HRS.out.below (HRK.out w8 hG.1)).l2 HXA.out).2
                  go_simp
                · have q14 := hV 14 (hW 14 (by decide)) rfl
                  simp only at q14
                  rw [q14]
                  clear hW hV hK hi
                  refine stepAt_value rfl rfl rfl (.slice (some ⟨w8.heap.size, 0, none⟩) 1 1) (w8.alloc (.cells ([.int .i64 x.2.1]).toArray 3)) ?_ ⟨⟨w8.heap.size, rfl, ⟨fun _ => rfl, fun _ => by simp, fun j u hj => by rw [Nat.zero_add]; exact ((Blk.new w8 3 ([.int .i64 x.2.1]).toArray).cell j).trans hj⟩⟩, .inl ((Below.refl _ _).alloc (Nat.le_refl _) _)⟩
                  go_simp
                · have q4 := hV 4 (hW 4 (by decide)) rfl
                  simp only at q4
                  obtain ⟨g, q6, hl6⟩ := hV 15 (hW 15 (by decide)) hi
                  rw [q4, q6]
                  refine stepAt_append_wide2 rfl rfl rfl _ _ 42 42 rfl rfl hG.2 (by omega) 3 j0 (.int .i64 0) 8 Try.underlying42 ji0 jz0 jz1 jz2 jzc _ rfl 1 ([.int .i64 x.2.1]) (hl6.src 1 42 3 Try.underlying42 rfl (fun u hu => by simp at hu; rw [hu]; rfl) (by omega)) ?_ ?_ (Nat.zero_le _) fun v' w' h1 h2 h3 => ⟨⟨h1, ?_⟩, .inr ⟨⟨hG.1.trans (Kept.of_grown _ h2.grown (fun j hj => mem_ownL.2 hj)) (NewF.refl _ _), h3⟩, fun j hj hd => ?_⟩⟩
                  · rw [HZL.out]; unfold maxLen; omega
                  · rw [HZL.out]; omega
                  · rcases h2.own with h | ⟨j, h, hj⟩
                    · exact .inl h
                    · exact .inr ⟨j, h, Nat.le_trans hG.1.size hj⟩
                  · match j, hj, hd with
                    | 0, hj, _ => exact hV 0 hj rfl
                    | 1, hj, _ => exact hV 1 hj rfl
                    | 2, hj, _ => exact hV 2 hj rfl
                    | 3, hj, _ => exact hV 3 hj rfl
                    | 4, hj, _ => exact hV 4 hj rfl
                    | 5, hj, _ => exact hV 5 hj rfl
                    | 6, hj, _ => exact hV 6 hj rfl
                    | 7, hj, _ => exact hV 7 hj rfl
                    | 8, hj, _ => exact hV 8 hj rfl
                    | 9, hj, _ => exact hV 9 hj rfl
                    | 10, hj, _ => exact hV 10 hj rfl
                    | 11, hj, _ => exact hV 11 hj rfl
                    | 12, hj, _ => exact hV 12 hj rfl
                    | 13, hj, _ => exact hV 13 hj rfl
                    | 14, hj, _ => exact hV 14 hj rfl
                    | 15, _, hd => simp only [turnOn_self] at hd; cases hd
                    | 16, hj, _ => rw [hi] at hj; cases hj
                    | 17, hj, _ => exact hV 17 hj rfl
                    | 18, hj, _ => exact hV 18 hj rfl
                    | _ + 19, _, _ => trivial
                · have q0 := hV 0 (hW 0 (by decide)) rfl
                  simp only at q0
                  rw [q0]
                  clear hW hV hK hi
                  refine stepAt_value rfl rfl rfl (.pointer (some ⟨Bt, 0, none⟩)) w8 ?_ ⟨rfl, .inl (Below.refl _ _)⟩
                  go_simp
                · have q17 := hV 17 (hW 17 (by decide)) rfl
                  simp only at q17
                  rw [q17]
                  clear hW hV hK hi
                  refine stepAt_value rfl rfl rfl (.pointer (some ⟨Bt, 1, none⟩)) w8 ?_ ⟨rfl, .inl (Below.refl _ _)⟩
                  go_simp
              case fin =>
                intro hh vals w11 hall hG hV
                have q7 := hV 16 (hall 16 (by omega)) rfl
                have q9 := hV 18 (hall 18 (by omega)) rfl
                simp only at q7 q9
                simp only [List.take_succ_cons, List.take_zero, List.drop_succ_cons, List.drop_zero, putAll, Act.put, List.setIfInBounds_toArray, List.set_cons_zero, List.set_cons_succ, Nat.reduceAdd]
                rw [q9]
                have HG := Lib.hid hG.1
                have HW7 := Lib.hid q7.1
                have HO7 := Lib.hid q7.2
                clear hV q7 q9 hG hall
                generalize vals 0 = x0
                generalize vals 1 = x1
                generalize vals 2 = x2
                generalize vals 3 = x3
                generalize vals 4 = x4
                generalize vals 5 = x5
                generalize vals 6 = x6
                generalize vals 7 = x7
                generalize vals 8 = x8
                generalize vals 9 = x9
                generalize vals 10 = x10
                generalize vals 11 = x11
                generalize vals 12 = x12
                generalize vals 13 = x13
                generalize vals 14 = x14
                generalize vals 15 = x15
                generalize vals 17 = x17
                obtain ⟨v7, hv7⟩ : ∃ v7, vals 16 = v7 := ⟨_, rfl⟩
                rw [hv7] at HW7 HO7 ⊢
                clear hv7
                obtain ⟨ao8, n8, cap8, b7, off7, e7, _, _⟩ := HW7.out.lies
                subst e7
                have c9 := (HBLK.out.kept HG.out HNB.out).cell 1
                have f9 := (HBLK.out.kept HG.out HNB.out).free 1
                go_upto_region 12 with fail
                clear c9 f9 HRK HZL
                obtain ⟨F8, hm, hj⟩ := HM.out.stored (i := 1) rfl HG.out HW7.out (by simp) HO7.out
                have hjHY := hj _ HY.out.lt HYF.out
                replace HY := Lib.hid (show Blk _ Y 24 (bv x.1) from hjHY.2.trans HY.out)
                replace HYF := Lib.hid hjHY.1
                replace HM := Lib.hid hm
                clear hm hj hjHY HOF HNB HWD HCE HBLK HG HW7 HO7
                generalize w11.setCell ⟨Bt, 1, none⟩ (.slice ao8 n8 cap8) = w9 at HM HY ⊢
                obtain ⟨F, rfl⟩ : ∃ z, z = F8 := ⟨_, rfl⟩
                have HPP := Lib.hid (pns_at HXA.out)
                have HPA := Lib.hid (show (pnm t x.2.2).length = 32 from HGD.out.pnm_len _)
                obtain ⟨ha3, hc3⟩ := (HRS.out.below HM.out.bel).l3.name HGD.out.pns_len HPP.out
                subst ha3
                have HC3 := Lib.hid hc3
                have k0 := (HD.out.below HM.out.bel).cellT
                have k2 := (HRS.out.below HM.out.bel).cell2
                rw [hnt] at k2
                have hlt' : (k : Int) < (N : Int) := by omega
                clear hc3
                have HZB := Lib.hid HM.out.bel.size
                have HZO := Lib.hid HM.out.ap
                have hYL := Lib.hid HY.out.lt
                have HZF0 := Lib.hid HM.out.sls.low
                have HZ := Lib.hid (blk_zeroR w9)
                have HZL := Lib.hid zero32_len
                have HZZ := Lib.hid (HZ.out.setRow (bv (pnm t x.2.2)))
                have hbx : Below w9.heap.size w9 ((w9.alloc (.cells #[.int .u8 0, .int .u8 0, .int .u8 0, .int .u8 0, .int .u8 0, .int .u8 0, .int .u8 0, .int .u8 0, .int .u8 0, .int .u8 0, .int .u8 0, .int .u8 0, .int .u8 0, .int .u8 0, .int .u8 0, .int .u8 0, .int .u8 0, .int .u8 0, .int .u8 0, .int .u8 0, .int .u8 0, .int .u8 0, .int .u8 0, .int .u8 0, .int .u8 0, .int .u8 0, .int .u8 0, .int .u8 0, .int .u8 0, .int .u8 0, .int .u8 0, .int .u8 0] 24)).setRow w9.heap.size (bv (pnm t x.2.2)).toArray) := below_row ((Below.refl _ w9).alloc (Nat.le_refl _) _) (Nat.le_refl _) _
                replace HM := Lib.hid (HM.out.below hbx)
                replace HY := Lib.hid (HY.out.below hbx HY.out.lt)
                clear hbx
                obtain ⟨Z, hRR⟩ : ∃ Z, Z = w9.heap.size := ⟨_, rfl⟩
                have HZZF := Lib.hid (show Z ∉ F from fun hm => by have := HZF0.out Z hm; omega)
                have HYZ := Lib.hid (show Y ≠ Z by have := hYL.out; omega)
                have HZZL := Lib.hid (show w2.heap.size ≤ Z ∧ u8.ownBlock ≠ some Z from ⟨by rw [hRR]; exact HZB.out, fun e => by have := (HZO.out Z e).1; omega⟩)
                go_upto_region 13 with (first | ((with_reducible refine wpList_load_name (.tmp 87) ?_ ?_ g3 (o3 + k * 32) (pnm t x.2.2) ?_ HPA.out HC3.out ?_); rfl; rfl; rfl) | ((with_reducible refine wpList_store_name (.tmp 11) (.tmp 88) ?_ ?_ w9.heap.size zero32 (pnm t x.2.2) ?_ ?_ HZ.out HZL.out HPA.out ?_); rfl; rfl; rfl; rfl))
                try simp only [Act.put]
                rw [← hRR] at HZZ HM HY ⊢
                generalize (w9.alloc (.cells #[.int .u8 0, .int .u8 0, .int .u8 0, .int .u8 0, .int .u8 0, .int .u8 0, .int .u8 0, .int .u8 0, .int .u8 0, .int .u8 0, .int .u8 0, .int .u8 0, .int .u8 0, .int .u8 0, .int .u8 0, .int .u8 0, .int .u8 0, .int .u8 0, .int .u8 0, .int .u8 0, .int .u8 0, .int .u8 0, .int .u8 0, .int .u8 0, .int .u8 0, .int .u8 0, .int .u8 0, .int .u8 0, .int .u8 0, .int .u8 0, .int .u8 0, .int .u8 0] 24)).setRow Z (bv (pnm t x.2.2)).toArray = w12 at HZZ HM HY ⊢
                clear HZ HZL hRR
                clear k0 k2 HC3 HZF0 hYL hnt hlt hlt'
                by_cases hkp : k = p
                · have hq : ((k : Int) == (p : Int)) = true := by rw [beq_iff_eq]; omega
                  have HPZ := Lib.hid (show PN = zero32 by rw [← HPN.out, cutPn, if_pos hkp])
                  have HZL0 := Lib.hid zero32_len
                  have HZW := Lib.hid (HZZ.out.setRow (bv zero32))
                  have HMW := Lib.hid (HM.out.row HZZF.out HZZL.out zero32)
                  have HYW := Lib.hid (HY.out.setRow_other (bv zero32).toArray HYZ.out)
                  go_upto_region 15 with ((with_reducible refine wpList_store_name (.tmp 11) (.tmp 92) ?_ ?_ Z (pnm t x.2.2) zero32 ?_ ?_ HZZ.out HPA.out HZL0.out ?_); rfl; rfl; rfl; rfl)
                  try simp only [Act.put]
                  rw [← HPZ.out] at HZW HMW HYW ⊢
                  generalize w12.setRow Z (bv PN).toArray = w13 at HZW HMW HYW ⊢
                  replace HM := HMW
                  replace HY := HYW
                  replace HZZ := HZW
                  clear HMW HYW HZW HZL0 hq hkp HPZ
                  have HBLK := Lib.hid HM.out.sls.blk
                  have HCE := Lib.hid (show (((((refItems (.slice s1 n1 d1) (.slice s2 n2 d2) (.slice s3 n3 d3) c).set 0 (32, .slice ao7 n7 cap7, rv (rs c) ++ bv x.1)).set 1 (1, .slice ao8 n8 cap8, zs c ++ [.int .i64 x.2.1]))).map (·.2.1) ++ [.int .i64 most])[2]? = some (.slice s3 n3 d3) from rfl)
                  have HWD := Lib.hid (HM.out.sls.wide (32, .slice s3 n3 d3, rv (pns c)) (by simp [refItems]))
                  have HNB := Lib.hid (show Bt ∉ ownL (.slice s3 n3 d3) from fun hx => HM.out.sls.nb (32, .slice s3 n3 d3, rv (pns c)) (by simp [refItems]) (mem_ownL.1 hx))
                  have HOF := Lib.hid (show ∀ j ∈ ownL (.slice s3 n3 d3), j ∈ F from fun j hj => HM.out.sls.inv (32, .slice s3 n3 d3, rv (pns c)) (by simp [refItems]) j (mem_ownL.1 hj))
                  refine wp_region_freeK (P := Try.prog) 10 (fun w' => Kept (ownL (.slice s3 n3 d3)) w13 w' ∧ Wide 32 w' 0 (.slice s3 n3 d3) (rv (pns c))) (fun oq v w' => match oq with
                      | 0 => v = .pointer (some ⟨Bt, 0, none⟩)
                      | 1 => v = .pointer (some ⟨Bt, 0, none⟩)
                      | 2 => v = .pointer (some ⟨Bt, 0, none⟩)
                      | 3 => v = .pointer (some ⟨Bt, 2, none⟩)
                      | 4 => v = .slice s3 n3 d3
                      | 5 => v = .agg (bv PN).toArray
                      | 6 => ∃ g, v = .slice (some ⟨g, 0, none⟩) 1 1 ∧ Lies w' w'.heap.size (some ⟨g, 0, none⟩) g 0 (bv PN)
                      | 7 => Wide 32 w' 0 v (rv (pns c) ++ bv PN) ∧ (v.ownBlock = Value.ownBlock (.slice s3 n3 d3) ∨ ∃ j, v.ownBlock = some j ∧ w13.heap.size ≤ j)
                      | 8 => v = .pointer (some ⟨Bt, 0, none⟩)
                      | 9 => v = .pointer (some ⟨Bt, 2, none⟩)
                      | _ => True) (fun hh oq => match oq with
                      | 6 => hh 7
                      | _ => false) [] (by kernel_rfl) (by kernel_rfl) (by kernel_rfl) ⟨(Kept.refl _ _).drew, HWD.out.below (Below.refl _ _).drew⟩ ?gb ?vb ?db ?steps ?fin
                  case gb => exact fun a b h1 h2 => ⟨h1.1.then h2, h1.2.below h2⟩
                  case vb =>
                    intro oq v a b h hb
                    match oq with
                    | 0 => exact h
                    | 1 => exact h
                    | 2 => exact h
                    | 3 => exact h
                    | 4 => exact h
                    | 5 => exact h
                    | 6 => (obtain ⟨g, h1, h2⟩ := h; exact ⟨g, h1, h2.below hb⟩)
                    | 7 => exact ⟨h.1.below hb, h.2⟩
                    | 8 => exact h
                    | 9 => exact h
                    | _ + 10 => trivial
                  case db =>
                    intro hh i oq h
                    split at h
                    · exact turnOn_of h
                    · cases h
                  case steps =>
                    intro vals
                    simp only [List.take_succ_cons, List.take_zero, freeStepsK, Act.put, List.setIfInBounds_toArray, List.set_cons_zero, List.set_cons_succ, Nat.reduceAdd]
                    refine ⟨fun hh w8 hi hK hG hW hV => ?_, fun hh w8 hi hK hG hW hV => ?_, fun hh w8 hi hK hG hW hV => ?_, fun hh w8 hi hK hG hW hV => ?_, fun hh w8 hi hK hG hW hV => ?_, fun hh w8 hi hK hG hW hV => ?_, fun hh w8 hi hK hG hW hV => ?_, fun hh w8 hi hK hG hW hV => ?_, fun hh w8 hi hK hG hW hV => ?_, fun hh w8 hi hK hG hW hV => ?_, trivial⟩
                    · clear hW hV hK hi
                      refine stepAt_value rfl rfl rfl (.pointer (some ⟨Bt, 0, none⟩)) w8 ?_ ⟨rfl, .inl (Below.refl _ _)⟩
                      go_simp
                    · clear hW hV hK hi
                      refine stepAt_value rfl rfl rfl (.pointer (some ⟨Bt, 0, none⟩)) w8 ?_ ⟨rfl, .inl (Below.refl _ _)⟩
                      go_simp
                    · have q1 := hV 1 (hW 1 (by decide)) rfl
                      simp only at q1
                      rw [q1]
                      clear hW hV hK hi
                      refine stepAt_value rfl rfl rfl (.pointer (some ⟨Bt, 0, none⟩)) w8 ?_ ⟨rfl, .inl (Below.refl _ _)⟩
                      go_simp
                    · have q2 := hV 2 (hW 2 (by decide)) rfl
                      simp only at q2
                      rw [q2]
                      clear hW hV hK hi
                      refine stepAt_value rfl rfl rfl (.pointer (some ⟨Bt, 2, none⟩)) w8 ?_ ⟨rfl, .inl (Below.refl _ _)⟩
                      go_simp
                    · have q3 := hV 3 (hW 3 (by decide)) rfl
                      simp only at q3
                      rw [q3]
                      clear hW hV hK hi
                      have c := ((HBLK.out.kept hG.1 HNB.out).cell 2).trans HCE.out
                      refine stepAt_value rfl rfl rfl (.slice s3 n3 d3) w8 ?_ ⟨rfl, .inl (Below.refl _ _)⟩
                      go_simp
                    · clear hW hV hK hi
                      refine stepAt_load_run rfl rfl rfl _ _ rfl _ _ rfl (run_load_root hpl (HZZ.out.kept hG.1 (fun hm => HZZF.out (HOF.out _ hm))).rootAll) ⟨rfl, .inl (Below.refl _ _)⟩
                    · have q5 := hV 5 (hW 5 (by decide)) rfl
                      simp only at q5
                      rw [q5]
                      clear hW hV hK hi
                      refine stepAt_build_rows rfl rfl rfl 37 24 1 _ rfl i0 (.agg (bv zero32).toArray) (s := 32) (by omega) [bv PN] (fun rr hrr => by simp at hrr; rw [hrr]; exact (by rw [bv_length, hpl])) Try.underlying37 hi0 hz0 hz1 rfl (by omega) (by omega) rfl ⟨⟨w8.heap.size, rfl, ?_⟩, .inl ((Below.refl _ _).alloc (Nat.le_refl _) _)⟩
                      rw [show ([bv PN] : List (List Value)).flatten = bv PN by simp]
                      exact ⟨fun _ => rfl, fun _ => by simp, fun j u hj => by rw [Nat.zero_add]; exact ((Blk.new w8 24 (bv PN).toArray).cell j).trans hj⟩
                    · have q4 := hV 4 (hW 4 (by decide)) rfl
                      simp only at q4
                      obtain ⟨g, q6, hl6⟩ := hV 6 (hW 6 (by decide)) hi
                      rw [q4, q6]
                      refine stepAt_append_wide2 rfl rfl rfl _ _ 37 37 rfl rfl hG.2 (by omega) 24 i0 (.agg (bv zero32).toArray) 32 Try.underlying37 hi0 hz0 hz1 hz2 hzc _ rfl 1 (bv PN) (hl6.src 1 37 24 Try.underlying37 ((by rw [bv_length, hpl])) (bv_one PN) (by omega)) ?_ ?_ (Nat.zero_le _) fun v' w' h1 h2 h3 => ⟨⟨h1, ?_⟩, .inr ⟨⟨hG.1.trans (Kept.of_grown _ h2.grown (fun j hj => mem_ownL.2 hj)) (NewF.refl _ _), h3⟩, fun j hj hd => ?_⟩⟩
                      · rw [HL3.out]; unfold maxLen; omega
                      · rw [HL3.out]; omega
                      · rcases h2.own with h | ⟨j, h, hj⟩
                        · exact .inl h
                        · exact .inr ⟨j, h, Nat.le_trans hG.1.size hj⟩
                      · match j, hj, hd with
                        | 0, hj, _ => exact hV 0 hj rfl
                        | 1, hj, _ => exact hV 1 hj rfl
                        | 2, hj, _ => exact hV 2 hj rfl
                        | 3, hj, _ => exact hV 3 hj rfl
                        | 4, hj, _ => exact hV 4 hj rfl
                        | 5, hj, _ => exact hV 5 hj rfl
                        | 6, _, hd => simp only [turnOn_self] at hd; cases hd
                        | 7, hj, _ => rw [hi] at hj; cases hj
                        | 8, hj, _ => exact hV 8 hj rfl
                        | 9, hj, _ => exact hV 9 hj rfl
                        | _ + 10, _, _ => trivial
                    · have q0 := hV 0 (hW 0 (by decide)) rfl
                      simp only at q0
                      rw [q0]
                      clear hW hV hK hi
                      refine stepAt_value rfl rfl rfl (.pointer (some ⟨Bt, 0, none⟩)) w8 ?_ ⟨rfl, .inl (Below.refl _ _)⟩
                      go_simp
                    · have q8 := hV 8 (hW 8 (by decide)) rfl
                      simp only at q8
                      rw [q8]
                      clear hW hV hK hi
                      refine stepAt_value rfl rfl rfl (.pointer (some ⟨Bt, 2, none⟩)) w8 ?_ ⟨rfl, .inl (Below.refl _ _)⟩
                      go_simp
                  case fin =>
                    intro hh vals w14 hall hG hV
                    have q7 := hV 7 (hall 7 (by omega)) rfl
                    have q9 := hV 9 (hall 9 (by omega)) rfl
                    simp only at q7 q9
                    simp only [List.take_succ_cons, List.take_zero, List.drop_succ_cons, List.drop_zero, putAll, Act.put, List.setIfInBounds_toArray, List.set_cons_zero, List.set_cons_succ, Nat.reduceAdd]
                    rw [q9]
                    have HG := Lib.hid hG.1
                    have HW7 := Lib.hid q7.1
                    have HO7 := Lib.hid q7.2
                    clear hV q7 q9 hG hall
                    generalize vals 0 = x0
                    generalize vals 1 = x1
                    generalize vals 2 = x2
                    generalize vals 3 = x3
                    generalize vals 4 = x4
                    generalize vals 5 = x5
                    generalize vals 6 = x6
                    generalize vals 8 = x8
                    obtain ⟨v7, hv7⟩ : ∃ v7, vals 7 = v7 := ⟨_, rfl⟩
                    rw [hv7] at HW7 HO7 ⊢
                    clear hv7
                    obtain ⟨ao9, n9, cap9, b7, off7, e7, _, _⟩ := HW7.out.lies
                    subst e7
                    have c9 := (HBLK.out.kept HG.out HNB.out).cell 2
                    have f9 := (HBLK.out.kept HG.out HNB.out).free 2
                    go_upto_region 16 with fail
                    clear c9 f9
                    obtain ⟨F9, hm, hj⟩ := HM.out.stored (i := 2) rfl HG.out HW7.out (by rw [List.length_append, bv_length, hpl]; omega) HO7.out
                    have hjHY := hj _ HY.out.lt HYF.out
                    replace HY := Lib.hid (show Blk _ Y 24 (bv x.1) from hjHY.2.trans HY.out)
                    replace HYF := Lib.hid hjHY.1
                    replace HM := Lib.hid hm
                    clear hm hj hjHY HOF HNB HWD HCE HBLK HG HW7 HO7
                    generalize w14.setCell ⟨Bt, 2, none⟩ (.slice ao9 n9 cap9) = w15 at HM HY ⊢
                    obtain ⟨F, rfl⟩ : ∃ z, z = F9 := ⟨_, rfl⟩
                    have hsf := sls_cut HE1.out HE2.out HE3.out HM.out.sls
                    replace HM := Lib.hid (show RaM w2 Bt most (refItems (.slice ao7 n7 cap7) (.slice ao8 n8 cap8) (.slice ao9 n9 cap9) (cutN t p (k + 1))) u8 (cuoN t own p k) F w15 from ⟨hsf, HM.out.hi, HM.out.own, HM.out.ap, HM.out.bel⟩)
                    clear hsf
                    have HYC := Lib.hid HY.out.rootAll
                    go_wp2_with ((with_reducible refine wpList_load_name (.tmp 10) ?_ ?_ Y 0 x.1 ?_ hxl HYC.out ?_); rfl; rfl; rfl)
                    refine (rown_any w15 M mb t R rb own most x.1 (HD.out.below HM.out.bel) hxl).mono ?_
                    rintro e w16 ⟨rfl, hbc⟩
                    replace HM := Lib.hid (HM.out.below hbc)
                    clear hbc HYC HY HYF HZZ HZZF HYZ
                    rw [tellZ_at HGD.out HXA.out (show k < own.length by rw [HLW.out, HN.out]; exact HLT.out)]
                    obtain ⟨so, sn, sc, sg, soff, rfl, hsn, _⟩ := HM.out.own.lies
                    rw [zv_length, cuoN_length] at hsn
                    have HSN := Lib.hid (show sn ≤ k by have := nuN_le t p k; omega)
                    have hb1 : Below w16.heap.size w16 (w16.alloc (.cells #[.int .i64 (owZ own k)] 3)) := (Below.refl _ _).alloc (Nat.le_refl _) _
                    have HM2 := Lib.hid (HM.out.below hb1)
                    have HSRC := Lib.hid (src_z w16 42 Try.underlying42 (owZ own k))
                    have HQ1 := Lib.hid (show (zv (cuoN t own p k)).length + 1 ≤ maxLen by rw [zv_length, cuoN_length]; have := nuN_le t p k; have := HNL.out; have := HLT.out; unfold maxLen; omega)
                    have HQ2 := Lib.hid (show ((zv (cuoN t own p k)).length + 1) * 8 ≤ 140737488355328 by rw [zv_length, cuoN_length]; have := nuN_le t p k; have := HNL.out; have := HLT.out; omega)
                    have HSk := Lib.hid HM2.out.bel.size
                    have HWO := Lib.hid HM2.out.own
                    clear hb1 hsn hcl hxl hpl
                    go_wp2_with (at_builtin; refine wpList_append_wide rfl _ _ 42 42 rfl rfl HWO.out (by decide) 3 j0 (.int .i64 0) 8 Try.underlying42 ji0 jz0 jz1 jz2 rfl _ rfl 1 (zv [owZ own k]) HSRC.out HQ1.out HQ2.out HSk.out ?_)
                    intro v' w17 hv hg
                    rw [← zv_append, ← HCO.out] at hv
                    have HRN := Lib.hid (show RaS w2 Bt most (cutN t p (k + 1)) v' (cuoN t own p (k + 1)) w17 from ⟨_, _, _, _, HM2.out.grown hv (by rw [HCO.out]; simp) hg⟩)
                    clear hv hg HM HM2 HSRC HQ1 HQ2 HSk HWO
                    have hlk := HLT.out
                    go_wp2_with fail
                    go_roundw
                    case rel => exact ⟨k + 1, by omega, by first | rw [HWK.out] | rw [Int.natCast_succ], HRN⟩
                    case measure => first | exact measK N k 1 ((k : Int) + 1) (by omega) hlk Nat.zero_lt_one | exact measK N k 1 (wrap64 ((k : Int) + 1)) HWK.out hlk Nat.zero_lt_one
                · have hq : ((k : Int) == (p : Int)) = false := by rw [beq_eq_false_iff_ne]; omega
                  have HPZ := Lib.hid (show PN = pnm t x.2.2 by rw [← HPN.out, cutPn, if_neg hkp, parW_at HXA.out])
                  go_upto_region 15 with fail
                  rw [← HPZ.out] at HZZ
                  obtain ⟨w13, rfl⟩ : ∃ z, z = w12 := ⟨_, rfl⟩
                  clear hq hkp HPZ
                  have HBLK := Lib.hid HM.out.sls.blk
                  have HCE := Lib.hid (show (((((refItems (.slice s1 n1 d1) (.slice s2 n2 d2) (.slice s3 n3 d3) c).set 0 (32, .slice ao7 n7 cap7, rv (rs c) ++ bv x.1)).set 1 (1, .slice ao8 n8 cap8, zs c ++ [.int .i64 x.2.1]))).map (·.2.1) ++ [.int .i64 most])[2]? = some (.slice s3 n3 d3) from rfl)
                  have HWD := Lib.hid (HM.out.sls.wide (32, .slice s3 n3 d3, rv (pns c)) (by simp [refItems]))
                  have HNB := Lib.hid (show Bt ∉ ownL (.slice s3 n3 d3) from fun hx => HM.out.sls.nb (32, .slice s3 n3 d3, rv (pns c)) (by simp [refItems]) (mem_ownL.1 hx))
                  have HOF := Lib.hid (show ∀ j ∈ ownL (.slice s3 n3 d3), j ∈ F from fun j hj => HM.out.sls.inv (32, .slice s3 n3 d3, rv (pns c)) (by simp [refItems]) j (mem_ownL.1 hj))
                  refine wp_region_freeK (P := Try.prog) 10 (fun w' => Kept (ownL (.slice s3 n3 d3)) w13 w' ∧ Wide 32 w' 0 (.slice s3 n3 d3) (rv (pns c))) (fun oq v w' => match oq with
                      | 0 => v = .pointer (some ⟨Bt, 0, none⟩)
                      | 1 => v = .pointer (some ⟨Bt, 0, none⟩)
                      | 2 => v = .pointer (some ⟨Bt, 0, none⟩)
                      | 3 => v = .pointer (some ⟨Bt, 2, none⟩)
                      | 4 => v = .slice s3 n3 d3
                      | 5 => v = .agg (bv PN).toArray
                      | 6 => ∃ g, v = .slice (some ⟨g, 0, none⟩) 1 1 ∧ Lies w' w'.heap.size (some ⟨g, 0, none⟩) g 0 (bv PN)
                      | 7 => Wide 32 w' 0 v (rv (pns c) ++ bv PN) ∧ (v.ownBlock = Value.ownBlock (.slice s3 n3 d3) ∨ ∃ j, v.ownBlock = some j ∧ w13.heap.size ≤ j)
                      | 8 => v = .pointer (some ⟨Bt, 0, none⟩)
                      | 9 => v = .pointer (some ⟨Bt, 2, none⟩)
                      | _ => True) (fun hh oq => match oq with
                      | 6 => hh 7
                      | _ => false) [] (by kernel_rfl) (by kernel_rfl) (by kernel_rfl) ⟨(Kept.refl _ _).drew, HWD.out.below (Below.refl _ _).drew⟩ ?gb ?vb ?db ?steps ?fin
                  case gb => exact fun a b h1 h2 => ⟨h1.1.then h2, h1.2.below h2⟩
                  case vb =>
                    intro oq v a b h hb
                    match oq with
                    | 0 => exact h
                    | 1 => exact h
                    | 2 => exact h
                    | 3 => exact h
                    | 4 => exact h
                    | 5 => exact h
                    | 6 => (obtain ⟨g, h1, h2⟩ := h; exact ⟨g, h1, h2.below hb⟩)
                    | 7 => exact ⟨h.1.below hb, h.2⟩
                    | 8 => exact h
                    | 9 => exact h
                    | _ + 10 => trivial
                  case db =>
                    intro hh i oq h
                    split at h
                    · exact turnOn_of h
                    · cases h
                  case steps =>
                    intro vals
                    simp only [List.take_succ_cons, List.take_zero, freeStepsK, Act.put, List.setIfInBounds_toArray, List.set_cons_zero, List.set_cons_succ, Nat.reduceAdd]
                    refine ⟨fun hh w8 hi hK hG hW hV => ?_, fun hh w8 hi hK hG hW hV => ?_, fun hh w8 hi hK hG hW hV => ?_, fun hh w8 hi hK hG hW hV => ?_, fun hh w8 hi hK hG hW hV => ?_, fun hh w8 hi hK hG hW hV => ?_, fun hh w8 hi hK hG hW hV => ?_, fun hh w8 hi hK hG hW hV => ?_, fun hh w8 hi hK hG hW hV => ?_, fun hh w8 hi hK hG hW hV => ?_, trivial⟩
                    · clear hW hV hK hi
                      refine stepAt_value rfl rfl rfl (.pointer (some ⟨Bt, 0, none⟩)) w8 ?_ ⟨rfl, .inl (Below.refl _ _)⟩
                      go_simp
                    · clear hW hV hK hi
                      refine stepAt_value rfl rfl rfl (.pointer (some ⟨Bt, 0, none⟩)) w8 ?_ ⟨rfl, .inl (Below.refl _ _)⟩
                      go_simp
                    · have q1 := hV 1 (hW 1 (by decide)) rfl
                      simp only at q1
                      rw [q1]
                      clear hW hV hK hi
                      refine stepAt_value rfl rfl rfl (.pointer (some ⟨Bt, 0, none⟩)) w8 ?_ ⟨rfl, .inl (Below.refl _ _)⟩
                      go_simp
                    · have q2 := hV 2 (hW 2 (by decide)) rfl
                      simp only at q2
                      rw [q2]
                      clear hW hV hK hi
                      refine stepAt_value rfl rfl rfl (.pointer (some ⟨Bt, 2, none⟩)) w8 ?_ ⟨rfl, .inl (Below.refl _ _)⟩
                      go_simp
                    · have q3 := hV 3 (hW 3 (by decide)) rfl
                      simp only at q3
                      rw [q3]
                      clear hW hV hK hi
                      have c := ((HBLK.out.kept hG.1 HNB.out).cell 2).trans HCE.out
                      refine stepAt_value rfl rfl rfl (.slice s3 n3 d3) w8 ?_ ⟨rfl, .inl (Below.refl _ _)⟩
                      go_simp
                    · clear hW hV hK hi
                      refine stepAt_load_run rfl rfl rfl _ _ rfl _ _ rfl (run_load_root hpl (HZZ.out.kept hG.1 (fun hm => HZZF.out (HOF.out _ hm))).rootAll) ⟨rfl, .inl (Below.refl _ _)⟩
                    · have q5 := hV 5 (hW 5 (by decide)) rfl
                      simp only at q5
                      rw [q5]
                      clear hW hV hK hi
                      refine stepAt_build_rows rfl rfl rfl 37 24 1 _ rfl i0 (.agg (bv zero32).toArray) (s := 32) (by omega) [bv PN] (fun rr hrr => by simp at hrr; rw [hrr]; exact (by rw [bv_length, hpl])) Try.underlying37 hi0 hz0 hz1 rfl (by omega) (by omega) rfl ⟨⟨w8.heap.size, rfl, ?_⟩, .inl ((Below.refl _ _).alloc (Nat.le_refl _) _)⟩
                      rw [show ([bv PN] : List (List Value)).flatten = bv PN by simp]
                      exact ⟨fun _ => rfl, fun _ => by simp, fun j u hj => by rw [Nat.zero_add]; exact ((Blk.new w8 24 (bv PN).toArray).cell j).trans hj⟩
                    · have q4 := hV 4 (hW 4 (by decide)) rfl
                      simp only at q4
                      obtain ⟨g, q6, hl6⟩ := hV 6 (hW 6 (by decide)) hi
                      rw [q4, q6]
                      refine stepAt_append_wide2 rfl rfl rfl _ _ 37 37 rfl rfl hG.2 (by omega) 24 i0 (.agg (bv zero32).toArray) 32 Try.underlying37 hi0 hz0 hz1 hz2 hzc _ rfl 1 (bv PN) (hl6.src 1 37 24 Try.underlying37 ((by rw [bv_length, hpl])) (bv_one PN) (by omega)) ?_ ?_ (Nat.zero_le _) fun v' w' h1 h2 h3 => ⟨⟨h1, ?_⟩, .inr ⟨⟨hG.1.trans (Kept.of_grown _ h2.grown (fun j hj => mem_ownL.2 hj)) (NewF.refl _ _), h3⟩, fun j hj hd => ?_⟩⟩
                      · rw [HL3.out]; unfold maxLen; omega
                      · rw [HL3.out]; omega
                      · rcases h2.own with h | ⟨j, h, hj⟩
                        · exact .inl h
                        · exact .inr ⟨j, h, Nat.le_trans hG.1.size hj⟩
                      · match j, hj, hd with
                        | 0, hj, _ => exact hV 0 hj rfl
                        | 1, hj, _ => exact hV 1 hj rfl
                        | 2, hj, _ => exact hV 2 hj rfl
                        | 3, hj, _ => exact hV 3 hj rfl
                        | 4, hj, _ => exact hV 4 hj rfl
                        | 5, hj, _ => exact hV 5 hj rfl
                        | 6, _, hd => simp only [turnOn_self] at hd; cases hd
                        | 7, hj, _ => rw [hi] at hj; cases hj
                        | 8, hj, _ => exact hV 8 hj rfl
                        | 9, hj, _ => exact hV 9 hj rfl
                        | _ + 10, _, _ => trivial
                    · have q0 := hV 0 (hW 0 (by decide)) rfl
                      simp only at q0
                      rw [q0]
                      clear hW hV hK hi
                      refine stepAt_value rfl rfl rfl (.pointer (some ⟨Bt, 0, none⟩)) w8 ?_ ⟨rfl, .inl (Below.refl _ _)⟩
                      go_simp
                    · have q8 := hV 8 (hW 8 (by decide)) rfl
                      simp only at q8
                      rw [q8]
                      clear hW hV hK hi
                      refine stepAt_value rfl rfl rfl (.pointer (some ⟨Bt, 2, none⟩)) w8 ?_ ⟨rfl, .inl (Below.refl _ _)⟩
                      go_simp
                  case fin =>
                    intro hh vals w14 hall hG hV
                    have q7 := hV 7 (hall 7 (by omega)) rfl
                    have q9 := hV 9 (hall 9 (by omega)) rfl
                    simp only at q7 q9
                    simp only [List.take_succ_cons, List.take_zero, List.drop_succ_cons, List.drop_zero, putAll, Act.put, List.setIfInBounds_toArray, List.set_cons_zero, List.set_cons_succ, Nat.reduceAdd]
                    rw [q9]
                    have HG := Lib.hid hG.1
                    have HW7 := Lib.hid q7.1
                    have HO7 := Lib.hid q7.2
                    clear hV q7 q9 hG hall
                    generalize vals 0 = x0
                    generalize vals 1 = x1
                    generalize vals 2 = x2
                    generalize vals 3 = x3
                    generalize vals 4 = x4
                    generalize vals 5 = x5
                    generalize vals 6 = x6
                    generalize vals 8 = x8
                    obtain ⟨v7, hv7⟩ : ∃ v7, vals 7 = v7 := ⟨_, rfl⟩
                    rw [hv7] at HW7 HO7 ⊢
                    clear hv7
                    obtain ⟨ao9, n9, cap9, b7, off7, e7, _, _⟩ := HW7.out.lies
                    subst e7
                    have c9 := (HBLK.out.kept HG.out HNB.out).cell 2
                    have f9 := (HBLK.out.kept HG.out HNB.out).free 2
                    go_upto_region 16 with fail
                    clear c9 f9
                    obtain ⟨F9, hm, hj⟩ := HM.out.stored (i := 2) rfl HG.out HW7.out (by rw [List.length_append, bv_length, hpl]; omega) HO7.out
                    have hjHY := hj _ HY.out.lt HYF.out
                    replace HY := Lib.hid (show Blk _ Y 24 (bv x.1) from hjHY.2.trans HY.out)
                    replace HYF := Lib.hid hjHY.1
                    replace HM := Lib.hid hm
                    clear hm hj hjHY HOF HNB HWD HCE HBLK HG HW7 HO7
                    generalize w14.setCell ⟨Bt, 2, none⟩ (.slice ao9 n9 cap9) = w15 at HM HY ⊢
                    obtain ⟨F, rfl⟩ : ∃ z, z = F9 := ⟨_, rfl⟩
                    have hsf := sls_cut HE1.out HE2.out HE3.out HM.out.sls
                    replace HM := Lib.hid (show RaM w2 Bt most (refItems (.slice ao7 n7 cap7) (.slice ao8 n8 cap8) (.slice ao9 n9 cap9) (cutN t p (k + 1))) u8 (cuoN t own p k) F w15 from ⟨hsf, HM.out.hi, HM.out.own, HM.out.ap, HM.out.bel⟩)
                    clear hsf
                    have HYC := Lib.hid HY.out.rootAll
                    go_wp2_with ((with_reducible refine wpList_load_name (.tmp 10) ?_ ?_ Y 0 x.1 ?_ hxl HYC.out ?_); rfl; rfl; rfl)
                    refine (rown_any w15 M mb t R rb own most x.1 (HD.out.below HM.out.bel) hxl).mono ?_
                    rintro e w16 ⟨rfl, hbc⟩
                    replace HM := Lib.hid (HM.out.below hbc)
                    clear hbc HYC HY HYF HZZ HZZF HYZ
                    rw [tellZ_at HGD.out HXA.out (show k < own.length by rw [HLW.out, HN.out]; exact HLT.out)]
                    obtain ⟨so, sn, sc, sg, soff, rfl, hsn, _⟩ := HM.out.own.lies
                    rw [zv_length, cuoN_length] at hsn
                    have HSN := Lib.hid (show sn ≤ k by have := nuN_le t p k; omega)
                    have hb1 : Below w16.heap.size w16 (w16.alloc (.cells #[.int .i64 (owZ own k)] 3)) := (Below.refl _ _).alloc (Nat.le_refl _) _
                    have HM2 := Lib.hid (HM.out.below hb1)
                    have HSRC := Lib.hid (src_z w16 42 Try.underlying42 (owZ own k))
                    have HQ1 := Lib.hid (show (zv (cuoN t own p k)).length + 1 ≤ maxLen by rw [zv_length, cuoN_length]; have := nuN_le t p k; have := HNL.out; have := HLT.out; unfold maxLen; omega)
                    have HQ2 := Lib.hid (show ((zv (cuoN t own p k)).length + 1) * 8 ≤ 140737488355328 by rw [zv_length, cuoN_length]; have := nuN_le t p k; have := HNL.out; have := HLT.out; omega)
                    have HSk := Lib.hid HM2.out.bel.size
                    have HWO := Lib.hid HM2.out.own
                    clear hb1 hsn hcl hxl hpl
                    go_wp2_with (at_builtin; refine wpList_append_wide rfl _ _ 42 42 rfl rfl HWO.out (by decide) 3 j0 (.int .i64 0) 8 Try.underlying42 ji0 jz0 jz1 jz2 rfl _ rfl 1 (zv [owZ own k]) HSRC.out HQ1.out HQ2.out HSk.out ?_)
                    intro v' w17 hv hg
                    rw [← zv_append, ← HCO.out] at hv
                    have HRN := Lib.hid (show RaS w2 Bt most (cutN t p (k + 1)) v' (cuoN t own p (k + 1)) w17 from ⟨_, _, _, _, HM2.out.grown hv (by rw [HCO.out]; simp) hg⟩)
                    clear hv hg HM HM2 HSRC HQ1 HQ2 HSk HWO
                    have hlk := HLT.out
                    go_wp2_with fail
                    go_roundw
                    case rel => exact ⟨k + 1, by omega, by first | rw [HWK.out] | rw [Int.natCast_succ], HRN⟩
                    case measure => first | exact measK N k 1 ((k : Int) + 1) (by omega) hlk Nat.zero_lt_one | exact measK N k 1 (wrap64 ((k : Int) + 1)) HWK.out hlk Nat.zero_lt_one
      · obtain rfl : k = N := by omega
        rw [← HN.out] at HM
        have HM3 := Lib.hid (show RaM w2 Bt most (refItems v1 v2 v3 (cutT t p)) u8 (cutO t own p) F wx from HM.out)
        clear HM hlt
        obtain ⟨so, sn, sc, sg, soff, rfl, hsn, _⟩ := HM3.out.own.lies
        rw [zv_length, Nat.mul_one] at hsn
        subst hsn
        have HCG := Lib.hid (HGD.out.cut HPL.out)
        have HRW := Lib.hid (rwk_made wx Bt wx.heap.size (cutO t own p) (.slice so (cutO t own p).length sc) (HM3.out.own.mono (Nat.zero_le _)) (by rw [cutO_length]; exact HCG.out.pos) rfl (cutO t own p).length)
        have HRF := Lib.hid (show Ref wx F Bt (cutT t p) most from ⟨HCG.out, _, _, _, HM3.out.sls⟩)
        have hal : Below wx.heap.size wx (wx.alloc (.cells #[.pointer (some ⟨Bt, 0, none⟩), .slice so (cutO t own p).length sc, .int .i64 ((cutO t own p).length : Int)] 47)) := (Below.refl _ _).alloc (Nat.le_refl _) _
        have HAL := Lib.hid hal
        have HDN := Lib.hid (show DW (wx.alloc (.cells #[.pointer (some ⟨Bt, 0, none⟩), .slice so (cutO t own p).length sc, .int .i64 ((cutO t own p).length : Int)] 47)) F Bt (cutT t p) (ownL (.slice so (cutO t own p).length sc) ++ [wx.heap.size]) wx.heap.size (cutO t own p) most from ⟨HRF.out.below hal, HRW.out, by rw [cutO_length]; exact Nat.le_refl _, HGD.out.cut_own HPL.out HLW.out HOG.out⟩)
        have HBN := Lib.hid (HB.out.trans ((HM3.out.bel.trans (hal.mono HM3.out.bel.size)).mono HB.out.size))
        clear hal
        go_wp2_with fail
        go_ret2
        exact ⟨_, _, _, _, rfl, HDN.out, HBN.out⟩
end Go.Proofs.Ytjodhagjfjgbcaa
