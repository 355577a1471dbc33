/-
  The program's Below: it goes up from a block by the iterator.
-/
import Derived.Test.YtmchjmcdlapegaaTUp
namespace Go.Proofs.Ytmchjmcdlapegaa
open Go Go.RowKit Go.Shelf
set_option maxRecDepth 10000
attribute [local go_sem] Oper.semAt_some

/-- A loop variable that was just laid: what the owner of a round must show of it. -/
theorem laid_round {LB R : Nat} (W : World) (n : Nd) (hLB : LB < W.heap.size) :
    KeepsFrom R W ((W.alloc (.cells #[.int .u8 0, .int .u8 0, .int .u8 0, .int .u8 0, .int .u8 0, .int .u8 0, .int .u8 0, .int .u8 0, .int .u8 0, .int .u8 0, .int .u8 0, .int .u8 0, .int .u8 0, .int .u8 0, .int .u8 0, .int .u8 0, .int .u8 0, .int .u8 0, .int .u8 0, .int .u8 0, .int .u8 0, .int .u8 0, .int .u8 0, .int .u8 0, .int .u8 0, .int .u8 0, .int .u8 0, .int .u8 0, .int .u8 0, .int .u8 0, .int .u8 0, .int .u8 0, .int .i64 0, .int .i64 0] 51)).setRow W.heap.size (ndv n).toArray) ∧ KpB LB R W ((W.alloc (.cells #[.int .u8 0, .int .u8 0, .int .u8 0, .int .u8 0, .int .u8 0, .int .u8 0, .int .u8 0, .int .u8 0, .int .u8 0, .int .u8 0, .int .u8 0, .int .u8 0, .int .u8 0, .int .u8 0, .int .u8 0, .int .u8 0, .int .u8 0, .int .u8 0, .int .u8 0, .int .u8 0, .int .u8 0, .int .u8 0, .int .u8 0, .int .u8 0, .int .u8 0, .int .u8 0, .int .u8 0, .int .u8 0, .int .u8 0, .int .u8 0, .int .u8 0, .int .u8 0, .int .i64 0, .int .i64 0] 51)).setRow W.heap.size (ndv n).toArray) ∧ Blk ((W.alloc (.cells #[.int .u8 0, .int .u8 0, .int .u8 0, .int .u8 0, .int .u8 0, .int .u8 0, .int .u8 0, .int .u8 0, .int .u8 0, .int .u8 0, .int .u8 0, .int .u8 0, .int .u8 0, .int .u8 0, .int .u8 0, .int .u8 0, .int .u8 0, .int .u8 0, .int .u8 0, .int .u8 0, .int .u8 0, .int .u8 0, .int .u8 0, .int .u8 0, .int .u8 0, .int .u8 0, .int .u8 0, .int .u8 0, .int .u8 0, .int .u8 0, .int .u8 0, .int .u8 0, .int .i64 0, .int .i64 0] 51)).setRow W.heap.size (ndv n).toArray) W.heap.size 51 (ndv n) ∧ Below W.heap.size W ((W.alloc (.cells #[.int .u8 0, .int .u8 0, .int .u8 0, .int .u8 0, .int .u8 0, .int .u8 0, .int .u8 0, .int .u8 0, .int .u8 0, .int .u8 0, .int .u8 0, .int .u8 0, .int .u8 0, .int .u8 0, .int .u8 0, .int .u8 0, .int .u8 0, .int .u8 0, .int .u8 0, .int .u8 0, .int .u8 0, .int .u8 0, .int .u8 0, .int .u8 0, .int .u8 0, .int .u8 0, .int .u8 0, .int .u8 0, .int .u8 0, .int .u8 0, .int .u8 0, .int .u8 0, .int .i64 0, .int .i64 0] 51)).setRow W.heap.size (ndv n).toArray) := by
  have hb : Below W.heap.size W ((W.alloc (.cells #[.int .u8 0, .int .u8 0, .int .u8 0, .int .u8 0, .int .u8 0, .int .u8 0, .int .u8 0, .int .u8 0, .int .u8 0, .int .u8 0, .int .u8 0, .int .u8 0, .int .u8 0, .int .u8 0, .int .u8 0, .int .u8 0, .int .u8 0, .int .u8 0, .int .u8 0, .int .u8 0, .int .u8 0, .int .u8 0, .int .u8 0, .int .u8 0, .int .u8 0, .int .u8 0, .int .u8 0, .int .u8 0, .int .u8 0, .int .u8 0, .int .u8 0, .int .u8 0, .int .i64 0, .int .i64 0] 51)).setRow W.heap.size (ndv n).toArray) := below_row ((Below.refl _ _).alloc (Nat.le_refl _) _) (Nat.le_refl _) _
  exact ⟨⟨hb.size, fun k o _ hk _ => (hb.block k (Array.getElem?_eq_some_iff.1 hk).1).trans hk⟩, KpB.of_below hb hLB, (blk_zero W).setRow _, hb⟩
theorem wpListIn_lay (l : Nat) {ops : Array Oper} {rest : List Oper} {o : Oper} {a : Act} {w : World} {Q : Exit → Act → World → Prop} {g : Nat} {n n' : Nd} (hb : Blk w g 51 (ndv n)) (hl : n.1.length = 32) (hl' : n'.1.length = 32) (x y : Operand) (ho : o.op = .store 51 x y) (hgd : Region.wanted o (yielded ops a.tmps) = true) (hx : a.eval x = .pointer (some ⟨g, 0, none⟩)) (hy : a.eval y = .agg (ndv n').toArray)
    (h : wpListIn (Fence.wide.inRound l) 8 Try.prog ops Q rest (a.put o.dst undef) (w.setRow g (ndv n').toArray)) : wpListIn (Fence.wide.inRound l) 8 Try.prog ops Q (o :: rest) a w :=
  wpListIn_store (round_fn l) _ x y ho hgd _ _ _ hx hy (run_store_node hb hl hl') h

/-- Blocks below R stay, whatever the iterator and the book-keeping write. -/
theorem blk_stays {LB R g : Nat} {W W' : World} {row : Option Nat} {t : TypeId} {vs : List Value} (h : Blk W g t vs) (hg : g < R) (hgr : W.grownBy W' row) (hr : ∀ r, row = some r → Mine LB R W r) : Blk W' g t vs :=
  (hgr.block g h.lt fun e => by have := (hr g e.symm).1; omega).trans h
theorem below_stays {LB R B0 : Nat} {w W W' : World} {row : Option Nat} (h : Below B0 w W) (hB : B0 ≤ R) (hw : B0 ≤ w.heap.size) (hgr : W.grownBy W' row) (hr : ∀ r, row = some r → Mine LB R W r) : Below B0 w W' :=
  h.grown hgr (Nat.le_trans hw h.size) (fun k e => Nat.le_trans hB (hr k e).1)
theorem blk_minds {R g l : Nat} {W : World} {t : TypeId} {vs : List Value} (h : Blk W g t vs) (hg : g < R) (hl : R ≤ l) (o' : Obj) : Blk (W.putObj l o') g t vs := (World.putObj_heap_other (by omega)).trans h
theorem below_minds {R B0 l : Nat} {w W : World} (h : Below B0 w W) (hB : B0 ≤ R) (hl : R ≤ l) (o' : Obj) : Below B0 w (W.putObj l o') :=
  h.trans ⟨rfl, rfl, rfl, Nat.le_of_eq (World.putObj_size).symm, fun k hk => World.putObj_heap_other (by omega)⟩

/-- The function's end behind a loop over a function; its answer lies in a cell. -/
theorem leaves_cell {P : Program} {fn : Func} {p : Tmp} {ty : TypeId} (hf : fn.results = #[.cell p ty]) {tmps : Array Value} {R : Ending → World → Prop} {D : Nat} {W : World} (hD : W.heap[D]? = some (.deferred (some []))) {g : Nat} {v : Value} (hp : tmps.getD p undef = .pointer (some ⟨g, 0, none⟩))
    (hv : (loadVar ty ⟨g, 0, none⟩).run P (W.putObj D (.deferred none)) = .ok v (W.putObj D (.deferred none))) (hR : R (.returned v) (W.putObj D (.deferred none))) :
    LeavesInM Fence.wide 10 P fn tmps R [{ target := .collected D, args := #[] }] .returning W := by
  refine ⟨by simp, .inl ⟨_, _, rfl, run_takeDeferred hD, ?_⟩⟩
  refine ⟨_, ?_, hR⟩
  rw [results_cell hf, hp]
  simp only [asAddr, Sem.run_pure, Result.andThen_ok]
  exact hv

def NoneIs (x : List UInt8) (pre : List Ndl) : Prop := ∀ n ∈ pre, (n.1.1 == x) = false
def SomeIs (x : List UInt8) (pre : List Ndl) : Prop := ∃ n ∈ pre, (n.1.1 == x) = true
theorem load_bool {W : World} {g : Nat} {q : Bool} (h : Blk W g 4 [.bool q]) : (loadVar 4 ⟨g, 0, none⟩).run Try.prog W = .ok (.bool q) W := by
  have c := h.cell 0
  simp only [List.getElem?_cons_zero] at c
  go_simp

set_option maxHeartbeats 8000000 in
theorem below_any (w : World) (F : List Nat) (b : Nat) (t : List Nd) (most : Int) (x y : List UInt8) (h : Tre w F b t most) (hx : x.length = 32) (hy : y.length = 32) :
    Calls Try.prog 14 #[.pointer (some ⟨b, 0, none⟩), .agg (bv x).toArray, .agg (bv y).toArray] w fun e w' => e = .returned (.bool (belowT t x y)) ∧ Below w.heap.size w w' := by
  have hb1 : Below w.heap.size w (((w.alloc (.cells (bv x).toArray 23)).alloc (.cells (bv y).toArray 23)).alloc (.cells #[.bool false] 4)) := (((Below.refl _ w).alloc (Nat.le_refl _) _).alloc (by simp) _).alloc (by simp; omega) _
  have HB := Lib.hid hb1
  have HX := Lib.hid (((Blk.new w 23 (bv x).toArray).alloc (.cells (bv y).toArray 23)).alloc (.cells #[.bool false] 4))
  have HY := Lib.hid ((Blk.newAt (w.alloc (.cells (bv x).toArray 23)) 23 (bv y).toArray (w.heap.size + 1) (by simp)).alloc (.cells #[.bool false] 4))
  have HZ := Lib.hid (Blk.newAt ((w.alloc (.cells (bv x).toArray 23)).alloc (.cells (bv y).toArray 23)) 4 #[.bool false] (w.heap.size + 1 + 1) (by simp))
  have H1 := Lib.hid (h.below hb1)
  have HS := Lib.hid (show (((w.alloc (.cells (bv x).toArray 23)).alloc (.cells (bv y).toArray 23)).alloc (.cells #[.bool false] 4)).heap.size = w.heap.size + 3 by simp)
  have HLow := Lib.hid h.low
  obtain ⟨X, hX⟩ : ∃ X, X = w.heap.size := ⟨_, rfl⟩
  obtain ⟨Y, hY⟩ : ∃ Y, Y = w.heap.size + 1 := ⟨_, rfl⟩
  obtain ⟨Z, hZ⟩ : ∃ Z, Z = w.heap.size + 1 + 1 := ⟨_, rfl⟩
  have HXX := Lib.hid (show w.heap.size ≤ X ∧ X < w.heap.size + 3 ∧ X ≠ Z by omega)
  have HZZ := Lib.hid (show w.heap.size ≤ Z ∧ Z < w.heap.size + 3 by omega)
  have HG := Lib.hid h.1
  clear hb1 h
  refine (callsIn_wide (n := 10)).1 ?_
  refine callsIn_of_wp_marks Try.func14 rfl trivial ?_ rfl
  simp only [Try.ntmps14, List.size_toArray, List.length_cons, List.length_nil, Nat.reduceAdd, Nat.reduceSub, Array.replicate_succ, Array.replicate_zero, List.push_toArray, List.append_toArray, List.nil_append, List.cons_append]
  refine wpIn_wide.2 ?_
  go_upto_region 1 with fail
  rw [← hZ] at HZ ⊢
  rw [← hY] at HY ⊢
  rw [← hX] at HX ⊢
  generalize ((w.alloc (.cells (bv x).toArray 23)).alloc (.cells (bv y).toArray 23)).alloc (.cells #[.bool false] 4) = w1 at HB HX HY HZ H1 HS ⊢
  clear hX hY hZ
  have HYA := Lib.hid HY.out.rootAll
  go_wp2_with ((with_reducible refine wpList_load_name (.tmp 5) ?_ ?_ Y 0 y ?_ hy HYA.out ?_); rfl; rfl; rfl)
  refine (up_any w1 (some ⟨b, 0, none⟩) y).mono ?_
  rintro e w2 ⟨rfl, hw2⟩
  obtain ⟨Bn, hBn⟩ : ∃ Bn, Bn = w1.heap.size := ⟨_, rfl⟩
  obtain ⟨Yn, hYn⟩ : ∃ Yn, Yn = w1.heap.size + 1 := ⟨_, rfl⟩
  have hb2 : Below w1.heap.size w1 w2 := by rw [hw2]; exact ((Below.refl _ w1).alloc (Nat.le_refl _) _).alloc (by simp) _
  have HS2 := Lib.hid (show w2.heap.size = w1.heap.size + 2 by rw [hw2]; simp)
  have HBN := Lib.hid (show w2.cell? ⟨Bn, 0, none⟩ = some (.pointer (some ⟨b, 0, none⟩)) by
    rw [hw2, hBn]
    exact ((Blk.new w1 26 #[.pointer (some ⟨b, 0, none⟩)]).alloc (.cells (bv y).toArray 23)).cell 0)
  have HYN := Lib.hid (show Blk w2 Yn 23 (bv y) by
    rw [hw2, hYn]
    exact Blk.newAt (w1.alloc (.cells #[.pointer (some ⟨b, 0, none⟩)] 26)) 23 (bv y).toArray _ (by simp))
  have HBB := Lib.hid (show Bn = w1.heap.size from hBn)
  rw [← hYn, ← hBn]
  have H2 := Lib.hid (H1.out.below hb2)
  have HB2 := Lib.hid (HB.out.trans (hb2.mono HB.out.size))
  have HX2 := Lib.hid (HX.out.below hb2 HX.out.lt)
  have HZ2 := Lib.hid (HZ.out.below hb2 HZ.out.lt)
  have hSB : SB Z w2 = [Z] := by
    unfold SB
    rw [HZ2.out.cell 0]
    rfl
  have HSB := Lib.hid hSB
  clear hw2 hb2 hBn hYn H1 HB HX HY HZ HYA hSB
  go_wp2_with fail
  have hz2 : Z < w2.heap.size := HZ2.out.lt
  have hx2 : X < w2.heap.size := HX2.out.lt
  have hw2 : w.heap.size ≤ w2.heap.size := HB2.out.size
  have HUP := Lib.hid (up_gives Z w2.heap.size w2 F b Bn Yn t most y H2.out HBN.out HYN.out hy (Nat.le_refl _) hz2 (fun k hk => H2.out.low k hk) (by rw [HBB.out, HS2.out]; omega)
    (by rw [HSB.out]; exact fun k hk hm => by simp at hm; have h1 := HLow.out k hk; have h2 := HZZ.out; omega)
    (by rw [HSB.out]; intro hm; simp at hm; have h1 := HBB.out; have h2 := HS.out; have h3 := HZZ.out; omega)
    (by rw [HSB.out]; intro k hk; simp at hk; rw [hk]; exact hz2))
  have HXN := Lib.hid hx
  refine (wpIn_wide (n := 10)).1 (over_func (α := Ndl) rfl (enters_of Try.func32 (by kernel_rfl) rfl) (fun _ => rfl) (LB := Z) hz2 HUP.out (Below.refl _ _)
    (fun pre W => NoneIs x pre ∧ Blk W Z 4 [.bool false] ∧ Blk W X 23 (bv x) ∧ Below w.heap.size w W)
    (fun pre W => SomeIs x pre ∧ Blk W Z 4 [.bool true] ∧ Below w.heap.size w W)
    ⟨(fun n hn => (by cases hn)), HZ2.out, HX2.out, HB2.out⟩
    (fun s A C row hs hg hr => ⟨hs.1, blk_stays hs.2.1 hz2 hg hr, blk_stays hs.2.2.1 hx2 hg hr, below_stays hs.2.2.2 hw2 (Nat.le_refl _) hg hr⟩)
    (fun s A C row hs hg hr => ⟨hs.1, blk_stays hs.2.1 hz2 hg hr, below_stays hs.2.2 hw2 (Nat.le_refl _) hg hr⟩)
    (fun s A l o o' hs hl h0 hc => ⟨hs.1, blk_minds hs.2.1 hz2 hl o', blk_minds hs.2.2.1 hx2 hl o', below_minds hs.2.2.2 hw2 hl o'⟩)
    (fun s A l o o' hs hl h0 hc => ⟨hs.1, blk_minds hs.2.1 hz2 hl o', below_minds hs.2.2 hw2 hl o'⟩) ?round ?done ?stop)
  case round =>
    rintro l pre n W ⟨h1, h2, h3, h4⟩ hN
    have hWR : w2.heap.size ≤ W.heap.size → True := fun _ => trivial
    obtain ⟨r1, r2, r3, r4⟩ := laid_round (LB := Z) (R := w2.heap.size) W n.1 h2.lt
    have HZB := Lib.hid (blk_zero W)
    have HR := Lib.hid r3
    have HK1 := Lib.hid r1
    have HK2 := Lib.hid r2
    have HZW := Lib.hid (h2.below r4 h2.lt)
    have HXW := Lib.hid (h3.below r4 h3.lt)
    have HBW := Lib.hid (h4.trans (r4.mono h4.size))
    have HQ := Lib.hid h1
    have HNL := Lib.hid n.2
    obtain ⟨V, hV⟩ : ∃ V, V = W.heap.size := ⟨_, rfl⟩
    clear r1 r2 r3 r4 h1 h2 h3 h4
    gi_wp2_with ((with_reducible refine wpListIn_lay l HZB.out nd0_len HNL.out (.tmp 7) (.tmp 11) ?_ ?_ ?_ ?_ ?_); rfl; rfl; rfl; rfl)
    refine ⟨HK1.out, HK2.out, ?_⟩
    rw [← hV] at HR HZW HXW HBW ⊢
    clear HZB HK1 HK2
    generalize (W.alloc (.cells _ 51)).setRow _ (ndv n.1).toArray = W1 at HR HZW HXW HBW ⊢
    intro W3 ht
    have HRA := Lib.hid (ht.blk HR.out).nodeName
    have HXA := Lib.hid (ht.blk HXW.out).rootAll
    have HZ3 := Lib.hid (ht.blk HZW.out)
    have HX3 := Lib.hid (ht.blk HXW.out)
    have HB3 := Lib.hid (ht.below HBW.out hw2)
    clear HR HZW HXW HBW ht hV
    have hq := root_eqW W3 n.1.1 x HNL.out HXN.out
    have f0 := HZ3.out.free 0
    have c0 := HZ3.out.cell 0
    obtain ⟨q, hqe⟩ : ∃ q, (n.1.1 == x) = q := ⟨_, rfl⟩
    have HQE := Lib.hid hqe
    rw [hqe] at hq
    clear hqe
    cases q with
    | true =>
      gi_wp2_with (first
        | ((with_reducible refine wpListIn_load (round_fn l) 23 (.tmp 12) ?_ ?_ _ _ ?_ (run_load_root HNL.out HRA.out) ?_); rfl; rfl; rfl)
        | ((with_reducible refine wpListIn_load (round_fn l) 23 (.tmp 4) ?_ ?_ _ _ ?_ (run_load_root HXN.out HXA.out) ?_); rfl; rfl; rfl))
      exact ⟨(KeepsOthers.setCell _ _ _).from _, .inr ⟨rfl, ⟨n, by simp, HQE.out⟩, HZ3.out.set 0 _, HB3.out.setCell (by exact HZZ.out.1) _⟩⟩
    | false =>
      gi_wp2_with (first
        | ((with_reducible refine wpListIn_load (round_fn l) 23 (.tmp 12) ?_ ?_ _ _ ?_ (run_load_root HNL.out HRA.out) ?_); rfl; rfl; rfl)
        | ((with_reducible refine wpListIn_load (round_fn l) 23 (.tmp 4) ?_ ?_ _ _ ?_ (run_load_root HXN.out HXA.out) ?_); rfl; rfl; rfl))
      exact ⟨(KeepsOthers.refl _).from _, .inl ⟨rfl, KpB.of_below (Below.refl _ _) HZ3.out.lt, (fun m hm => by
        rcases List.mem_append.1 hm with hm | hm
        · exact HQ.out m hm
        · rw [List.mem_singleton] at hm; rw [hm]; exact HQE.out), HZ3.out, HX3.out, HB3.out⟩⟩
  case done =>
    rintro D xs W hD hS ⟨h1, h2, h3, h4⟩ hd
    have HB3 := Lib.hid h4
    have HZ3 := Lib.hid h2
    have HD := Lib.hid hd
    have f0 := h2.free 0
    have c0 := h2.cell 0
    have HA := Lib.hid (show belowT t x y = false by
      unfold belowT
      rw [← hS, List.any_map]
      exact List.any_eq_false.2 fun n hn => by have := h1 n hn; simp only [Function.comp]; rw [this]; simp)
    clear hS h1 h2 h3 h4 hd
    go_wp2_with fail
    have hz := HZ3.out.set 0 (.bool false)
    have hne : D ≠ Z := by omega
    refine leaves_cell rfl (D := D) ((Below.heap_setCell W ⟨Z, 0, none⟩ _ D (by simpa using hne)).trans HD.out) (g := Z) rfl (v := .bool false) ?_ ⟨by rw [HA.out], below_minds (HB3.out.setCell (by exact HZZ.out.1) _) hw2 hD _⟩
    exact load_bool (blk_minds (R := w2.heap.size) hz hz2 hD _)
  case stop =>
    rintro D pre W hD hS ⟨h15, h2, h4⟩ hd
    obtain ⟨n, h1, h5⟩ := h15
    refine wpIn_wide.2 ?_
    have HB3 := Lib.hid h4
    have HZ3 := Lib.hid h2
    have HD := Lib.hid hd
    have HA := Lib.hid (show belowT t x y = true by
      unfold belowT
      exact List.any_eq_true.2 ⟨n.1, hS.subset (List.mem_map.2 ⟨n, h1, rfl⟩), h5⟩)
    clear hS h1 h2 h4 h5 hd
    go_wp2_with fail
    exact leaves_cell rfl (D := D) HD.out (g := Z) rfl (v := .bool true) (load_bool (blk_minds (R := w2.heap.size) HZ3.out hz2 hD _)) ⟨by rw [HA.out], below_minds HB3.out hw2 hD _⟩
end Go.Proofs.Ytmchjmcdlapegaa
