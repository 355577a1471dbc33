/-
  What board.order answers: which of two lots comes ahead; it leaves memory as it was, but for what it makes.
-/
import Derived.Test.YtginfmbcljlneaaDoorDraw
import Derived.Shelf.SlSortCmp.InsertionK
namespace Go.Proofs.YtginfmbcljlneaaDoor
open Go.Shelf Go.RowKit Go.Lib Go.Sort
set_option maxRecDepth 10000

/-- Behind a world: draws, and blocks of one's own, and nothing else. -/
def Grown (w w' : World) : Prop := ∃ q os, w' = grow (w.drewN q) os
theorem Grown.refl (w : World) : Grown w w := ⟨0, #[], by rw [grow_empty]; rfl⟩
theorem Grown.trans {a b c : World} (h1 : Grown a b) (h2 : Grown b c) : Grown a c := by
  obtain ⟨q, os, rfl⟩ := h1
  obtain ⟨p, os', rfl⟩ := h2
  refine ⟨q + p, os ++ os', ?_⟩
  rw [← grow_grow]
  show grow { (grow (a.drewN q) os) with drawn := _ } os' = _
  simp [grow, World.drewN, Nat.add_assoc]
theorem Grown.alloc {a b : World} (h : Grown a b) (o : Obj) : Grown a (b.alloc o) := h.trans ⟨0, #[o], by rw [alloc_eq_grow]; rfl⟩
theorem Grown.drewN {a b : World} (h : Grown a b) (k : Nat) : Grown a (b.drewN k) := h.trans ⟨k, #[], by rw [grow_empty]⟩
theorem Grown.below {a b : World} (h : Grown a b) : Below a.heap.size a b := by
  obtain ⟨q, os, rfl⟩ := h
  exact ⟨rfl, rfl, rfl, by simp [grow, World.drewN], fun k hk => by
    show (a.heap ++ os)[k]? = a.heap[k]?
    rw [Array.getElem?_append_left hk]⟩

set_option maxHeartbeats 1000000 in
theorem less_grown (w : World) (r s : List UInt8) (hr : r.length = 32) (hs : s.length = 32) :
    Calls Tryd.prog 34 #[.agg (bv r).toArray, .agg (bv s).toArray] w fun e w' => e = .returned (.bool (lessB r s)) ∧ Grown w w' := by
  have h1 := (Blk.new w 47 (bv r).toArray).alloc (.cells (bv s).toArray 47)
  have h2 := Blk.new (w.alloc (.cells (bv r).toArray 47)) 47 (bv s).toArray
  have hb : Grown w ((w.alloc (.cells (bv r).toArray 47)).alloc (.cells (bv s).toArray 47)) := ((Grown.refl _).alloc _).alloc _
  simp only [World.size_alloc] at h2
  have H1 := Lib.hid h1
  have H2 := Lib.hid h2
  have HB := Lib.hid hb
  clear h1 h2 hb
  go_enter Tryd.func34, Tryd.ntmps34
  go_wp2_with fail
  generalize (w.alloc (.cells (bv r).toArray 47)).alloc (.cells (bv s).toArray 47) = w1 at H1 H2 HB ⊢
  go_quiet ((go_at_call 50; refine Calls.quiet_of_same (compare_any _ _ _ 47 47 r s (H1.out.drewN _) (H2.out.drewN _) hr hs)))
  go_wp2_with fail
  go_ret
  exact ⟨rfl, HB.out.drewN nq⟩

theorem isNaN_any (w : World) (x : Int) : Calls Tryd.prog 51 #[.int .i64 x] w fun e w' => e = .returned (.bool false) ∧ w' = w := by
  go_enter Tryd.func51, Tryd.ntmps51
  go_wp2
  go_ret
  exact ⟨by simp, rfl⟩

set_option maxHeartbeats 1000000 in
theorem compareInt_any (w : World) (x y : Int) : Calls Tryd.prog 35 #[.int .i64 x, .int .i64 y] w fun e w' => e = .returned (.int .i64 (Lib.compareInt x y)) ∧ w' = w := by
  go_enter Tryd.func35, Tryd.ntmps35
  go_wp2_with (go_at_call 51; refine (isNaN_any _ _).mono ?_; rintro e w' ⟨rfl, hw⟩; rw [hw])
  all_goals (go_ret; refine ⟨?_, rfl⟩; unfold Lib.compareInt; (repeat' split) <;> first | rfl | (exfalso; omega))

/-- A lot's parts in its box. -/
theorem Blk.lot {w : World} {g : Nat} {t : TypeId} {x : Lot} (h : Blk w g t (encL x)) : (∀ j v, (bv x.d)[j]? = some v → w.cell? ⟨g, 0 + j, none⟩ = some v) ∧ w.cell? ⟨g, 32, none⟩ = some (.int .i64 x.n) := by
  have hl : (bv x.d).length = 32 := by rw [bv_length, x.h]
  constructor
  · intro j v hj
    rw [Nat.zero_add, h.cell, encL, List.getElem?_append_left (List.getElem?_eq_some_iff.1 hj).1]
    exact hj
  · rw [h.cell, encL, List.getElem?_append_right (by omega), hl]
    rfl

set_option maxHeartbeats 2000000 in
theorem order_any (w : World) (x y : Lot) : Calls Tryd.prog 26 #[.agg (encL x).toArray, .agg (encL y).toArray] w fun e w' => e = .returned (.int .i64 (lotCmp x y)) ∧ Grown w w' := by
  have h1 := (Blk.new w 56 (encL x).toArray).alloc (.cells (encL y).toArray 56)
  have h2 := Blk.newAt (w.alloc (.cells (encL x).toArray 56)) 56 (encL y).toArray (w.heap.size + 1) (by simp)
  have hb : Grown w ((w.alloc (.cells (encL x).toArray 56)).alloc (.cells (encL y).toArray 56)) := ((Grown.refl _).alloc _).alloc _
  have H1 := Lib.hid h1
  have H2 := Lib.hid h2
  have HB := Lib.hid hb
  have HX := Lib.hid (show (Tryd.prog.info? 47).map (·.size) = some (bv x.d).length by rw [bv_length, x.h]; exact Tryd.size47)
  have HY := Lib.hid (show (Tryd.prog.info? 47).map (·.size) = some (bv y.d).length by rw [bv_length, y.h]; exact Tryd.size47)
  clear h1 h2 hb
  go_enter Tryd.func26, Tryd.ntmps26
  have HC1 := Lib.hid H1.out.lot.1
  have HC2 := Lib.hid H2.out.lot.1
  go_wp2_with (first
    | ((with_reducible refine wpList_load_cells ?_ 47 (.tmp 6) ?_ w.heap.size 0 (bv x.d) ?_ 32 5 HC1.out Tryd.underlying47 HX.out ?_); rfl; rfl; rfl)
    | ((with_reducible refine wpList_load_cells ?_ 47 (.tmp 8) ?_ (w.heap.size + 1) 0 (bv y.d) ?_ 32 5 HC2.out Tryd.underlying47 HY.out ?_); rfl; rfl; rfl))
  generalize (w.alloc (.cells (encL x).toArray 56)).alloc (.cells (encL y).toArray 56) = w1 at H1 H2 HB ⊢
  clear HC1 HC2
  refine (less_grown w1 x.d y.d x.h y.h).mono ?_
  rintro e w2 ⟨rfl, hb2⟩
  have HB2 := Lib.hid (HB.out.trans hb2)
  have HK1 := Lib.hid (H1.out.below hb2.below H1.out.lt)
  have HK2 := Lib.hid (H2.out.below hb2.below H2.out.lt)
  clear hb2 H1 H2 HB
  cases h1 : lessB x.d y.d with
  | true =>
    have HC := Lib.hid (show lotCmp x y = -1 by rw [lotCmp, if_pos h1])
    clear h1
    go_wp2_with fail
    go_ret
    rw [HC.out]
    exact ⟨rfl, HB2.out⟩
  | false =>
    have HL1 := Lib.hid h1
    clear h1
    have HC1 := Lib.hid HK1.out.lot.1
    have HC2 := Lib.hid HK2.out.lot.1
    go_wp2_with (first
      | ((with_reducible refine wpList_load_cells ?_ 47 (.tmp 14) ?_ w.heap.size 0 (bv x.d) ?_ 32 5 HC1.out Tryd.underlying47 HX.out ?_); rfl; rfl; rfl)
      | ((with_reducible refine wpList_load_cells ?_ 47 (.tmp 12) ?_ (w.heap.size + 1) 0 (bv y.d) ?_ 32 5 HC2.out Tryd.underlying47 HY.out ?_); rfl; rfl; rfl))
    clear HC1 HC2
    refine (less_grown w2 y.d x.d y.h x.h).mono ?_
    rintro e w3 ⟨rfl, hb3⟩
    have HB3 := Lib.hid (HB2.out.trans hb3)
    have HK3 := HK1.out.below hb3.below HK1.out.lt
    have HK4 := HK2.out.below hb3.below HK2.out.lt
    have c1 := HK3.lot.2
    have c2 := HK4.lot.2
    clear hb3 HK1 HK2 HK3 HK4
    cases h2 : lessB y.d x.d with
    | true =>
      have HC := Lib.hid (show lotCmp x y = 1 by rw [lotCmp, if_neg (by rw [HL1.out]; simp), if_pos h2])
      clear h2 c1 c2
      go_wp2_with fail
      go_ret
      rw [HC.out]
      exact ⟨rfl, HB3.out⟩
    | false =>
      have HC := Lib.hid (show lotCmp x y = Lib.compareInt x.n y.n by rw [lotCmp, if_neg (by rw [HL1.out]; simp), if_neg (by rw [h2]; simp)])
      clear h2
      go_wp2_with fail
      refine (compareInt_any w3 x.n y.n).mono ?_
      rintro e w4 ⟨rfl, hw4⟩
      rw [hw4]
      clear hw4
      rw [← HC.out]
      go_wp2_with fail
      go_ret
      exact ⟨rfl, HB3.out⟩

/-- What is asked of a comparison that slices.SortFunc is given. -/
theorem order_lays (blk off size : Nat) (w : World) : CmpLays Tryd.prog 26 #[] encL 33 lotCmp blk off size w :=
  fun _ _ _ _ x y => order_any _ x y
end Go.Proofs.YtginfmbcljlneaaDoor
