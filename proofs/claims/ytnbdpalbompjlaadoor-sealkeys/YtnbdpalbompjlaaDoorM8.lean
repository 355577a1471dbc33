/-
  The texts LotOrder, SortLots, Ints, Names, Members, one behind the other.
-/
import Derived.Test.YtnbdpalbompjlaaDoorM7
import Derived.Shelf.SlSortCmp.InsertionK
import Derived.Shelf.SlSortCmp.NoneTotal
import Derived.Test.YtnbdpalbompjlaaDoorWide
import Derived.Test.YtnbdpalbompjlaaDoorM2
import Derived.Laws.MakeOwn
import Derived.Deep.QuietTactic
import Derived.BigQuiet
/-
  What board.order answers: which of two lots comes ahead; it leaves memory as it was, but for what it makes.
-/
namespace Go.Proofs.YtnbdpalbompjlaaDoor
open Go.Shelf Go.RowKit Go.Lib Go.Sort
set_option maxRecDepth 10000

/-- Behind a world: draws, and blocks of one's own, and nothing else. -/
def Grown (w w' : World) : Prop := ∃ q os, w' = grow (w.drewN q) os
theorem Grown.refl (w : World) : Grown w w := ⟨0, #[], by rw [grow_empty]; rfl⟩
theorem Grown.trans {a b c : World} (h1 : Grown a b) (h2 : Grown b c) : Grown a c := by
  obtain ⟨q, os, rfl⟩ := h1
  obtain ⟨p, os', rfl⟩ := h2
  refine ⟨q + p, os ++ os', ?_⟩
  rw [← grow_grow]
  show grow { (grow (a.drewN q) os) with drawn := _ } os' = _
  simp [grow, World.drewN, Nat.add_assoc]
theorem Grown.alloc {a b : World} (h : Grown a b) (o : Obj) : Grown a (b.alloc o) := h.trans ⟨0, #[o], by rw [alloc_eq_grow]; rfl⟩
theorem Grown.drewN {a b : World} (h : Grown a b) (k : Nat) : Grown a (b.drewN k) := h.trans ⟨k, #[], by rw [grow_empty]⟩
theorem Grown.below {a b : World} (h : Grown a b) : Below a.heap.size a b := by
  obtain ⟨q, os, rfl⟩ := h
  exact ⟨rfl, rfl, rfl, by simp [grow, World.drewN], fun k hk => by
    show (a.heap ++ os)[k]? = a.heap[k]?
    rw [Array.getElem?_append_left hk]⟩

set_option maxHeartbeats 1000000 in
theorem less_grown (w : World) (r s : List UInt8) (hr : r.length = 32) (hs : s.length = 32) :
    Calls Tryd.prog 76 #[.agg (bv r).toArray, .agg (bv s).toArray] w fun e w' => e = .returned (.bool (lessB r s)) ∧ Grown w w' := by
  have h1 := (Blk.new w 26 (bv r).toArray).alloc (.cells (bv s).toArray 26)
  have h2 := Blk.new (w.alloc (.cells (bv r).toArray 26)) 26 (bv s).toArray
  have hb : Grown w ((w.alloc (.cells (bv r).toArray 26)).alloc (.cells (bv s).toArray 26)) := ((Grown.refl _).alloc _).alloc _
  simp only [World.size_alloc] at h2
  have H1 := Lib.hid h1
  have H2 := Lib.hid h2
  have HB := Lib.hid hb
  clear h1 h2 hb
  go_enter Tryd.func76, Tryd.ntmps76
  go_wp2_with fail
  generalize (w.alloc (.cells (bv r).toArray 26)).alloc (.cells (bv s).toArray 26) = w1 at H1 H2 HB ⊢
  go_quiet ((go_at_call 93; refine Calls.quiet_of_same (compare_any _ _ _ 26 26 r s (H1.out.drewN _) (H2.out.drewN _) hr hs)))
  go_wp2_with fail
  go_ret
  exact ⟨rfl, HB.out.drewN nq⟩

theorem isNaN_any (w : World) (x : Int) : Calls Tryd.prog 94 #[.int .i64 x] w fun e w' => e = .returned (.bool false) ∧ w' = w := by
  go_enter Tryd.func94, Tryd.ntmps94
  go_wp2
  go_ret
  exact ⟨by simp, rfl⟩

set_option maxHeartbeats 1000000 in
theorem compareInt_any (w : World) (x y : Int) : Calls Tryd.prog 77 #[.int .i64 x, .int .i64 y] w fun e w' => e = .returned (.int .i64 (Lib.compareInt x y)) ∧ w' = w := by
  go_enter Tryd.func77, Tryd.ntmps77
  go_wp2_with (go_at_call 94; refine (isNaN_any _ _).mono ?_; rintro e w' ⟨rfl, hw⟩; rw [hw])
  all_goals (go_ret; refine ⟨?_, rfl⟩; unfold Lib.compareInt; (repeat' split) <;> first | rfl | (exfalso; omega))

/-- A lot's parts in its box. -/
theorem Blk.lot {w : World} {g : Nat} {t : TypeId} {x : Lot} (h : Blk w g t (encL x)) : (∀ j v, (bv x.d)[j]? = some v → w.cell? ⟨g, 0 + j, none⟩ = some v) ∧ w.cell? ⟨g, 32, none⟩ = some (.int .i64 x.n) := by
  have hl : (bv x.d).length = 32 := by rw [bv_length, x.h]
  constructor
  · intro j v hj
    rw [Nat.zero_add, h.cell, encL, List.getElem?_append_left (List.getElem?_eq_some_iff.1 hj).1]
    exact hj
  · rw [h.cell, encL, List.getElem?_append_right (by omega), hl]
    rfl

set_option maxHeartbeats 2000000 in
theorem order_any (w : World) (x y : Lot) : Calls Tryd.prog 64 #[.agg (encL x).toArray, .agg (encL y).toArray] w fun e w' => e = .returned (.int .i64 (lotCmp x y)) ∧ Grown w w' := by
  have h1 := (Blk.new w 104 (encL x).toArray).alloc (.cells (encL y).toArray 104)
  have h2 := Blk.newAt (w.alloc (.cells (encL x).toArray 104)) 104 (encL y).toArray (w.heap.size + 1) (by simp)
  have hb : Grown w ((w.alloc (.cells (encL x).toArray 104)).alloc (.cells (encL y).toArray 104)) := ((Grown.refl _).alloc _).alloc _
  have H1 := Lib.hid h1
  have H2 := Lib.hid h2
  have HB := Lib.hid hb
  have HX := Lib.hid (show (Tryd.prog.info? 26).map (·.size) = some (bv x.d).length by rw [bv_length, x.h]; exact Tryd.size26)
  have HY := Lib.hid (show (Tryd.prog.info? 26).map (·.size) = some (bv y.d).length by rw [bv_length, y.h]; exact Tryd.size26)
  clear h1 h2 hb
  go_enter Tryd.func64, Tryd.ntmps64
  have HC1 := Lib.hid H1.out.lot.1
  have HC2 := Lib.hid H2.out.lot.1
  go_wp2_with (first
    | ((with_reducible refine wpList_load_cells ?_ 26 (.tmp 6) ?_ w.heap.size 0 (bv x.d) ?_ 32 5 HC1.out Tryd.underlying26 HX.out ?_); rfl; rfl; rfl)
    | ((with_reducible refine wpList_load_cells ?_ 26 (.tmp 8) ?_ (w.heap.size + 1) 0 (bv y.d) ?_ 32 5 HC2.out Tryd.underlying26 HY.out ?_); rfl; rfl; rfl))
  generalize (w.alloc (.cells (encL x).toArray 104)).alloc (.cells (encL y).toArray 104) = w1 at H1 H2 HB ⊢
  clear HC1 HC2
  refine (less_grown w1 x.d y.d x.h y.h).mono ?_
  rintro e w2 ⟨rfl, hb2⟩
  have HB2 := Lib.hid (HB.out.trans hb2)
  have HK1 := Lib.hid (H1.out.below hb2.below H1.out.lt)
  have HK2 := Lib.hid (H2.out.below hb2.below H2.out.lt)
  clear hb2 H1 H2 HB
  cases h1 : lessB x.d y.d with
  | true =>
    have HC := Lib.hid (show lotCmp x y = -1 by rw [lotCmp, if_pos h1])
    clear h1
    go_wp2_with fail
    go_ret
    rw [HC.out]
    exact ⟨rfl, HB2.out⟩
  | false =>
    have HL1 := Lib.hid h1
    clear h1
    have HC1 := Lib.hid HK1.out.lot.1
    have HC2 := Lib.hid HK2.out.lot.1
    go_wp2_with (first
      | ((with_reducible refine wpList_load_cells ?_ 26 (.tmp 14) ?_ w.heap.size 0 (bv x.d) ?_ 32 5 HC1.out Tryd.underlying26 HX.out ?_); rfl; rfl; rfl)
      | ((with_reducible refine wpList_load_cells ?_ 26 (.tmp 12) ?_ (w.heap.size + 1) 0 (bv y.d) ?_ 32 5 HC2.out Tryd.underlying26 HY.out ?_); rfl; rfl; rfl))
    clear HC1 HC2
    refine (less_grown w2 y.d x.d y.h x.h).mono ?_
    rintro e w3 ⟨rfl, hb3⟩
    have HB3 := Lib.hid (HB2.out.trans hb3)
    have HK3 := HK1.out.below hb3.below HK1.out.lt
    have HK4 := HK2.out.below hb3.below HK2.out.lt
    have c1 := HK3.lot.2
    have c2 := HK4.lot.2
    clear hb3 HK1 HK2 HK3 HK4
    cases h2 : lessB y.d x.d with
    | true =>
      have HC := Lib.hid (show lotCmp x y = 1 by rw [lotCmp, if_neg (by rw [HL1.out]; simp), if_pos h2])
      clear h2 c1 c2
      go_wp2_with fail
      go_ret
      rw [HC.out]
      exact ⟨rfl, HB3.out⟩
    | false =>
      have HC := Lib.hid (show lotCmp x y = Lib.compareInt x.n y.n by rw [lotCmp, if_neg (by rw [HL1.out]; simp), if_neg (by rw [h2]; simp)])
      clear h2
      go_wp2_with fail
      refine (compareInt_any w3 x.n y.n).mono ?_
      rintro e w4 ⟨rfl, hw4⟩
      rw [hw4]
      clear hw4
      rw [← HC.out]
      go_wp2_with fail
      go_ret
      exact ⟨rfl, HB3.out⟩

/-- What is asked of a comparison that slices.SortFunc is given. -/
theorem order_lays (blk off size : Nat) (w : World) : CmpLays Tryd.prog 64 #[] encL 33 lotCmp blk off size w :=
  fun _ _ _ _ x y => order_any _ x y
end Go.Proofs.YtnbdpalbompjlaaDoor

/-
  The lots sorted: the library's slices.SortFunc at lots, by the contract that the kit's library holds for whatever program.
-/
namespace Go.Proofs.YtnbdpalbompjlaaDoor
open Go.Shelf Go.RowKit Go.Lib Go.Sort
set_option maxRecDepth 10000

def Tryd.sortLot_ren : Go.Shelf.Ren := ⟨fun | 6 => 63 | 15 => 75 | 14 => 74 | 28 => 91 | 29 => 92 | 20 => 83 | 21 => 84 | 22 => 85 | 23 => 86 | 24 => 87 | 25 => 88 | 26 => 89 | 27 => 90 | 46 => 100 | 47 => 101 | 48 => 102 | 49 => 103 | 50 => 104 | 57 => 107 | n => n, fun | 22 => 100 | 24 => 104 | 25 => 105 | 3 => 3 | 39 => 47 | 0 => 0 | 53 => 92 | 55 => 27 | 4 => 4 | 46 => 129 | 45 => 128 | 50 => 74 | 5 => 5 | 9 => 9 | 66 => 142 | 70 => 146 | 76 => 148 | 77 => 149 | n => n, fun | n => n⟩
theorem Tryd.sortLot : Go.Proofs.SlLaysF0.n6 Tryd.prog Tryd.sortLot_ren :=
  { mixed := by kernel_rfl,
    f6 := ⟨Tryd.f63.name, by decide, Tryd.func63.trans (congrArg some (by kernel_rfl))⟩,
    f14 := ⟨Tryd.f74.name, by decide, Tryd.func74.trans (congrArg some (by kernel_rfl))⟩,
    f15 := Tryd.func75.trans (congrArg some (by kernel_rfl)),
    f20 := ⟨Tryd.f83.name, by decide, Tryd.func83.trans (congrArg some (by kernel_rfl))⟩,
    f21 := ⟨Tryd.f84.name, by decide, Tryd.func84.trans (congrArg some (by kernel_rfl))⟩,
    f22 := ⟨Tryd.f85.name, by decide, Tryd.func85.trans (congrArg some (by kernel_rfl))⟩,
    f23 := ⟨Tryd.f86.name, by decide, Tryd.func86.trans (congrArg some (by kernel_rfl))⟩,
    f24 := ⟨Tryd.f87.name, by decide, Tryd.func87.trans (congrArg some (by kernel_rfl))⟩,
    f25 := ⟨Tryd.f88.name, by decide, Tryd.func88.trans (congrArg some (by kernel_rfl))⟩,
    f26 := ⟨Tryd.f89.name, by decide, Tryd.func89.trans (congrArg some (by kernel_rfl))⟩,
    f27 := ⟨Tryd.f90.name, by decide, Tryd.func90.trans (congrArg some (by kernel_rfl))⟩,
    f28 := Tryd.func91.trans (congrArg some (by kernel_rfl)),
    f29 := Tryd.func92.trans (congrArg some (by kernel_rfl)),
    f46 := ⟨Tryd.f100.name, by decide, Tryd.func100.trans (congrArg some (by kernel_rfl))⟩,
    f47 := Tryd.func101.trans (congrArg some (by kernel_rfl)),
    f48 := Tryd.func102.trans (congrArg some (by kernel_rfl)),
    f49 := ⟨Tryd.f103.name, by decide, Tryd.func103.trans (congrArg some (by kernel_rfl))⟩,
    f50 := ⟨Tryd.f104.name, by decide, Tryd.func104.trans (congrArg some (by kernel_rfl))⟩,
    f57 := ⟨Tryd.f107.name, by decide, Tryd.func107.trans (congrArg some (by kernel_rfl))⟩,
    t0 := Tryd.underlying0,
    a0 := Tryd.isAgg0,
    z0 := Tryd.sizeOf0,
    v0 := Tryd.zeroValue0,
    t3 := Tryd.underlying3,
    a3 := Tryd.isAgg3,
    z3 := Tryd.sizeOf3,
    v3 := Tryd.zeroValue3,
    t4 := Tryd.underlying4,
    a4 := Tryd.isAgg4,
    z4 := Tryd.sizeOf4,
    v4 := Tryd.zeroValue4,
    t5 := Tryd.underlying5,
    a5 := Tryd.isAgg5,
    z5 := Tryd.sizeOf5,
    v5 := Tryd.zeroValue5,
    t9 := Tryd.underlying9,
    a9 := Tryd.isAgg9,
    z9 := Tryd.sizeOf9,
    v9 := Tryd.zeroValue9,
    t22 := Tryd.underlying100,
    a22 := Tryd.isAgg100,
    z22 := Tryd.sizeOf100,
    v22 := Tryd.zeroValue100,
    t25 := Tryd.underlying105,
    a25 := Tryd.isAgg105,
    z25 := Tryd.sizeOf105,
    v25 := Tryd.zeroValue105,
    t39 := Tryd.underlying47,
    a39 := Tryd.isAgg47,
    z39 := Tryd.sizeOf47,
    v39 := Tryd.zeroValue47,
    t45 := Tryd.underlying128,
    a45 := Tryd.isAgg128,
    z45 := Tryd.sizeOf128,
    v45 := Tryd.zeroValue128,
    t46 := Tryd.underlying129,
    a46 := Tryd.isAgg129,
    z46 := Tryd.sizeOf129,
    v46 := Tryd.zeroValue129,
    t50 := Tryd.underlying74,
    a50 := Tryd.isAgg74,
    z50 := Tryd.sizeOf74,
    v50 := Tryd.zeroValue74,
    t53 := Tryd.underlying92,
    a53 := Tryd.isAgg92,
    z53 := Tryd.sizeOf92,
    v53 := Tryd.zeroValue92,
    t55 := Tryd.underlying27,
    a55 := Tryd.isAgg27,
    z55 := Tryd.sizeOf27,
    v55 := Tryd.zeroValue27,
    t66 := Tryd.underlying142,
    a66 := Tryd.isAgg142,
    z66 := Tryd.sizeOf142,
    v66 := Tryd.zeroValue142,
    t70 := Tryd.underlying146,
    a70 := Tryd.isAgg146,
    z70 := Tryd.sizeOf146,
    v70 := Tryd.zeroValue146,
    t76 := Tryd.underlying148,
    a76 := Tryd.isAgg148,
    z76 := Tryd.sizeOf148,
    v76 := Tryd.zeroValue148,
    t77 := Tryd.underlying149,
    a77 := Tryd.isAgg149,
    z77 := Tryd.sizeOf149,
    v77 := Tryd.zeroValue149 }

theorem flat_lc (d : Array Lot) : (flatK encL 33 d).toList = lc d.toList := by
  apply List.ext_getElem?
  intro t
  have hl : (lc d.toList).length = d.size * 33 := by rw [lc_length, Array.length_toList]
  by_cases h : t < d.size * 33
  · have hq : t / 33 < d.size := by omega
    have hr : t % 33 < 33 := by omega
    have hx : d.toList[t / 33]? = some d[t / 33]! := by rw [getElem!_pos d (t / 33) hq]; simp [hq]
    have h1 := lc_at d.toList (t / 33) (t % 33) _ hx hr
    rw [show t / 33 * 33 + t % 33 = t by omega] at h1
    rw [h1, Array.getElem?_toList, getElem?_pos _ t (by rw [size_flatK]; exact h), ← getElem!_pos _ t (by rw [size_flatK]; exact h), get_flatK encL 33 d t h]
    rw [getElem!_pos _ (t % 33) (by rw [encL_length]; exact hr), List.getElem?_eq_getElem (by rw [encL_length]; exact hr)]
  · rw [List.getElem?_eq_none (by rw [Array.length_toList, size_flatK]; omega), List.getElem?_eq_none (by omega)]

theorem holds_blk {w : World} {g : Nat} {t : TypeId} {d : Array Lot} (h : Blk w g t (lc d.toList)) : HoldsK encL 33 w g 0 d := by
  intro j hj
  have e : (lc d.toList)[j]? = some (id (flatK encL 33 d)[j]!) := by
    rw [← flat_lc, Array.getElem?_toList, getElem?_pos _ j hj, getElem!_pos _ j hj]
    rfl
  exact ⟨by rw [Nat.zero_add, h.cell, e], by rw [Nat.zero_add]; exact h.free j⟩

theorem lies_holds {w : World} {g : Nat} {d : Array Lot} (h : HoldsK encL 33 w g 0 d) (hg : g < w.heap.size) : Lies w w.heap.size (some ⟨g, 0, none⟩) g 0 (lc d.toList) :=
  ⟨fun _ => rfl, fun _ => hg, fun j u hj => by
    rw [← flat_lc, Array.getElem?_toList] at hj
    obtain ⟨hlt, he⟩ := Array.getElem?_eq_some_iff.1 hj
    have h1 := (h j hlt).1
    rw [getElem!_pos _ j hlt, he] at h1
    exact h1⟩

theorem below_sort {w : World} {g n B : Nat} {d : Array Lot} {os : Array Obj} (h : B ≤ g) (hs : B ≤ w.heap.size) : Below B w (sortWorldK encL 33 w g 0 n d os) := by
  unfold sortWorldK putRowK putRow mapBlock Sort.ahead grow
  refine ⟨rfl, rfl, rfl, ?_, fun k hk => ?_⟩
  · simp
  · show (w.heap.modify g _ ++ os)[k]? = w.heap[k]?
    rw [Array.getElem?_append_left (by rw [Array.size_modify]; omega), Array.getElem?_modify, if_neg (by omega)]

set_option maxHeartbeats 1000000 in
theorem sort_any (w : World) (g n cap slot : Nat) (hk : Blk w g 104 (lc (lotsTo slot n))) (hn : n ≤ 1000) :
    Calls Tryd.prog 63 #[.slice (some ⟨g, 0, none⟩) n cap, .func (.func 64) #[] #[]] w fun e w' => e = .returned (.tuple #[]) ∧ Lies w' w'.heap.size (some ⟨g, 0, none⟩) g 0 (lc (sortedLots slot n)) ∧ Below g w w' := by
  have hd : (lotsTo slot n).toArray.size = n := by rw [List.size_toArray, lotsTo_length]
  have hH : HoldsK encL 33 w g 0 (lotsTo slot n).toArray := holds_blk (by simpa using hk)
  have eg : ∀ args w, (callFunc 64 args).run Tryd.prog w = .ok (.enter 64 args) w := enters_of Tryd.func64 (by kernel_rfl) rfl
  have hcon := AnyQ.slices_SortFunc_total Tryd.sortLot 33 Tryd.isAgg104 Tryd.sizeOf104 encL encL_length encL_one lotCmp lot_swo 64 #[] g 0 cap (lotsTo slot n).toArray w eg (order_lays g 0 _ w) hH hk.lt (by omega) lot_total
  rw [hd] at hcon
  refine Calls.mono (show Calls Tryd.prog 63 _ _ _ from hcon) ?_
  rintro e w' ⟨rfl, m, os, rfl⟩
  refine ⟨rfl, ?_, below_sort (Nat.le_refl _) (Nat.le_of_lt hk.lt)⟩
  have hh := holdsK_sortWorldK_c encL 33 w g 0 _ ((lotsTo slot n).toArray.toList.mergeSort fun x y => !(ltOf lotCmp) y x).toArray m os hH hk.lt (by simp)
  have hl := lies_holds hh (Nat.lt_of_lt_of_le hk.lt (size_sortWorldK_c encL 33 w g 0 m _ os))
  exact hl
end Go.Proofs.YtnbdpalbompjlaaDoor

/-
  Rows of numbers (int) that a call made, as cells; what a slice of them reads.
-/
namespace Go.Proofs.YtnbdpalbompjlaaDoor
open Go.RowKit
set_option maxRecDepth 10000

/-- Numbers as cells. -/
def iv (l : List Nat) : List Value := l.map fun (x : Nat) => Value.int .i64 (x : Int)
theorem iv_length (l : List Nat) : (iv l).length = l.length := by simp [iv]
theorem iv_at {l : List Nat} {j x : Nat} (h : l[j]? = some x) : (iv l)[j]? = some (.int .i64 (x : Int)) := by simp [iv, h]
theorem iv_append (a b : List Nat) : iv (a ++ b) = iv a ++ iv b := by simp [iv]
theorem iv_one (l : List Nat) : ∀ v ∈ iv l, v.oneCell' = true := by
  intro v hv; simp [iv] at hv; obtain ⟨a, _, rfl⟩ := hv; rfl
theorem Tryd.info3 : (Tryd.prog.info? 3).map (fun i => (i.zero, i.size, i.bytes)) = some (some (.int .i64 0), 1, 8) := by kernel_rfl

/-- One number that was just built, as append's source. -/
theorem src_int {P : Program} (w : World) (t : TypeId) (ht : P.underlying t = some (.slice 3)) (x : Nat) : Src P 1 t (.slice (some ⟨w.heap.size, 0, none⟩) 1 1) 1 (iv [x]) (w.alloc (.cells #[.int .i64 (x : Int)] 3)) := by
  refine Src.ofSlice _ ht _ 1 1 _ rfl ?_ (iv_one _)
  intro i y hi
  match i, hi with
  | 0, hi => simp [iv] at hi; subst hi; simp [Addr.add]

theorem src_intAt {P : Program} (w : World) (t : TypeId) (ht : P.underlying t = some (.slice 3)) (x g : Nat) (hg : g = w.heap.size) : Src P 1 t (.slice (some ⟨g, 0, none⟩) 1 1) 1 (iv [x]) (w.alloc (.cells #[.int .i64 (x : Int)] 3)) := by
  subst hg
  exact src_int w t ht x

/-- 'make' of one-cell elements, none of them in use yet. -/
theorem held_room (w : World) (z : Array Value) (m : Nat) (e : TypeId) (hm : m ≤ maxLen) : Held (w.alloc (.cells (madeCells z m) e)) w.heap.size (.slice (some ⟨w.heap.size, 0, none⟩) 0 m) [] := by
  have hs : (madeCells z m).size = m := size_madeCells _ _
  refine ⟨0, m, w.heap.size, 0, _, rfl, rfl, Nat.zero_le _, hm, fun _ => rfl, fun a ha => by cases ha; exact Nat.le_refl _, fun _ => by simp, fun j u hj => by simp at hj, fun j hj => ?_, fun j hj => ?_⟩
  · rw [Nat.zero_add, World.cell?_alloc_mark, Array.getElem?_eq_getElem (by omega)]; rfl
  · rw [Nat.zero_add]
    simp [World.frozen?_alloc_mark w (madeCells z m) e 0 0 j]

/-- What a slice that the call made reads. -/
theorem Held.lies {w : World} {base : Nat} {v : Value} {xs : List Value} (h : Held w base v xs) : ∃ ao cap b off, v = .slice ao xs.length cap ∧ Lies w w.heap.size ao b off xs := by
  obtain ⟨n, cap, g, off, ao, rfl, h⟩ := h
  have hl := h.len
  have hle := h.le
  exact ⟨ao, cap, g, off, by rw [hl], fun h0 => h.addr (by omega), fun h0 => h.lt (by omega), h.cells⟩

theorem Lies.int {w w' : World} {ao : Option Addr} {b off j x : Nat} {l : List Nat} (h : Lies w w.heap.size ao b off (iv l)) (hb : Below w.heap.size w w') (hx : l[j]? = some x) :
    ao = some ⟨b, off, none⟩ ∧ w'.cell? ⟨b, off + j, none⟩ = some (.int .i64 (x : Int)) := by
  have hl : 0 < (iv l).length := by have := (List.getElem?_eq_some_iff.1 hx).1; rw [iv_length]; omega
  have hlt := h.lt hl
  exact ⟨h.addr hl, (hb.cell (p := ⟨b, off + j, none⟩) hlt).trans (h.cells _ _ (iv_at hx))⟩

/-- A whole struct (or array) out of memory. -/
theorem run_loadAt_agg {P : Program} {w : World} {g off : Nat} {cs : List Value} (hc : ∀ j v, cs[j]? = some v → w.cell? ⟨g, off + j, none⟩ = some v) (ty : TypeId) (ha : ∀ w, (isAgg ty).run P w = .ok true w) (hi : (P.info? ty).map (·.size) = some cs.length) :
    (Instr.loadAt ty (.pointer (some ⟨g, off, none⟩))).run P w = .ok (.agg cs.toArray) w := by
  simp only [Instr.loadAt, Instr.sureAddr, Sem.run_bind, Sem.run_pure, Result.andThen]
  have hl := run_loadCells_list (P := P) w ⟨g, off, none⟩ cs (fun j v hv => by rw [Addr.add_lit]; exact hc j v hv)
  cases hq : P.info? ty with
  | none => simp [hq] at hi
  | some i =>
    have hs : i.size = cs.length := by simpa [hq] using hi
    simp [loadVar, Sem.run_bind, ha w, sizeOf, typeInfo, hq, hs, hl]

theorem wpList_load_agg {P : Program} {ops : Array Oper} {rest : List Oper} {o : Oper} {a : Act} {w : World} {Q : Exit → Act → World → Prop} (hgd : o.guard = none) (ty : TypeId) (x : Operand) (ho : o.op = .load ty x)
    (g off : Nat) (cs : List Value) (hx : a.eval x = .pointer (some ⟨g, off, none⟩))
    (hc : ∀ j v, cs[j]? = some v → w.cell? ⟨g, off + j, none⟩ = some v) (ha : ∀ w, (isAgg ty).run P w = .ok true w) (hi : (P.info? ty).map (·.size) = some cs.length)
    (h : wpList P ops Q rest (a.put o.dst (.agg cs.toArray)) w) : wpList P ops Q (o :: rest) a w := by
  refine wpList_plain hgd fun K hK => ?_
  unfold Oper.wp execOp
  simp only [ho, hx, Sem.run_bind, run_loadAt_agg hc ty ha hi, Result.andThen_ok]
  exact hK _ _ h
end Go.Proofs.YtnbdpalbompjlaaDoor

/-
  What board.names answers: whose the lots are.
-/
namespace Go.Proofs.YtnbdpalbompjlaaDoor
open Go.RowKit
set_option maxRecDepth 10000

theorem Lies.lot {w w' : World} {ao : Option Addr} {b off i : Nat} {l : List Lot} {x : Lot} (h : Lies w w.heap.size ao b off (lc l)) (hb : Below w.heap.size w w') (hx : l[i]? = some x) :
    ao = some ⟨b, off, none⟩ ∧ ∀ j v, (encL x)[j]? = some v → w'.cell? ⟨b, off + i * 33 + j, none⟩ = some v := by
  have hl : 0 < (lc l).length := by have := (List.getElem?_eq_some_iff.1 hx).1; rw [lc_length]; omega
  have hlt := h.lt hl
  refine ⟨h.addr hl, fun j v hj => ?_⟩
  have hj33 : j < 33 := by have := (List.getElem?_eq_some_iff.1 hj).1; rw [encL_length] at this; exact this
  rw [Nat.add_assoc]
  exact (hb.cell (p := ⟨b, off + (i * 33 + j), none⟩) hlt).trans (h.cells _ _ ((lc_at l i j x hx hj33).trans hj))

set_option maxHeartbeats 4000000 in
theorem names_any (w : World) (ao : Option Addr) (len cap b off : Nat) (L : List Lot) (hl : L.length = len) (hn : len ≤ 1000) (hs : Lies w w.heap.size ao b off (lc L)) :
    Calls Tryd.prog 65 #[.slice ao len cap] w fun e w' => ∃ v, e = .returned v ∧ Held w' w.heap.size v (iv (L.map (·.n))) ∧ Below w.heap.size w w' := by
  obtain ⟨i0, hi0, hz0, hz1, hz2⟩ := info_parts Tryd.info3
  have hmk := run_makeSlice (P := Tryd.prog) w 35 3 i0 (.int .i64 0) Tryd.underlying35 hi0 hz0 .i64 .i64 0 (len : Int) (by omega) (by omega) (by rw [hz1]; simp; omega) (by rw [hz2]; omega) (by omega)
  simp only [Int.toNat_natCast, Int.toNat_zero, hz1, Nat.mul_one] at hmk
  have hh := held_room w (Value.int .i64 0).cells len 3 (by unfold maxLen; omega)
  have hbel : Below w.heap.size w (w.alloc (.cells (madeCells (Value.int .i64 0).cells len) 3)) := (Below.refl _ _).alloc (Nat.le_refl _) _
  generalize w.alloc (.cells (madeCells (Value.int .i64 0).cells len) 3) = w1 at hmk hh hbel
  generalize Value.slice (some ⟨w.heap.size, 0, none⟩) 0 len = v1 at hmk hh
  have HH := Lib.hid hh
  have HB := Lib.hid hbel
  have HS := Lib.hid hs
  have HL := Lib.hid hl
  obtain ⟨N, hN⟩ : ∃ N, N = L.map (·.n) := ⟨_, rfl⟩
  have HNL := Lib.hid (show N.length = len by rw [hN, List.length_map]; exact hl)
  have HN := Lib.hid hN
  rw [← hN]
  clear hh hbel hs hl hN
  go_enter Tryd.func65, Tryd.ntmps65
  go_wp2_with fail
  go_loopw [3, 11] (fun v i wr => ∃ (j : Nat), j ≤ len ∧ i = .int .i64 j ∧ Hid (Held wr w.heap.size v (iv (N.take j))) ∧ Hid (Below w.heap.size w wr)) (fun _ i _ => len - (intOf i).toNat)
  case atStart => exact ⟨0, Nat.zero_le _, rfl, Lib.hid (by simpa [iv] using HH.out), HB⟩
  case round =>
    obtain ⟨j, hj, rfl, HV, HBel⟩ := hrel
    clear hmk
    by_cases hlt : j < len
    · obtain ⟨x, hx⟩ : ∃ x, L[j]? = some x := ⟨_, List.getElem?_eq_getElem (by rw [HL.out]; exact hlt)⟩
      obtain ⟨ha, hc⟩ := HS.out.lot HBel.out hx
      subst ha
      have HC := Lib.hid hc
      have HX := Lib.hid (show N[j]? = some x.n by rw [HN.out, List.getElem?_map, hx]; rfl)
      have HSZ := Lib.hid (show (Tryd.prog.info? 104).map (·.size) = some (encL x).length by rw [encL_length]; exact Tryd.size104)
      have HLE := Lib.hid (show 0 + (encL x).length ≤ zlot.length by rw [encL_length]; decide)
      have HSP := Lib.hid (splice_all zlot (encL x) (by rw [encL_length]; rfl))
      have HO := Lib.hid (encL_one x)
      have HK := Lib.hid (show Blk (wr.alloc (.cells #[.int .u8 0, .int .u8 0, .int .u8 0, .int .u8 0, .int .u8 0, .int .u8 0, .int .u8 0, .int .u8 0, .int .u8 0, .int .u8 0, .int .u8 0, .int .u8 0, .int .u8 0, .int .u8 0, .int .u8 0, .int .u8 0, .int .u8 0, .int .u8 0, .int .u8 0, .int .u8 0, .int .u8 0, .int .u8 0, .int .u8 0, .int .u8 0, .int .u8 0, .int .u8 0, .int .u8 0, .int .u8 0, .int .u8 0, .int .u8 0, .int .u8 0, .int .u8 0, .int .i64 0] 104)) wr.heap.size 104 zlot from Blk.new wr 104 zlot.toArray)
      have hk2 := HK.out.setRow (encL x)
      have hb2 := below_setRow (((Below.refl wr.heap.size wr).alloc (Nat.le_refl _) (.cells #[.int .u8 0, .int .u8 0, .int .u8 0, .int .u8 0, .int .u8 0, .int .u8 0, .int .u8 0, .int .u8 0, .int .u8 0, .int .u8 0, .int .u8 0, .int .u8 0, .int .u8 0, .int .u8 0, .int .u8 0, .int .u8 0, .int .u8 0, .int .u8 0, .int .u8 0, .int .u8 0, .int .u8 0, .int .u8 0, .int .u8 0, .int .u8 0, .int .u8 0, .int .u8 0, .int .u8 0, .int .u8 0, .int .u8 0, .int .u8 0, .int .u8 0, .int .u8 0, .int .i64 0] 104))) (Nat.le_refl wr.heap.size) (encL x).toArray
      have c32 := hk2.lot.2
      have HV2 := Lib.hid ((HV.out.below hb2).alloc (.cells #[.int .i64 (x.n : Int)] 3))
      have HSrc := Lib.hid (src_intAt ((wr.alloc (.cells #[.int .u8 0, .int .u8 0, .int .u8 0, .int .u8 0, .int .u8 0, .int .u8 0, .int .u8 0, .int .u8 0, .int .u8 0, .int .u8 0, .int .u8 0, .int .u8 0, .int .u8 0, .int .u8 0, .int .u8 0, .int .u8 0, .int .u8 0, .int .u8 0, .int .u8 0, .int .u8 0, .int .u8 0, .int .u8 0, .int .u8 0, .int .u8 0, .int .u8 0, .int .u8 0, .int .u8 0, .int .u8 0, .int .u8 0, .int .u8 0, .int .u8 0, .int .u8 0, .int .i64 0] 104)).setRow wr.heap.size (encL x).toArray) 35 Tryd.underlying35 x.n (wr.heap.size + 1) (by simp [World.setRow]) (P := Tryd.prog))
      have HB2 := Lib.hid (HBel.out.trans ((hb2.mono HBel.out.size).alloc (Nat.le_trans HBel.out.size hb2.size) (.cells #[.int .i64 (x.n : Int)] 3)))
      have HVL := Lib.hid (show (iv (N.take j)).length ≤ 1000 by rw [iv_length, List.length_take]; omega)
      clear hc hx hk2 hb2
      go_wp2_with (first
        | ((with_reducible refine wpList_load_agg ?_ 104 (.tmp 13) ?_ b (off + j * 33) (encL x) ?_ HC.out Tryd.isAgg104 HSZ.out ?_); rfl; rfl; rfl)
        | ((with_reducible refine wpList_store_part ?_ 104 (.tmp 5) (.tmp 14) ?_ wr.heap.size 0 (encL x) ?_ ?_ 104 _ HK.out HSZ.out HLE.out HO.out ?_); rfl; rfl; rfl; rfl; rw [HSP.out])
        | (at_builtin; refine wpList_append_held rfl _ _ 35 35 rfl rfl HV2.out 3 i0 (.int .i64 0) 8 Tryd.underlying35 hi0 hz0 hz1 hz2 rfl _ rfl 1 (iv [x.n]) HSrc.out ?e2 ?e3 ?e4 ?_))
      case e2 => have := HVL.out; unfold maxLen; omega
      case e3 => have := HVL.out; omega
      case e4 => have := HBel.out.size; omega
      intro v2 w2 hh hg
      have HB3 := Lib.hid (HB2.out.trans (hg.below HV2.out HB2.out.size))
      have HH3 := Lib.hid (show Held w2 w.heap.size v2 (iv (N.take (j + 1))) by
        rw [List.take_add_one, HX.out, iv_append]; exact hh)
      clear hh hg HSrc HV2 HB2 HK HC HSZ HLE HSP HO c32
      go_wp2_with fail
      go_roundw
      case rel => exact ⟨j + 1, by omega, by go_num, HH3, HB3⟩
      case measure => simp [intOf]; omega
    · have hjn : j = len := by omega
      have HF := Lib.hid (show Held wr w.heap.size u3 (iv N) by
        have h := HV.out
        rw [hjn, ← HNL.out, List.take_length] at h
        exact h)
      clear hjn
      go_wp2_with fail
      go_ret
      exact ⟨_, rfl, HF.out, HBel.out⟩
end Go.Proofs.YtnbdpalbompjlaaDoor

/-
  What board.Members answers, of a configuration that can be: the slot's committee.
-/
namespace Go.Proofs.YtnbdpalbompjlaaDoor
open Go.RowKit
set_option maxRecDepth 10000

theorem lc_take (l : List Lot) (k : Nat) : lc (l.take k) = (lc l).take (k * 33) := by
  induction l generalizing k with
  | nil => simp [lc]
  | cons u r ih =>
    cases k with
    | zero => simp [lc]
    | succ k =>
      have e : lc (u :: r) = encL u ++ lc r := rfl
      have e2 : lc (u :: r.take k) = encL u ++ lc (r.take k) := rfl
      rw [List.take_succ_cons, e, e2, ih, List.take_append, encL_length, show (k + 1) * 33 - 33 = k * 33 by omega, List.take_of_length_le (l := encL u) (by rw [encL_length]; omega)]

set_option maxHeartbeats 4000000 in
theorem members_any (w : World) (hT : Tabs w) (nao : Option Addr) (nlen ncap : Nat) (n1 n2 n3 n4 n5 n6 n7 n8 n9 n10 n11 : Int) (slot : Int) (C : Nat) (hC : n2 = C) (hl1 : 1 ≤ nlen) (hl2 : nlen ≤ 1000) (hc1 : 1 ≤ C) (hc2 : C ≤ nlen) :
    Calls Tryd.prog 49 #[.agg #[.slice nao nlen ncap, .int .i64 n1, .int .i64 n2, .int .i64 n3, .int .i64 n4, .int .i64 n5, .int .i64 n6, .int .i64 n7, .int .i64 n8, .int .i64 n9, .int .i64 n10, .int .i64 n11], .int .i64 slot] w fun e w' => ∃ v, e = .returned v ∧ Held w' w.heap.size v (iv (comm slot nlen C)) ∧ Below w.heap.size w w' := by
  subst hC
  have HB0 := Lib.hid ((Below.refl w.heap.size w).alloc (Nat.le_refl _) (.cells #[.slice nao nlen ncap, .int .i64 n1, .int .i64 C, .int .i64 n3, .int .i64 n4, .int .i64 n5, .int .i64 n6, .int .i64 n7, .int .i64 n8, .int .i64 n9, .int .i64 n10, .int .i64 n11] 24))
  have HK0 := Lib.hid (Blk.new w 24 #[.slice nao nlen ncap, .int .i64 n1, .int .i64 C, .int .i64 n3, .int .i64 n4, .int .i64 n5, .int .i64 n6, .int .i64 n7, .int .i64 n8, .int .i64 n9, .int .i64 n10, .int .i64 n11])
  by_cases h0 : slot < 0
  · have HE := Lib.hid (show comm slot nlen C = [] by rw [comm, if_neg (by omega)])
    go_enter Tryd.func49, Tryd.ntmps49
    go_wp2_with fail
    go_ret
    exact ⟨_, rfl, by rw [HE.out]; exact Held.nil _ _, HB0.out⟩
  · by_cases hm : (1073741824 : Int) < slot
    · have HE := Lib.hid (show comm slot nlen C = [] by rw [comm, if_neg (by omega)])
      go_enter Tryd.func49, Tryd.ntmps49
      go_wp2_with fail
      go_ret
      exact ⟨_, rfl, by rw [HE.out]; exact Held.nil _ _, HB0.out⟩
    · obtain ⟨S, rfl⟩ : ∃ S : Nat, slot = S := ⟨slot.toNat, by omega⟩
      have hS : S ≤ 1073741824 := by omega
      have HE := Lib.hid (show comm (S : Int) nlen C = (ranks S nlen).take C by rw [comm, if_pos (by omega)]; rfl)
      go_enter Tryd.func49, Tryd.ntmps49
      go_wp2_with fail
      generalize w.alloc (.cells #[.slice nao nlen ncap, .int .i64 n1, .int .i64 C, .int .i64 n3, .int .i64 n4, .int .i64 n5, .int .i64 n6, .int .i64 n7, .int .i64 n8, .int .i64 n9, .int .i64 n10, .int .i64 n11] 24) = w1 at HB0 HK0 ⊢
      refine (draw_any w1 (hT.below HB0.out hT.size) S nlen hS hl2).mono ?_
      rintro e w2 ⟨rfl, hk2, hb2⟩
      have HK2 := Lib.hid (HK0.out.below hb2 HK0.out.lt)
      have HB2 := Lib.hid (HB0.out.trans (hb2.mono HB0.out.size))
      have HG := Lib.hid HB0.out.size
      have HGL := Lib.hid (show w.heap.size < w1.heap.size from HK0.out.lt)
      generalize w1.heap.size = g at hk2 HG HGL ⊢
      have HL2 := Lib.hid hk2
      clear hk2 hb2 HK0 HB0
      go_wp2_with fail
      refine (sort_any w2 g nlen nlen S HL2.out hl2).mono ?_
      rintro e w3 ⟨rfl, hl3, hb3⟩
      have c2 := (HK2.out.below hb3 HGL.out).cell 2
      simp only [List.getElem?_cons_zero, List.getElem?_cons_succ] at c2
      have HB3 := Lib.hid (HB2.out.trans (hb3.mono HG.out))
      have HL3 := Lib.hid ((hl3.take (C * 33)))
      rw [← lc_take] at HL3
      have HLen := Lib.hid (show ((sortedLots S nlen).take C).length = C by rw [List.length_take, sortedLots_length]; omega)
      have HM := Lib.hid (show ((sortedLots S nlen).take C).map (·.n) = (ranks S nlen).take C by rw [ranks, List.map_take])
      clear hl3 hb3 HK2 HB2 HL2
      go_wp2_with fail
      have hmin : (min (C : Int) (nlen : Int)).toNat = C := by omega
      rw [hmin]
      clear hmin c2
      refine (names_any w3 _ C nlen g 0 _ HLen.out (by omega) HL3.out).mono ?_
      rintro e w4 ⟨v, rfl, hh4, hb4⟩
      rw [HM.out, ← HE.out] at hh4
      have HH4 := Lib.hid (hh4.mono HB3.out.size)
      have HB4 := Lib.hid (HB3.out.trans (hb4.mono HB3.out.size))
      clear hh4 hb4
      go_wp2_with fail
      go_ret
      exact ⟨_, rfl, HH4.out, HB4.out⟩
end Go.Proofs.YtnbdpalbompjlaaDoor
