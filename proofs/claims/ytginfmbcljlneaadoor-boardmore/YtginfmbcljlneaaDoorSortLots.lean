/-
  The lots sorted: the library's slices.SortFunc at lots, by the contract that the kit's library holds for whatever program.
-/
import Derived.Test.YtginfmbcljlneaaDoorLotOrder
import Derived.Shelf.SlSortCmp.NoneTotal
namespace Go.Proofs.YtginfmbcljlneaaDoor
open Go.Shelf Go.RowKit Go.Lib Go.Sort
set_option maxRecDepth 10000

def Tryd.sortLot_ren : Go.Shelf.Ren := ⟨fun | 6 => 25 | 15 => 33 | 14 => 32 | 28 => 48 | 29 => 49 | 20 => 40 | 21 => 41 | 22 => 42 | 23 => 43 | 24 => 44 | 25 => 45 | 26 => 46 | 27 => 47 | 46 => 57 | 47 => 58 | 48 => 59 | 49 => 60 | 50 => 61 | 57 => 66 | n => n, fun | 22 => 52 | 24 => 56 | 25 => 57 | 3 => 3 | 39 => 59 | 0 => 0 | 53 => 61 | 55 => 50 | 4 => 4 | 46 => 78 | 45 => 77 | 50 => 43 | 5 => 5 | 9 => 9 | 66 => 96 | 70 => 100 | 76 => 107 | 77 => 108 | n => n, fun | n => n⟩
theorem Tryd.sortLot : Go.Proofs.SlLaysF0.n6 Tryd.prog Tryd.sortLot_ren :=
  { mixed := by kernel_rfl,
    f6 := ⟨Tryd.f25.name, by decide, Tryd.func25.trans (congrArg some (by kernel_rfl))⟩,
    f14 := ⟨Tryd.f32.name, by decide, Tryd.func32.trans (congrArg some (by kernel_rfl))⟩,
    f15 := Tryd.func33.trans (congrArg some (by kernel_rfl)),
    f20 := ⟨Tryd.f40.name, by decide, Tryd.func40.trans (congrArg some (by kernel_rfl))⟩,
    f21 := ⟨Tryd.f41.name, by decide, Tryd.func41.trans (congrArg some (by kernel_rfl))⟩,
    f22 := ⟨Tryd.f42.name, by decide, Tryd.func42.trans (congrArg some (by kernel_rfl))⟩,
    f23 := ⟨Tryd.f43.name, by decide, Tryd.func43.trans (congrArg some (by kernel_rfl))⟩,
    f24 := ⟨Tryd.f44.name, by decide, Tryd.func44.trans (congrArg some (by kernel_rfl))⟩,
    f25 := ⟨Tryd.f45.name, by decide, Tryd.func45.trans (congrArg some (by kernel_rfl))⟩,
    f26 := ⟨Tryd.f46.name, by decide, Tryd.func46.trans (congrArg some (by kernel_rfl))⟩,
    f27 := ⟨Tryd.f47.name, by decide, Tryd.func47.trans (congrArg some (by kernel_rfl))⟩,
    f28 := Tryd.func48.trans (congrArg some (by kernel_rfl)),
    f29 := Tryd.func49.trans (congrArg some (by kernel_rfl)),
    f46 := ⟨Tryd.f57.name, by decide, Tryd.func57.trans (congrArg some (by kernel_rfl))⟩,
    f47 := Tryd.func58.trans (congrArg some (by kernel_rfl)),
    f48 := Tryd.func59.trans (congrArg some (by kernel_rfl)),
    f49 := ⟨Tryd.f60.name, by decide, Tryd.func60.trans (congrArg some (by kernel_rfl))⟩,
    f50 := ⟨Tryd.f61.name, by decide, Tryd.func61.trans (congrArg some (by kernel_rfl))⟩,
    f57 := ⟨Tryd.f66.name, by decide, Tryd.func66.trans (congrArg some (by kernel_rfl))⟩,
    t0 := Tryd.underlying0,
    a0 := Tryd.isAgg0,
    z0 := Tryd.sizeOf0,
    v0 := Tryd.zeroValue0,
    t3 := Tryd.underlying3,
    a3 := Tryd.isAgg3,
    z3 := Tryd.sizeOf3,
    v3 := Tryd.zeroValue3,
    t4 := Tryd.underlying4,
    a4 := Tryd.isAgg4,
    z4 := Tryd.sizeOf4,
    v4 := Tryd.zeroValue4,
    t5 := Tryd.underlying5,
    a5 := Tryd.isAgg5,
    z5 := Tryd.sizeOf5,
    v5 := Tryd.zeroValue5,
    t9 := Tryd.underlying9,
    a9 := Tryd.isAgg9,
    z9 := Tryd.sizeOf9,
    v9 := Tryd.zeroValue9,
    t22 := Tryd.underlying52,
    a22 := Tryd.isAgg52,
    z22 := Tryd.sizeOf52,
    v22 := Tryd.zeroValue52,
    t25 := Tryd.underlying57,
    a25 := Tryd.isAgg57,
    z25 := Tryd.sizeOf57,
    v25 := Tryd.zeroValue57,
    t39 := Tryd.underlying59,
    a39 := Tryd.isAgg59,
    z39 := Tryd.sizeOf59,
    v39 := Tryd.zeroValue59,
    t45 := Tryd.underlying77,
    a45 := Tryd.isAgg77,
    z45 := Tryd.sizeOf77,
    v45 := Tryd.zeroValue77,
    t46 := Tryd.underlying78,
    a46 := Tryd.isAgg78,
    z46 := Tryd.sizeOf78,
    v46 := Tryd.zeroValue78,
    t50 := Tryd.underlying43,
    a50 := Tryd.isAgg43,
    z50 := Tryd.sizeOf43,
    v50 := Tryd.zeroValue43,
    t53 := Tryd.underlying61,
    a53 := Tryd.isAgg61,
    z53 := Tryd.sizeOf61,
    v53 := Tryd.zeroValue61,
    t55 := Tryd.underlying50,
    a55 := Tryd.isAgg50,
    z55 := Tryd.sizeOf50,
    v55 := Tryd.zeroValue50,
    t66 := Tryd.underlying96,
    a66 := Tryd.isAgg96,
    z66 := Tryd.sizeOf96,
    v66 := Tryd.zeroValue96,
    t70 := Tryd.underlying100,
    a70 := Tryd.isAgg100,
    z70 := Tryd.sizeOf100,
    v70 := Tryd.zeroValue100,
    t76 := Tryd.underlying107,
    a76 := Tryd.isAgg107,
    z76 := Tryd.sizeOf107,
    v76 := Tryd.zeroValue107,
    t77 := Tryd.underlying108,
    a77 := Tryd.isAgg108,
    z77 := Tryd.sizeOf108,
    v77 := Tryd.zeroValue108 }

theorem flat_lc (d : Array Lot) : (flatK encL 33 d).toList = lc d.toList := by
  apply List.ext_getElem?
  intro t
  have hl : (lc d.toList).length = d.size * 33 := by rw [lc_length, Array.length_toList]
  by_cases h : t < d.size * 33
  · have hq : t / 33 < d.size := by omega
    have hr : t % 33 < 33 := by omega
    have hx : d.toList[t / 33]? = some d[t / 33]! := by rw [getElem!_pos d (t / 33) hq]; simp [hq]
    have h1 := lc_at d.toList (t / 33) (t % 33) _ hx hr
    rw [show t / 33 * 33 + t % 33 = t by omega] at h1
    rw [h1, Array.getElem?_toList, getElem?_pos _ t (by rw [size_flatK]; exact h), ← getElem!_pos _ t (by rw [size_flatK]; exact h), get_flatK encL 33 d t h]
    rw [getElem!_pos _ (t % 33) (by rw [encL_length]; exact hr), List.getElem?_eq_getElem (by rw [encL_length]; exact hr)]
  · rw [List.getElem?_eq_none (by rw [Array.length_toList, size_flatK]; omega), List.getElem?_eq_none (by omega)]

theorem holds_blk {w : World} {g : Nat} {t : TypeId} {d : Array Lot} (h : Blk w g t (lc d.toList)) : HoldsK encL 33 w g 0 d := by
  intro j hj
  have e : (lc d.toList)[j]? = some (id (flatK encL 33 d)[j]!) := by
    rw [← flat_lc, Array.getElem?_toList, getElem?_pos _ j hj, getElem!_pos _ j hj]
    rfl
  exact ⟨by rw [Nat.zero_add, h.cell, e], by rw [Nat.zero_add]; exact h.free j⟩

theorem lies_holds {w : World} {g : Nat} {d : Array Lot} (h : HoldsK encL 33 w g 0 d) (hg : g < w.heap.size) : Lies w w.heap.size (some ⟨g, 0, none⟩) g 0 (lc d.toList) :=
  ⟨fun _ => rfl, fun _ => hg, fun j u hj => by
    rw [← flat_lc, Array.getElem?_toList] at hj
    obtain ⟨hlt, he⟩ := Array.getElem?_eq_some_iff.1 hj
    have h1 := (h j hlt).1
    rw [getElem!_pos _ j hlt, he] at h1
    exact h1⟩

theorem below_sort {w : World} {g n B : Nat} {d : Array Lot} {os : Array Obj} (h : B ≤ g) (hs : B ≤ w.heap.size) : Below B w (sortWorldK encL 33 w g 0 n d os) := by
  unfold sortWorldK putRowK putRow mapBlock Sort.ahead grow
  refine ⟨rfl, rfl, rfl, ?_, fun k hk => ?_⟩
  · simp
  · show (w.heap.modify g _ ++ os)[k]? = w.heap[k]?
    rw [Array.getElem?_append_left (by rw [Array.size_modify]; omega), Array.getElem?_modify, if_neg (by omega)]

set_option maxHeartbeats 1000000 in
theorem sort_any (w : World) (g n cap slot : Nat) (hk : Blk w g 56 (lc (lotsTo slot n))) (hn : n ≤ 1000) :
    Calls Tryd.prog 25 #[.slice (some ⟨g, 0, none⟩) n cap, .func (.func 26) #[] #[]] w fun e w' => e = .returned (.tuple #[]) ∧ Lies w' w'.heap.size (some ⟨g, 0, none⟩) g 0 (lc (sortedLots slot n)) ∧ Below g w w' := by
  have hd : (lotsTo slot n).toArray.size = n := by rw [List.size_toArray, lotsTo_length]
  have hH : HoldsK encL 33 w g 0 (lotsTo slot n).toArray := holds_blk (by simpa using hk)
  have eg : ∀ args w, (callFunc 26 args).run Tryd.prog w = .ok (.enter 26 args) w := enters_of Tryd.func26 (by kernel_rfl) rfl
  have hcon := AnyQ.slices_SortFunc_total Tryd.sortLot 33 Tryd.isAgg56 Tryd.sizeOf56 encL encL_length encL_one lotCmp lot_swo 26 #[] g 0 cap (lotsTo slot n).toArray w eg (order_lays g 0 _ w) hH hk.lt (by omega) lot_total
  rw [hd] at hcon
  refine Calls.mono (show Calls Tryd.prog 25 _ _ _ from hcon) ?_
  rintro e w' ⟨rfl, m, os, rfl⟩
  refine ⟨rfl, ?_, below_sort (Nat.le_refl _) (Nat.le_of_lt hk.lt)⟩
  have hh := holdsK_sortWorldK_c encL 33 w g 0 _ ((lotsTo slot n).toArray.toList.mergeSort fun x y => !(ltOf lotCmp) y x).toArray m os hH hk.lt (by simp)
  have hl := lies_holds hh (Nat.lt_of_lt_of_le hk.lt (size_sortWorldK_c encL 33 w g 0 m _ os))
  exact hl
end Go.Proofs.YtginfmbcljlneaaDoor
