/-
  The texts SortLots, Members, one behind the other.
-/
import Derived.Test.YtnbdpalbompjlaaDoorM15
import Derived.Shelf.SlSortCmp.NoneTotal
/-
  The lots sorted: the library's slices.SortFunc at lots, by the contract that the kit's library holds for whatever program.
-/
namespace Go.Proofs.YtnbdpalbompjlaaDoor
open Go.Shelf Go.RowKit Go.Lib Go.Sort
set_option maxRecDepth 10000

def Tryd.sortLot_ren : Go.Shelf.Ren := ⟨fun | 6 => 63 | 15 => 75 | 14 => 74 | 28 => 91 | 29 => 92 | 20 => 83 | 21 => 84 | 22 => 85 | 23 => 86 | 24 => 87 | 25 => 88 | 26 => 89 | 27 => 90 | 46 => 100 | 47 => 101 | 48 => 102 | 49 => 103 | 50 => 104 | 57 => 107 | n => n, fun | 22 => 100 | 24 => 104 | 25 => 105 | 3 => 3 | 39 => 47 | 0 => 0 | 53 => 92 | 55 => 27 | 4 => 4 | 46 => 129 | 45 => 128 | 50 => 74 | 5 => 5 | 9 => 9 | 66 => 142 | 70 => 146 | 76 => 148 | 77 => 149 | n => n, fun | n => n⟩
theorem Tryd.sortLot : Go.Proofs.SlLaysF0.n6 Tryd.prog Tryd.sortLot_ren :=
  { mixed := by kernel_rfl,
    f6 := ⟨Tryd.f63.name, by decide, Tryd.func63.trans (congrArg some (by kernel_rfl))⟩,
    f14 := ⟨Tryd.f74.name, by decide, Tryd.func74.trans (congrArg some (by kernel_rfl))⟩,
    f15 := Tryd.func75.trans (congrArg some (by kernel_rfl)),
    f20 := ⟨Tryd.f83.name, by decide, Tryd.func83.trans (congrArg some (by kernel_rfl))⟩,
    f21 := ⟨Tryd.f84.name, by decide, Tryd.func84.trans (congrArg some (by kernel_rfl))⟩,
    f22 := ⟨Tryd.f85.name, by decide, Tryd.func85.trans (congrArg some (by kernel_rfl))⟩,
    f23 := ⟨Tryd.f86.name, by decide, Tryd.func86.trans (congrArg some (by kernel_rfl))⟩,
    f24 := ⟨Tryd.f87.name, by decide, Tryd.func87.trans (congrArg some (by kernel_rfl))⟩,
    f25 := ⟨Tryd.f88.name, by decide, Tryd.func88.trans (congrArg some (by kernel_rfl))⟩,
    f26 := ⟨Tryd.f89.name, by decide, Tryd.func89.trans (congrArg some (by kernel_rfl))⟩,
    f27 := ⟨Tryd.f90.name, by decide, Tryd.func90.trans (congrArg some (by kernel_rfl))⟩,
    f28 := Tryd.func91.trans (congrArg some (by kernel_rfl)),
    f29 := Tryd.func92.trans (congrArg some (by kernel_rfl)),
    f46 := ⟨Tryd.f100.name, by decide, Tryd.func100.trans (congrArg some (by kernel_rfl))⟩,
    f47 := Tryd.func101.trans (congrArg some (by kernel_rfl)),
    f48 := Tryd.func102.trans (congrArg some (by kernel_rfl)),
    f49 := ⟨Tryd.f103.name, by decide, Tryd.func103.trans (congrArg some (by kernel_rfl))⟩,
    f50 := ⟨Tryd.f104.name, by decide, Tryd.func104.trans (congrArg some (by kernel_rfl))⟩,
    f57 := ⟨Tryd.f107.name, by decide, Tryd.func107.trans (congrArg some (by kernel_rfl))⟩,
    t0 := Tryd.underlying0,
    a0 := Tryd.isAgg0,
    z0 := Tryd.sizeOf0,
    v0 := Tryd.zeroValue0,
    t3 := Tryd.underlying3,
    a3 := Tryd.isAgg3,
    z3 := Tryd.sizeOf3,
    v3 := Tryd.zeroValue3,
    t4 := Tryd.underlying4,
    a4 := Tryd.isAgg4,
    z4 := Tryd.sizeOf4,
    v4 := Tryd.zeroValue4,
    t5 := Tryd.underlying5,
    a5 := Tryd.isAgg5,
    z5 := Tryd.sizeOf5,
    v5 := Tryd.zeroValue5,
    t9 := Tryd.underlying9,
    a9 := Tryd.isAgg9,
    z9 := Tryd.sizeOf9,
    v9 := Tryd.zeroValue9,
    t22 := Tryd.underlying100,
    a22 := Tryd.isAgg100,
    z22 := Tryd.sizeOf100,
    v22 := Tryd.zeroValue100,
    t25 := Tryd.underlying105,
    a25 := Tryd.isAgg105,
    z25 := Tryd.sizeOf105,
    v25 := Tryd.zeroValue105,
    t39 := Tryd.underlying47,
    a39 := Tryd.isAgg47,
    z39 := Tryd.sizeOf47,
    v39 := Tryd.zeroValue47,
    t45 := Tryd.underlying128,
    a45 := Tryd.isAgg128,
    z45 := Tryd.sizeOf128,
    v45 := Tryd.zeroValue128,
    t46 := Tryd.underlying129,
    a46 := Tryd.isAgg129,
    z46 := Tryd.sizeOf129,
    v46 := Tryd.zeroValue129,
    t50 := Tryd.underlying74,
    a50 := Tryd.isAgg74,
    z50 := Tryd.sizeOf74,
    v50 := Tryd.zeroValue74,
    t53 := Tryd.underlying92,
    a53 := Tryd.isAgg92,
    z53 := Tryd.sizeOf92,
    v53 := Tryd.zeroValue92,
    t55 := Tryd.underlying27,
    a55 := Tryd.isAgg27,
    z55 := Tryd.sizeOf27,
    v55 := Tryd.zeroValue27,
    t66 := Tryd.underlying142,
    a66 := Tryd.isAgg142,
    z66 := Tryd.sizeOf142,
    v66 := Tryd.zeroValue142,
    t70 := Tryd.underlying146,
    a70 := Tryd.isAgg146,
    z70 := Tryd.sizeOf146,
    v70 := Tryd.zeroValue146,
    t76 := Tryd.underlying148,
    a76 := Tryd.isAgg148,
    z76 := Tryd.sizeOf148,
    v76 := Tryd.zeroValue148,
    t77 := Tryd.underlying149,
    a77 := Tryd.isAgg149,
    z77 := Tryd.sizeOf149,
    v77 := Tryd.zeroValue149 }

theorem flat_lc (d : Array Lot) : (flatK encL 33 d).toList = lc d.toList := by
  apply List.ext_getElem?
  intro t
  have hl : (lc d.toList).length = d.size * 33 := by rw [lc_length, Array.length_toList]
  by_cases h : t < d.size * 33
  · have hq : t / 33 < d.size := by omega
    have hr : t % 33 < 33 := by omega
    have hx : d.toList[t / 33]? = some d[t / 33]! := by rw [getElem!_pos d (t / 33) hq]; simp [hq]
    have h1 := lc_at d.toList (t / 33) (t % 33) _ hx hr
    rw [show t / 33 * 33 + t % 33 = t by omega] at h1
    rw [h1, Array.getElem?_toList, getElem?_pos _ t (by rw [size_flatK]; exact h), ← getElem!_pos _ t (by rw [size_flatK]; exact h), get_flatK encL 33 d t h]
    rw [getElem!_pos _ (t % 33) (by rw [encL_length]; exact hr), List.getElem?_eq_getElem (by rw [encL_length]; exact hr)]
  · rw [List.getElem?_eq_none (by rw [Array.length_toList, size_flatK]; omega), List.getElem?_eq_none (by omega)]

theorem holds_blk {w : World} {g : Nat} {t : TypeId} {d : Array Lot} (h : Blk w g t (lc d.toList)) : HoldsK encL 33 w g 0 d := by
  intro j hj
  have e : (lc d.toList)[j]? = some (id (flatK encL 33 d)[j]!) := by
    rw [← flat_lc, Array.getElem?_toList, getElem?_pos _ j hj, getElem!_pos _ j hj]
    rfl
  exact ⟨by rw [Nat.zero_add, h.cell, e], by rw [Nat.zero_add]; exact h.free j⟩

theorem lies_holds {w : World} {g : Nat} {d : Array Lot} (h : HoldsK encL 33 w g 0 d) (hg : g < w.heap.size) : Lies w w.heap.size (some ⟨g, 0, none⟩) g 0 (lc d.toList) :=
  ⟨fun _ => rfl, fun _ => hg, fun j u hj => by
    rw [← flat_lc, Array.getElem?_toList] at hj
    obtain ⟨hlt, he⟩ := Array.getElem?_eq_some_iff.1 hj
    have h1 := (h j hlt).1
    rw [getElem!_pos _ j hlt, he] at h1
    exact h1⟩

theorem below_sort {w : World} {g n B : Nat} {d : Array Lot} {os : Array Obj} (h : B ≤ g) (hs : B ≤ w.heap.size) : Below B w (sortWorldK encL 33 w g 0 n d os) := by
  unfold sortWorldK putRowK putRow mapBlock Sort.ahead grow
  refine ⟨rfl, rfl, rfl, ?_, fun k hk => ?_⟩
  · simp
  · show (w.heap.modify g _ ++ os)[k]? = w.heap[k]?
    rw [Array.getElem?_append_left (by rw [Array.size_modify]; omega), Array.getElem?_modify, if_neg (by omega)]

set_option maxHeartbeats 1000000 in
theorem sort_any (w : World) (g n cap slot : Nat) (hk : Blk w g 104 (lc (lotsTo slot n))) (hn : n ≤ 1000) :
    Calls Tryd.prog 63 #[.slice (some ⟨g, 0, none⟩) n cap, .func (.func 64) #[] #[]] w fun e w' => e = .returned (.tuple #[]) ∧ Lies w' w'.heap.size (some ⟨g, 0, none⟩) g 0 (lc (sortedLots slot n)) ∧ Below g w w' := by
  have hd : (lotsTo slot n).toArray.size = n := by rw [List.size_toArray, lotsTo_length]
  have hH : HoldsK encL 33 w g 0 (lotsTo slot n).toArray := holds_blk (by simpa using hk)
  have eg : ∀ args w, (callFunc 64 args).run Tryd.prog w = .ok (.enter 64 args) w := enters_of Tryd.func64 (by kernel_rfl) rfl
  have hcon := AnyQ.slices_SortFunc_total Tryd.sortLot 33 Tryd.isAgg104 Tryd.sizeOf104 encL encL_length encL_one lotCmp lot_swo 64 #[] g 0 cap (lotsTo slot n).toArray w eg (order_lays g 0 _ w) hH hk.lt (by omega) lot_total
  rw [hd] at hcon
  refine Calls.mono (show Calls Tryd.prog 63 _ _ _ from hcon) ?_
  rintro e w' ⟨rfl, m, os, rfl⟩
  refine ⟨rfl, ?_, below_sort (Nat.le_refl _) (Nat.le_of_lt hk.lt)⟩
  have hh := holdsK_sortWorldK_c encL 33 w g 0 _ ((lotsTo slot n).toArray.toList.mergeSort fun x y => !(ltOf lotCmp) y x).toArray m os hH hk.lt (by simp)
  have hl := lies_holds hh (Nat.lt_of_lt_of_le hk.lt (size_sortWorldK_c encL 33 w g 0 m _ os))
  exact hl
end Go.Proofs.YtnbdpalbompjlaaDoor

/-
  What board.Members answers, of a configuration that can be: the slot's committee.
-/
namespace Go.Proofs.YtnbdpalbompjlaaDoor
open Go.RowKit
set_option maxRecDepth 10000

theorem lc_take (l : List Lot) (k : Nat) : lc (l.take k) = (lc l).take (k * 33) := by
  induction l generalizing k with
  | nil => simp [lc]
  | cons u r ih =>
    cases k with
    | zero => simp [lc]
    | succ k =>
      have e : lc (u :: r) = encL u ++ lc r := rfl
      have e2 : lc (u :: r.take k) = encL u ++ lc (r.take k) := rfl
      rw [List.take_succ_cons, e, e2, ih, List.take_append, encL_length, show (k + 1) * 33 - 33 = k * 33 by omega, List.take_of_length_le (l := encL u) (by rw [encL_length]; omega)]

set_option maxHeartbeats 4000000 in
theorem members_any (w : World) (hT : Tabs w) (nao : Option Addr) (nlen ncap : Nat) (n1 n2 n3 n4 n5 n6 n7 n8 n9 n10 n11 : Int) (slot : Int) (C : Nat) (hC : n2 = C) (hl1 : 1 ≤ nlen) (hl2 : nlen ≤ 1000) (hc1 : 1 ≤ C) (hc2 : C ≤ nlen) :
    Calls Tryd.prog 49 #[.agg #[.slice nao nlen ncap, .int .i64 n1, .int .i64 n2, .int .i64 n3, .int .i64 n4, .int .i64 n5, .int .i64 n6, .int .i64 n7, .int .i64 n8, .int .i64 n9, .int .i64 n10, .int .i64 n11], .int .i64 slot] w fun e w' => ∃ v, e = .returned v ∧ Held w' w.heap.size v (iv (comm slot nlen C)) ∧ Below w.heap.size w w' := by
  subst hC
  have HB0 := Lib.hid ((Below.refl w.heap.size w).alloc (Nat.le_refl _) (.cells #[.slice nao nlen ncap, .int .i64 n1, .int .i64 C, .int .i64 n3, .int .i64 n4, .int .i64 n5, .int .i64 n6, .int .i64 n7, .int .i64 n8, .int .i64 n9, .int .i64 n10, .int .i64 n11] 24))
  have HK0 := Lib.hid (Blk.new w 24 #[.slice nao nlen ncap, .int .i64 n1, .int .i64 C, .int .i64 n3, .int .i64 n4, .int .i64 n5, .int .i64 n6, .int .i64 n7, .int .i64 n8, .int .i64 n9, .int .i64 n10, .int .i64 n11])
  by_cases h0 : slot < 0
  · have HE := Lib.hid (show comm slot nlen C = [] by rw [comm, if_neg (by omega)])
    go_enter Tryd.func49, Tryd.ntmps49
    go_wp2_with fail
    go_ret
    exact ⟨_, rfl, by rw [HE.out]; exact Held.nil _ _, HB0.out⟩
  · by_cases hm : (1073741824 : Int) < slot
    · have HE := Lib.hid (show comm slot nlen C = [] by rw [comm, if_neg (by omega)])
      go_enter Tryd.func49, Tryd.ntmps49
      go_wp2_with fail
      go_ret
      exact ⟨_, rfl, by rw [HE.out]; exact Held.nil _ _, HB0.out⟩
    · obtain ⟨S, rfl⟩ : ∃ S : Nat, slot = S := ⟨slot.toNat, by omega⟩
      have hS : S ≤ 1073741824 := by omega
      have HE := Lib.hid (show comm (S : Int) nlen C = (ranks S nlen).take C by rw [comm, if_pos (by omega)]; rfl)
      go_enter Tryd.func49, Tryd.ntmps49
      go_wp2_with fail
      generalize w.alloc (.cells #[.slice nao nlen ncap, .int .i64 n1, .int .i64 C, .int .i64 n3, .int .i64 n4, .int .i64 n5, .int .i64 n6, .int .i64 n7, .int .i64 n8, .int .i64 n9, .int .i64 n10, .int .i64 n11] 24) = w1 at HB0 HK0 ⊢
      refine (draw_any w1 (hT.below HB0.out hT.size) S nlen hS hl2).mono ?_
      rintro e w2 ⟨rfl, hk2, hb2⟩
      have HK2 := Lib.hid (HK0.out.below hb2 HK0.out.lt)
      have HB2 := Lib.hid (HB0.out.trans (hb2.mono HB0.out.size))
      have HG := Lib.hid HB0.out.size
      have HGL := Lib.hid (show w.heap.size < w1.heap.size from HK0.out.lt)
      generalize w1.heap.size = g at hk2 HG HGL ⊢
      have HL2 := Lib.hid hk2
      clear hk2 hb2 HK0 HB0
      go_wp2_with fail
      refine (sort_any w2 g nlen nlen S HL2.out hl2).mono ?_
      rintro e w3 ⟨rfl, hl3, hb3⟩
      have c2 := (HK2.out.below hb3 HGL.out).cell 2
      simp only [List.getElem?_cons_zero, List.getElem?_cons_succ] at c2
      have HB3 := Lib.hid (HB2.out.trans (hb3.mono HG.out))
      have HL3 := Lib.hid ((hl3.take (C * 33)))
      rw [← lc_take] at HL3
      have HLen := Lib.hid (show ((sortedLots S nlen).take C).length = C by rw [List.length_take, sortedLots_length]; omega)
      have HM := Lib.hid (show ((sortedLots S nlen).take C).map (·.n) = (ranks S nlen).take C by rw [ranks, List.map_take])
      clear hl3 hb3 HK2 HB2 HL2
      go_wp2_with fail
      have hmin : (min (C : Int) (nlen : Int)).toNat = C := by omega
      rw [hmin]
      clear hmin c2
      refine (names_any w3 _ C nlen g 0 _ HLen.out (by omega) HL3.out).mono ?_
      rintro e w4 ⟨v, rfl, hh4, hb4⟩
      rw [HM.out, ← HE.out] at hh4
      have HH4 := Lib.hid (hh4.mono HB3.out.size)
      have HB4 := Lib.hid (HB3.out.trans (hb4.mono HB3.out.size))
      clear hh4 hb4
      go_wp2_with fail
      go_ret
      exact ⟨_, rfl, HH4.out, HB4.out⟩
end Go.Proofs.YtnbdpalbompjlaaDoor
