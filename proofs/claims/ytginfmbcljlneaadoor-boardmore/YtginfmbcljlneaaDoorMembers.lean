/-
  What board.Members answers, of a configuration that can be: the slot's committee.
-/
import Derived.Test.YtginfmbcljlneaaDoorSortLots
import Derived.Test.YtginfmbcljlneaaDoorNames
namespace Go.Proofs.YtginfmbcljlneaaDoor
open Go.RowKit
set_option maxRecDepth 10000

theorem lc_take (l : List Lot) (k : Nat) : lc (l.take k) = (lc l).take (k * 33) := by
  induction l generalizing k with
  | nil => simp [lc]
  | cons u r ih =>
    cases k with
    | zero => simp [lc]
    | succ k =>
      have e : lc (u :: r) = encL u ++ lc r := rfl
      have e2 : lc (u :: r.take k) = encL u ++ lc (r.take k) := rfl
      rw [List.take_succ_cons, e, e2, ih, List.take_append, encL_length, show (k + 1) * 33 - 33 = k * 33 by omega, List.take_of_length_le (l := encL u) (by rw [encL_length]; omega)]

set_option maxHeartbeats 4000000 in
theorem members_any (w : World) (hT : Tabs w) (nao : Option Addr) (nlen ncap : Nat) (n1 n2 n3 n4 n5 n6 n7 n8 n9 n10 n11 : Int) (slot : Int) (C : Nat) (hC : n2 = C) (hl1 : 1 ≤ nlen) (hl2 : nlen ≤ 1000) (hc1 : 1 ≤ C) (hc2 : C ≤ nlen) :
    Calls Tryd.prog 15 #[.agg #[.slice nao nlen ncap, .int .i64 n1, .int .i64 n2, .int .i64 n3, .int .i64 n4, .int .i64 n5, .int .i64 n6, .int .i64 n7, .int .i64 n8, .int .i64 n9, .int .i64 n10, .int .i64 n11], .int .i64 slot] w fun e w' => ∃ v, e = .returned v ∧ Held w' w.heap.size v (iv (comm slot nlen C)) ∧ Below w.heap.size w w' := by
  subst hC
  have HB0 := Lib.hid ((Below.refl w.heap.size w).alloc (Nat.le_refl _) (.cells #[.slice nao nlen ncap, .int .i64 n1, .int .i64 C, .int .i64 n3, .int .i64 n4, .int .i64 n5, .int .i64 n6, .int .i64 n7, .int .i64 n8, .int .i64 n9, .int .i64 n10, .int .i64 n11] 24))
  have HK0 := Lib.hid (Blk.new w 24 #[.slice nao nlen ncap, .int .i64 n1, .int .i64 C, .int .i64 n3, .int .i64 n4, .int .i64 n5, .int .i64 n6, .int .i64 n7, .int .i64 n8, .int .i64 n9, .int .i64 n10, .int .i64 n11])
  by_cases h0 : slot < 0
  · have HE := Lib.hid (show comm slot nlen C = [] by rw [comm, if_neg (by omega)])
    go_enter Tryd.func15, Tryd.ntmps15
    go_wp2_with fail
    go_ret
    exact ⟨_, rfl, by rw [HE.out]; exact Held.nil _ _, HB0.out⟩
  · by_cases hm : (1073741824 : Int) < slot
    · have HE := Lib.hid (show comm slot nlen C = [] by rw [comm, if_neg (by omega)])
      go_enter Tryd.func15, Tryd.ntmps15
      go_wp2_with fail
      go_ret
      exact ⟨_, rfl, by rw [HE.out]; exact Held.nil _ _, HB0.out⟩
    · obtain ⟨S, rfl⟩ : ∃ S : Nat, slot = S := ⟨slot.toNat, by omega⟩
      have hS : S ≤ 1073741824 := by omega
      have HE := Lib.hid (show comm (S : Int) nlen C = (ranks S nlen).take C by rw [comm, if_pos (by omega)]; rfl)
      go_enter Tryd.func15, Tryd.ntmps15
      go_wp2_with fail
      generalize w.alloc (.cells #[.slice nao nlen ncap, .int .i64 n1, .int .i64 C, .int .i64 n3, .int .i64 n4, .int .i64 n5, .int .i64 n6, .int .i64 n7, .int .i64 n8, .int .i64 n9, .int .i64 n10, .int .i64 n11] 24) = w1 at HB0 HK0 ⊢
      refine (draw_any w1 (hT.below HB0.out hT.size) S nlen hS hl2).mono ?_
      rintro e w2 ⟨rfl, hk2, hb2⟩
      have HK2 := Lib.hid (HK0.out.below hb2 HK0.out.lt)
      have HB2 := Lib.hid (HB0.out.trans (hb2.mono HB0.out.size))
      have HG := Lib.hid HB0.out.size
      have HGL := Lib.hid (show w.heap.size < w1.heap.size from HK0.out.lt)
      generalize w1.heap.size = g at hk2 HG HGL ⊢
      have HL2 := Lib.hid hk2
      clear hk2 hb2 HK0 HB0
      go_wp2_with fail
      refine (sort_any w2 g nlen nlen S HL2.out hl2).mono ?_
      rintro e w3 ⟨rfl, hl3, hb3⟩
      have c2 := (HK2.out.below hb3 HGL.out).cell 2
      simp only [List.getElem?_cons_zero, List.getElem?_cons_succ] at c2
      have HB3 := Lib.hid (HB2.out.trans (hb3.mono HG.out))
      have HL3 := Lib.hid ((hl3.take (C * 33)))
      rw [← lc_take] at HL3
      have HLen := Lib.hid (show ((sortedLots S nlen).take C).length = C by rw [List.length_take, sortedLots_length]; omega)
      have HM := Lib.hid (show ((sortedLots S nlen).take C).map (·.n) = (ranks S nlen).take C by rw [ranks, List.map_take])
      clear hl3 hb3 HK2 HB2 HL2
      go_wp2_with fail
      have hmin : (min (C : Int) (nlen : Int)).toNat = C := by omega
      rw [hmin]
      clear hmin c2
      refine (names_any w3 _ C nlen g 0 _ HLen.out (by omega) HL3.out).mono ?_
      rintro e w4 ⟨v, rfl, hh4, hb4⟩
      rw [HM.out, ← HE.out] at hh4
      have HH4 := Lib.hid (hh4.mono HB3.out.size)
      have HB4 := Lib.hid (HB3.out.trans (hb4.mono HB3.out.size))
      clear hh4 hb4
      go_wp2_with fail
      go_ret
      exact ⟨_, rfl, HH4.out, HB4.out⟩
end Go.Proofs.YtginfmbcljlneaaDoor
