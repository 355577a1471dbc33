/-
  What board.Place and board.Proposer answer, of a configuration that can be.
-/
import Derived.Test.YtginfmbcljlneaaDoorMembers
import Derived.Test.YtginfmbcljlneaaDoorVals0
namespace Go.Proofs.YtginfmbcljlneaaDoor
open Go.RowKit
set_option maxRecDepth 10000

/-- Where a number stands, from i on; -1: nowhere. -/
def placeFrom (who : Int) : Nat → List Nat → Int
  | _, [] => -1
  | i, x :: r => if (x : Int) = who then i else placeFrom who (i + 1) r
/-- The first one; -1: there is none. -/
def firstOf : List Nat → Int
  | [] => -1
  | x :: _ => x

set_option maxHeartbeats 4000000 in
theorem place_any (w : World) (hT : Tabs w) (nao : Option Addr) (nlen ncap : Nat) (n1 n2 n3 n4 n5 n6 n7 n8 n9 n10 n11 : Int) (slot who : Int) (C : Nat) (hC : n2 = C) (hl1 : 1 ≤ nlen) (hl2 : nlen ≤ 1000) (hc1 : 1 ≤ C) (hc2 : C ≤ nlen) :
    Calls Tryd.prog 16 #[.agg #[.slice nao nlen ncap, .int .i64 n1, .int .i64 n2, .int .i64 n3, .int .i64 n4, .int .i64 n5, .int .i64 n6, .int .i64 n7, .int .i64 n8, .int .i64 n9, .int .i64 n10, .int .i64 n11], .int .i64 slot, .int .i64 who] w fun e w' => e = .returned (.int .i64 (placeFrom who 0 (comm slot nlen C))) ∧ Below w.heap.size w w' := by
  subst hC
  have HB0 := Lib.hid ((Below.refl w.heap.size w).alloc (Nat.le_refl _) (.cells #[.slice nao nlen ncap, .int .i64 n1, .int .i64 C, .int .i64 n3, .int .i64 n4, .int .i64 n5, .int .i64 n6, .int .i64 n7, .int .i64 n8, .int .i64 n9, .int .i64 n10, .int .i64 n11] 24))
  go_enter Tryd.func16, Tryd.ntmps16
  go_wp2_with fail
  generalize w.alloc (.cells #[.slice nao nlen ncap, .int .i64 n1, .int .i64 C, .int .i64 n3, .int .i64 n4, .int .i64 n5, .int .i64 n6, .int .i64 n7, .int .i64 n8, .int .i64 n9, .int .i64 n10, .int .i64 n11] 24) = w1 at HB0 ⊢
  refine (members_any w1 (hT.below HB0.out hT.size) nao nlen ncap n1 C n3 n4 n5 n6 n7 n8 n9 n10 n11 slot C rfl hl1 hl2 hc1 hc2).mono ?_
  rintro e w2 ⟨v, rfl, hh2, hb2⟩
  obtain ⟨ao, cap, b, off, rfl, hl⟩ := hh2.lies
  have HB2 := Lib.hid (HB0.out.trans (hb2.mono HB0.out.size))
  have hle := comm_le slot nlen C
  obtain ⟨L, hLL⟩ : ∃ L, L = comm slot nlen C := ⟨_, rfl⟩
  rw [iv_length, ← hLL]
  rw [← hLL] at hl hle
  obtain ⟨m, hm⟩ : ∃ m, m = L.length := ⟨_, rfl⟩
  rw [← hm] at hle ⊢
  have HM := Lib.hid hm
  have HLL := Lib.hid hLL
  have HL := Lib.hid hl
  clear hh2 hb2 hl hLL hm HB0
  go_wp2_with fail
  go_loopw [13] (fun i wr => ∃ (j : Nat), j ≤ m ∧ i = .int .i64 j ∧ Hid (placeFrom who j (L.drop j) = placeFrom who 0 L) ∧ wr = w2) (fun i _ => m - (intOf i).toNat)
  case atStart => exact ⟨0, Nat.zero_le _, rfl, Lib.hid rfl, rfl⟩
  case round =>
    obtain ⟨j, hj, rfl, HP, hw⟩ := hrel
    subst hw
    by_cases hlt : j < m
    · obtain ⟨x, hx⟩ : ∃ x, L[j]? = some x := ⟨_, List.getElem?_eq_getElem (by rw [← HM.out]; exact hlt)⟩
      obtain ⟨ha, c0⟩ := HL.out.int (Below.refl _ _) hx
      subst ha
      have HD := Lib.hid (drop_at hx)
      clear hx
      by_cases hxw : (x : Int) = who
      · have HR := Lib.hid (show placeFrom who 0 L = j by rw [← HP.out, HD.out, placeFrom, if_pos hxw])
        subst hxw
        go_wp2_with fail
        go_ret
        rw [← HLL.out, HR.out]
        exact ⟨rfl, HB2.out⟩
      · have HR := Lib.hid (show placeFrom who (j + 1) (L.drop (j + 1)) = placeFrom who 0 L by rw [← HP.out, HD.out, placeFrom, if_neg hxw])
        go_wp2_with fail
        go_roundw
        case rel => exact ⟨j + 1, by omega, by go_num, HR, trivial⟩
        case measure => simp [intOf]; omega
    · have HR := Lib.hid (show placeFrom who 0 L = -1 by rw [← HP.out, show j = L.length by rw [← HM.out]; omega, List.drop_length]; rfl)
      go_wp2_with fail
      go_ret
      rw [← HLL.out, HR.out]
      exact ⟨rfl, HB2.out⟩

set_option maxHeartbeats 4000000 in
theorem proposer_any (w : World) (hT : Tabs w) (nao : Option Addr) (nlen ncap : Nat) (n1 n2 n3 n4 n5 n6 n7 n8 n9 n10 n11 : Int) (slot : Int) (C : Nat) (hC : n2 = C) (hl1 : 1 ≤ nlen) (hl2 : nlen ≤ 1000) (hc1 : 1 ≤ C) (hc2 : C ≤ nlen) :
    Calls Tryd.prog 18 #[.agg #[.slice nao nlen ncap, .int .i64 n1, .int .i64 n2, .int .i64 n3, .int .i64 n4, .int .i64 n5, .int .i64 n6, .int .i64 n7, .int .i64 n8, .int .i64 n9, .int .i64 n10, .int .i64 n11], .int .i64 slot] w fun e w' => e = .returned (.int .i64 (firstOf (comm slot nlen C))) ∧ Below w.heap.size w w' := by
  subst hC
  have HB0 := Lib.hid ((Below.refl w.heap.size w).alloc (Nat.le_refl _) (.cells #[.slice nao nlen ncap, .int .i64 n1, .int .i64 C, .int .i64 n3, .int .i64 n4, .int .i64 n5, .int .i64 n6, .int .i64 n7, .int .i64 n8, .int .i64 n9, .int .i64 n10, .int .i64 n11] 24))
  go_enter Tryd.func18, Tryd.ntmps18
  go_wp2_with fail
  generalize w.alloc (.cells #[.slice nao nlen ncap, .int .i64 n1, .int .i64 C, .int .i64 n3, .int .i64 n4, .int .i64 n5, .int .i64 n6, .int .i64 n7, .int .i64 n8, .int .i64 n9, .int .i64 n10, .int .i64 n11] 24) = w1 at HB0 ⊢
  refine (members_any w1 (hT.below HB0.out hT.size) nao nlen ncap n1 C n3 n4 n5 n6 n7 n8 n9 n10 n11 slot C rfl hl1 hl2 hc1 hc2).mono ?_
  rintro e w2 ⟨v, rfl, hh2, hb2⟩
  obtain ⟨ao, cap, b, off, rfl, hl⟩ := hh2.lies
  have HB2 := Lib.hid (HB0.out.trans (hb2.mono HB0.out.size))
  have hle := comm_le slot nlen C
  obtain ⟨L, hLL⟩ : ∃ L, L = comm slot nlen C := ⟨_, rfl⟩
  rw [iv_length, ← hLL]
  rw [← hLL] at hl hle
  have HLL := Lib.hid hLL
  clear hh2 hb2 hLL HB0
  cases L with
  | nil =>
    go_wp2_with fail
    go_ret
    rw [← HLL.out]
    exact ⟨rfl, HB2.out⟩
  | cons x r =>
    obtain ⟨ha, c0⟩ := hl.int (Below.refl _ _) (j := 0) (x := x) rfl
    rw [Nat.add_zero] at c0
    subst ha
    clear hl
    rw [List.length_cons]
    obtain ⟨m, hm⟩ : ∃ m, m = r.length := ⟨_, rfl⟩
    rw [← hm]
    rw [List.length_cons, ← hm] at hle
    clear hm
    go_wp2_with fail
    go_ret
    rw [← HLL.out]
    exact ⟨rfl, HB2.out⟩
end Go.Proofs.YtginfmbcljlneaaDoor
