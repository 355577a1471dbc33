/-
  What alive answers: true.
-/
import Derived.Test.YtginfmbcljlneaaDoorRefBoard
import Derived.Test.YtginfmbcljlneaaDoorRefGood
import Derived.Test.YtginfmbcljlneaaDoorFree
import Derived.Test.YtginfmbcljlneaaDoorFreeLaws
namespace Go.Proofs.YtginfmbcljlneaaDoor
open Go.RowKit
set_option maxRecDepth 100000

/-- Twelve cells that are known whole. -/
theorem Blk.twelve {w : World} {g : Nat} {t : TypeId} {a0 a1 a2 a3 a4 a5 a6 a7 a8 a9 a10 a11 : Value} (h : Blk w g t [a0, a1, a2, a3, a4, a5, a6, a7, a8, a9, a10, a11]) :
    w.cell? ⟨g, 0, none⟩ = some a0 ∧ w.cell? ⟨g, 1, none⟩ = some a1 ∧ w.cell? ⟨g, 2, none⟩ = some a2 ∧ w.cell? ⟨g, 3, none⟩ = some a3 ∧ w.cell? ⟨g, 4, none⟩ = some a4 ∧ w.cell? ⟨g, 5, none⟩ = some a5 ∧ w.cell? ⟨g, 6, none⟩ = some a6 ∧ w.cell? ⟨g, 7, none⟩ = some a7 ∧ w.cell? ⟨g, 8, none⟩ = some a8 ∧ w.cell? ⟨g, 9, none⟩ = some a9 ∧ w.cell? ⟨g, 10, none⟩ = some a10 ∧ w.cell? ⟨g, 11, none⟩ = some a11 :=
  ⟨h.cell 0, h.cell 1, h.cell 2, h.cell 3, h.cell 4, h.cell 5, h.cell 6, h.cell 7, h.cell 8, h.cell 9, h.cell 10, h.cell 11⟩

/-- Of two validators and a committee of two. -/
theorem comm_two : ∃ x y : Nat, comm 7 2 2 = [x, y] ∧ ((x = 0 ∧ y = 1) ∨ (x = 1 ∧ y = 0)) := by
  have hl := comm_length 7 2 2 (by omega) (by omega)
  have hn := comm_nodup 7 2 2
  have hm := comm_mem 7 2 2
  match h : comm 7 2 2, hl with
  | [x, y], _ =>
    rw [h] at hn hm
    have hx := hm x (by simp)
    have hy := hm y (by simp)
    have hxy : x ≠ y := by simpa using hn
    exact ⟨x, y, rfl, by omega⟩

set_option maxHeartbeats 8000000 in
theorem alive_any (w : World) (hT : Tabs w) : Calls Tryd.prog 8 #[] w fun e w' => e = .returned (.bool true) ∧ Below w.heap.size w w' := by
  have HT := Lib.hid hT
  clear hT
  go_enter Tryd.func8, Tryd.ntmps8
  go_wp2_with fail
  have hB1 := (Below.refl w.heap.size w).alloc (Nat.le_refl _) (.cells #[.int .i64 5, .string ⟨#[107]⟩, .int .i64 5, .string ⟨#[108]⟩] 41)
  have hz : (w.alloc (.cells #[.int .i64 5, .string ⟨#[107]⟩, .int .i64 5, .string ⟨#[108]⟩] 41)).heap.size = w.heap.size + 1 := by simp
  rw [← hz]
  generalize w.alloc (.cells #[.int .i64 5, .string ⟨#[107]⟩, .int .i64 5, .string ⟨#[108]⟩] 41) = w1 at hB1 ⊢
  have hB2 := hB1.alloc hB1.size (.cells #[.slice (some ⟨w.heap.size, 0, none⟩) 2 2, .int .i64 4, .int .i64 2, .int .i64 1, .int .i64 1, .int .i64 1, .int .i64 1, .int .i64 1, .int .i64 1, .int .i64 1, .int .i64 1, .int .i64 1] 24)
  have hk2 := Blk.new w1 24 #[.slice (some ⟨w.heap.size, 0, none⟩) 2 2, .int .i64 4, .int .i64 2, .int .i64 1, .int .i64 1, .int .i64 1, .int .i64 1, .int .i64 1, .int .i64 1, .int .i64 1, .int .i64 1, .int .i64 1]
  generalize w1.alloc (.cells #[.slice (some ⟨w.heap.size, 0, none⟩) 2 2, .int .i64 4, .int .i64 2, .int .i64 1, .int .i64 1, .int .i64 1, .int .i64 1, .int .i64 1, .int .i64 1, .int .i64 1, .int .i64 1, .int .i64 1] 24) = w2 at hB2 hk2 ⊢
  have HB2 := Lib.hid hB2
  have HK2 := Lib.hid hk2
  clear hB1 hB2 hk2 hz
  generalize w.heap.size = G at HK2 ⊢
  generalize w1.heap.size = A at HK2 ⊢
  refine (members_any w2 (HT.out.below HB2.out HT.out.size) _ 2 2 4 2 1 1 1 1 1 1 1 1 1 7 2 rfl (by omega) (by omega) (by omega) (by omega)).mono ?_
  rintro e w3 ⟨v, rfl, hh3, hb3⟩
  have HK := Lib.hid (HK2.out.below hb3 HK2.out.lt)
  have HB := Lib.hid (HB2.out.trans (hb3.mono HB2.out.size))
  obtain ⟨x, y, hc, hxy⟩ := comm_two
  rw [hc] at hh3
  have HC := Lib.hid hc
  have HW := Lib.hid (show IntKind.i64.wrap ((x : Int) + (y : Int)) = 1 by rcases hxy with ⟨rfl, rfl⟩ | ⟨rfl, rfl⟩ <;> rfl)
  have HF := Lib.hid (show firstOf [x, y] = (x : Int) from rfl)
  have HP := Lib.hid (show placeFrom (y : Int) 0 [x, y] = 1 by rcases hxy with ⟨rfl, rfl⟩ | ⟨rfl, rfl⟩ <;> rfl)
  have HN := Lib.hid (show placeFrom 2 0 [x, y] = -1 by rcases hxy with ⟨rfl, rfl⟩ | ⟨rfl, rfl⟩ <;> rfl)
  obtain ⟨ao, cap, B, O, rfl, hl⟩ := hh3.lies
  have ha := (hl.int (Below.refl _ _) (j := 0) (x := x) rfl).1
  subst ha
  have HL := Lib.hid hl
  rw [show (iv [x, y]).length = 2 from rfl]
  clear hh3 hb3 HK2 HB2 hl hc hxy
  go_wp2_with fail
  refine wp_region_free (P := Tryd.prog) 34 (fun w' => Below w3.heap.size w3 w') (fun oq v w' => match oq with
      | 0 => v = .slice (some ⟨B, O, none⟩) 2 cap
      | 1 => v = .int .i64 2
      | 2 => v = .bool true
      | 3 => v = .bool true
      | 4 => v = .slice (some ⟨B, O, none⟩) 2 cap
      | 5 => v = .pointer (some ⟨B, O, none⟩)
      | 6 => v = .int .i64 (x : Int)
      | 7 => v = .slice (some ⟨B, O, none⟩) 2 cap
      | 8 => v = .pointer (some ⟨B, O + 1, none⟩)
      | 9 => v = .int .i64 (y : Int)
      | 10 => v = .int .i64 1
      | 11 => v = .bool true
      | 12 => v = .bool true
      | 13 => v = .bool true
      | 14 => v = .agg #[.slice (some ⟨G, 0, none⟩) 2 2, .int .i64 4, .int .i64 2, .int .i64 1, .int .i64 1, .int .i64 1, .int .i64 1, .int .i64 1, .int .i64 1, .int .i64 1, .int .i64 1, .int .i64 1]
      | 15 => v = .int .i64 (x : Int)
      | 16 => v = .slice (some ⟨B, O, none⟩) 2 cap
      | 17 => v = .pointer (some ⟨B, O, none⟩)
      | 18 => v = .int .i64 (x : Int)
      | 19 => v = .bool true
      | 20 => v = .bool true
      | 21 => v = .bool true
      | 22 => v = .agg #[.slice (some ⟨G, 0, none⟩) 2 2, .int .i64 4, .int .i64 2, .int .i64 1, .int .i64 1, .int .i64 1, .int .i64 1, .int .i64 1, .int .i64 1, .int .i64 1, .int .i64 1, .int .i64 1]
      | 23 => v = .slice (some ⟨B, O, none⟩) 2 cap
      | 24 => v = .pointer (some ⟨B, O + 1, none⟩)
      | 25 => v = .int .i64 (y : Int)
      | 26 => v = .int .i64 1
      | 27 => v = .bool true
      | 28 => v = .bool true
      | 29 => v = .bool true
      | 30 => v = .agg #[.slice (some ⟨G, 0, none⟩) 2 2, .int .i64 4, .int .i64 2, .int .i64 1, .int .i64 1, .int .i64 1, .int .i64 1, .int .i64 1, .int .i64 1, .int .i64 1, .int .i64 1, .int .i64 1]
      | 31 => v = .int .i64 (-1)
      | 32 => v = .bool true
      | 33 => v = .bool true
      | _ => True) (by kernel_rfl) (by kernel_rfl) (Below.refl _ _).drew ?gb ?vb ?steps ?fin
  case gb => exact fun a b h1 h2 => h1.trans (h2.mono h1.size)
  case vb =>
    intro oq v a b h hb
    match oq with
    | 0 => exact h
    | 1 => exact h
    | 2 => exact h
    | 3 => exact h
    | 4 => exact h
    | 5 => exact h
    | 6 => exact h
    | 7 => exact h
    | 8 => exact h
    | 9 => exact h
    | 10 => exact h
    | 11 => exact h
    | 12 => exact h
    | 13 => exact h
    | 14 => exact h
    | 15 => exact h
    | 16 => exact h
    | 17 => exact h
    | 18 => exact h
    | 19 => exact h
    | 20 => exact h
    | 21 => exact h
    | 22 => exact h
    | 23 => exact h
    | 24 => exact h
    | 25 => exact h
    | 26 => exact h
    | 27 => exact h
    | 28 => exact h
    | 29 => exact h
    | 30 => exact h
    | 31 => exact h
    | 32 => exact h
    | 33 => exact h
    | _ + 34 => trivial
  case steps =>
    intro vals
    simp only [List.take_succ_cons, List.take_zero, freeSteps, Act.put, List.setIfInBounds_toArray, List.set_cons_zero, List.set_cons_succ, Nat.reduceAdd]
    refine ⟨fun w8 hG hW => ?_, fun w8 hG hW => ?_, fun w8 hG hW => ?_, fun w8 hG hW => ?_, fun w8 hG hW => ?_, fun w8 hG hW => ?_, fun w8 hG hW => ?_, fun w8 hG hW => ?_, fun w8 hG hW => ?_, fun w8 hG hW => ?_, fun w8 hG hW => ?_, fun w8 hG hW => ?_, fun w8 hG hW => ?_, fun w8 hG hW => ?_, fun w8 hG hW => ?_, fun w8 hG hW => ?_, fun w8 hG hW => ?_, fun w8 hG hW => ?_, fun w8 hG hW => ?_, fun w8 hG hW => ?_, fun w8 hG hW => ?_, fun w8 hG hW => ?_, fun w8 hG hW => ?_, fun w8 hG hW => ?_, fun w8 hG hW => ?_, fun w8 hG hW => ?_, fun w8 hG hW => ?_, fun w8 hG hW => ?_, fun w8 hG hW => ?_, fun w8 hG hW => ?_, fun w8 hG hW => ?_, fun w8 hG hW => ?_, fun w8 hG hW => ?_, fun w8 hG hW => ?_, trivial⟩
    · clear hW
      refine stepAt_value rfl rfl rfl (.slice (some ⟨B, O, none⟩) 2 cap) w8 ?_ ⟨rfl, Below.refl _ _⟩
      go_simp
    · have q0 := hW 0 (by decide)
      simp only at q0
      rw [q0]
      clear hW
      refine stepAt_value rfl rfl rfl (.int .i64 2) w8 ?_ ⟨rfl, Below.refl _ _⟩
      go_simp
    · have q1 := hW 1 (by decide)
      simp only at q1
      rw [q1]
      clear hW
      refine stepAt_value rfl rfl rfl (.bool true) w8 ?_ ⟨rfl, Below.refl _ _⟩
      go_simp
    · have q2 := hW 2 (by decide)
      simp only at q2
      rw [q2]
      clear hW
      refine stepAt_value rfl rfl rfl (.bool true) w8 ?_ ⟨rfl, Below.refl _ _⟩
      go_simp
    · have q3 := hW 3 (by decide)
      simp only at q3
      rw [q3]
      clear hW
      refine stepAt_value rfl rfl rfl (.slice (some ⟨B, O, none⟩) 2 cap) w8 ?_ ⟨rfl, Below.refl _ _⟩
      go_simp
    · have q3 := hW 3 (by decide)
      simp only at q3
      have q4 := hW 4 (by decide)
      simp only at q4
      rw [q3, q4]
      clear hW
      refine stepAt_value rfl rfl rfl (.pointer (some ⟨B, O, none⟩)) w8 ?_ ⟨rfl, Below.refl _ _⟩
      go_simp
    · have q3 := hW 3 (by decide)
      simp only at q3
      have q5 := hW 5 (by decide)
      simp only at q5
      rw [q3, q5]
      clear hW
      refine stepAt_value rfl rfl rfl (.int .i64 (x : Int)) w8 ?_ ⟨rfl, Below.refl _ _⟩
      have c0 := (HL.out.int hG (j := 0) (x := x) rfl).2
      rw [Nat.add_zero] at c0
      go_simp
    · have q3 := hW 3 (by decide)
      simp only at q3
      rw [q3]
      clear hW
      refine stepAt_value rfl rfl rfl (.slice (some ⟨B, O, none⟩) 2 cap) w8 ?_ ⟨rfl, Below.refl _ _⟩
      go_simp
    · have q3 := hW 3 (by decide)
      simp only at q3
      have q7 := hW 7 (by decide)
      simp only at q7
      rw [q3, q7]
      clear hW
      refine stepAt_value rfl rfl rfl (.pointer (some ⟨B, O + 1, none⟩)) w8 ?_ ⟨rfl, Below.refl _ _⟩
      go_simp
    · have q3 := hW 3 (by decide)
      simp only at q3
      have q8 := hW 8 (by decide)
      simp only at q8
      rw [q3, q8]
      clear hW
      refine stepAt_value rfl rfl rfl (.int .i64 (y : Int)) w8 ?_ ⟨rfl, Below.refl _ _⟩
      have c1 := (HL.out.int hG (j := 1) (x := y) rfl).2
      go_simp
    · have q3 := hW 3 (by decide)
      simp only at q3
      have q6 := hW 6 (by decide)
      simp only at q6
      have q9 := hW 9 (by decide)
      simp only at q9
      rw [q3, q6, q9]
      clear hW
      refine stepAt_value rfl rfl rfl (.int .i64 1) w8 ?_ ⟨rfl, Below.refl _ _⟩
      have hw := HW.out
      go_simp
    · have q3 := hW 3 (by decide)
      simp only at q3
      have q10 := hW 10 (by decide)
      simp only at q10
      rw [q3, q10]
      clear hW
      refine stepAt_value rfl rfl rfl (.bool true) w8 ?_ ⟨rfl, Below.refl _ _⟩
      go_simp
    · have q3 := hW 3 (by decide)
      simp only at q3
      have q11 := hW 11 (by decide)
      simp only at q11
      rw [q3, q11]
      clear hW
      refine stepAt_value rfl rfl rfl (.bool true) w8 ?_ ⟨rfl, Below.refl _ _⟩
      go_simp
    · have q12 := hW 12 (by decide)
      simp only at q12
      rw [q12]
      clear hW
      refine stepAt_value rfl rfl rfl (.bool true) w8 ?_ ⟨rfl, Below.refl _ _⟩
      go_simp
    · have q13 := hW 13 (by decide)
      simp only at q13
      rw [q13]
      clear hW
      refine stepAt_value rfl rfl rfl (.agg #[.slice (some ⟨G, 0, none⟩) 2 2, .int .i64 4, .int .i64 2, .int .i64 1, .int .i64 1, .int .i64 1, .int .i64 1, .int .i64 1, .int .i64 1, .int .i64 1, .int .i64 1, .int .i64 1]) w8 ?_ ⟨rfl, Below.refl _ _⟩
      obtain ⟨q0, q1, q2, q3, q4, q5, q6, q7, q8, q9, q10, q11⟩ := (HK.out.below hG HK.out.lt).twelve
      go_simp
    · have q13 := hW 13 (by decide)
      simp only at q13
      have q14 := hW 14 (by decide)
      simp only at q14
      rw [q13, q14]
      clear hW
      refine stepAt_call rfl rfl rfl 18 #[.agg #[.slice (some ⟨G, 0, none⟩) 2 2, .int .i64 4, .int .i64 2, .int .i64 1, .int .i64 1, .int .i64 1, .int .i64 1, .int .i64 1, .int .i64 1, .int .i64 1, .int .i64 1, .int .i64 1], .int .i64 7] (by go_simp) ((proposer_any w8 (HT.out.below (HB.out.trans (hG.mono HB.out.size)) HT.out.size) _ 2 2 4 2 1 1 1 1 1 1 1 1 1 7 2 rfl (by omega) (by omega) (by omega) (by omega)).mono fun e w' ⟨h1, h2⟩ => ⟨_, h1, by rw [HC.out, HF.out], h2⟩)
    · have q13 := hW 13 (by decide)
      simp only at q13
      rw [q13]
      clear hW
      refine stepAt_value rfl rfl rfl (.slice (some ⟨B, O, none⟩) 2 cap) w8 ?_ ⟨rfl, Below.refl _ _⟩
      go_simp
    · have q13 := hW 13 (by decide)
      simp only at q13
      have q16 := hW 16 (by decide)
      simp only at q16
      rw [q13, q16]
      clear hW
      refine stepAt_value rfl rfl rfl (.pointer (some ⟨B, O, none⟩)) w8 ?_ ⟨rfl, Below.refl _ _⟩
      go_simp
    · have q13 := hW 13 (by decide)
      simp only at q13
      have q17 := hW 17 (by decide)
      simp only at q17
      rw [q13, q17]
      clear hW
      refine stepAt_value rfl rfl rfl (.int .i64 (x : Int)) w8 ?_ ⟨rfl, Below.refl _ _⟩
      have c0 := (HL.out.int hG (j := 0) (x := x) rfl).2
      rw [Nat.add_zero] at c0
      go_simp
    · have q13 := hW 13 (by decide)
      simp only at q13
      have q15 := hW 15 (by decide)
      simp only at q15
      have q18 := hW 18 (by decide)
      simp only at q18
      rw [q13, q15, q18]
      clear hW
      refine stepAt_value rfl rfl rfl (.bool true) w8 ?_ ⟨rfl, Below.refl _ _⟩
      go_simp
    · have q13 := hW 13 (by decide)
      simp only at q13
      have q19 := hW 19 (by decide)
      simp only at q19
      rw [q13, q19]
      clear hW
      refine stepAt_value rfl rfl rfl (.bool true) w8 ?_ ⟨rfl, Below.refl _ _⟩
      go_simp
    · have q20 := hW 20 (by decide)
      simp only at q20
      rw [q20]
      clear hW
      refine stepAt_value rfl rfl rfl (.bool true) w8 ?_ ⟨rfl, Below.refl _ _⟩
      go_simp
    · have q21 := hW 21 (by decide)
      simp only at q21
      rw [q21]
      clear hW
      refine stepAt_value rfl rfl rfl (.agg #[.slice (some ⟨G, 0, none⟩) 2 2, .int .i64 4, .int .i64 2, .int .i64 1, .int .i64 1, .int .i64 1, .int .i64 1, .int .i64 1, .int .i64 1, .int .i64 1, .int .i64 1, .int .i64 1]) w8 ?_ ⟨rfl, Below.refl _ _⟩
      obtain ⟨q0, q1, q2, q3, q4, q5, q6, q7, q8, q9, q10, q11⟩ := (HK.out.below hG HK.out.lt).twelve
      go_simp
    · have q21 := hW 21 (by decide)
      simp only at q21
      rw [q21]
      clear hW
      refine stepAt_value rfl rfl rfl (.slice (some ⟨B, O, none⟩) 2 cap) w8 ?_ ⟨rfl, Below.refl _ _⟩
      go_simp
    · have q21 := hW 21 (by decide)
      simp only at q21
      have q23 := hW 23 (by decide)
      simp only at q23
      rw [q21, q23]
      clear hW
      refine stepAt_value rfl rfl rfl (.pointer (some ⟨B, O + 1, none⟩)) w8 ?_ ⟨rfl, Below.refl _ _⟩
      go_simp
    · have q21 := hW 21 (by decide)
      simp only at q21
      have q24 := hW 24 (by decide)
      simp only at q24
      rw [q21, q24]
      clear hW
      refine stepAt_value rfl rfl rfl (.int .i64 (y : Int)) w8 ?_ ⟨rfl, Below.refl _ _⟩
      have c1 := (HL.out.int hG (j := 1) (x := y) rfl).2
      go_simp
    · have q21 := hW 21 (by decide)
      simp only at q21
      have q22 := hW 22 (by decide)
      simp only at q22
      have q25 := hW 25 (by decide)
      simp only at q25
      rw [q21, q22, q25]
      clear hW
      refine stepAt_call rfl rfl rfl 16 #[.agg #[.slice (some ⟨G, 0, none⟩) 2 2, .int .i64 4, .int .i64 2, .int .i64 1, .int .i64 1, .int .i64 1, .int .i64 1, .int .i64 1, .int .i64 1, .int .i64 1, .int .i64 1, .int .i64 1], .int .i64 7, .int .i64 (y : Int)] (by go_simp) ((place_any w8 (HT.out.below (HB.out.trans (hG.mono HB.out.size)) HT.out.size) _ 2 2 4 2 1 1 1 1 1 1 1 1 1 7 (y : Int) 2 rfl (by omega) (by omega) (by omega) (by omega)).mono fun e w' ⟨h1, h2⟩ => ⟨_, h1, by rw [HC.out, HP.out], h2⟩)
    · have q21 := hW 21 (by decide)
      simp only at q21
      have q26 := hW 26 (by decide)
      simp only at q26
      rw [q21, q26]
      clear hW
      refine stepAt_value rfl rfl rfl (.bool true) w8 ?_ ⟨rfl, Below.refl _ _⟩
      go_simp
    · have q21 := hW 21 (by decide)
      simp only at q21
      have q27 := hW 27 (by decide)
      simp only at q27
      rw [q21, q27]
      clear hW
      refine stepAt_value rfl rfl rfl (.bool true) w8 ?_ ⟨rfl, Below.refl _ _⟩
      go_simp
    · have q28 := hW 28 (by decide)
      simp only at q28
      rw [q28]
      clear hW
      refine stepAt_value rfl rfl rfl (.bool true) w8 ?_ ⟨rfl, Below.refl _ _⟩
      go_simp
    · have q29 := hW 29 (by decide)
      simp only at q29
      rw [q29]
      clear hW
      refine stepAt_value rfl rfl rfl (.agg #[.slice (some ⟨G, 0, none⟩) 2 2, .int .i64 4, .int .i64 2, .int .i64 1, .int .i64 1, .int .i64 1, .int .i64 1, .int .i64 1, .int .i64 1, .int .i64 1, .int .i64 1, .int .i64 1]) w8 ?_ ⟨rfl, Below.refl _ _⟩
      obtain ⟨q0, q1, q2, q3, q4, q5, q6, q7, q8, q9, q10, q11⟩ := (HK.out.below hG HK.out.lt).twelve
      go_simp
    · have q29 := hW 29 (by decide)
      simp only at q29
      have q30 := hW 30 (by decide)
      simp only at q30
      rw [q29, q30]
      clear hW
      refine stepAt_call rfl rfl rfl 16 #[.agg #[.slice (some ⟨G, 0, none⟩) 2 2, .int .i64 4, .int .i64 2, .int .i64 1, .int .i64 1, .int .i64 1, .int .i64 1, .int .i64 1, .int .i64 1, .int .i64 1, .int .i64 1, .int .i64 1], .int .i64 7, .int .i64 2] (by go_simp) ((place_any w8 (HT.out.below (HB.out.trans (hG.mono HB.out.size)) HT.out.size) _ 2 2 4 2 1 1 1 1 1 1 1 1 1 7 2 2 rfl (by omega) (by omega) (by omega) (by omega)).mono fun e w' ⟨h1, h2⟩ => ⟨_, h1, by rw [HC.out, HN.out], h2⟩)
    · have q29 := hW 29 (by decide)
      simp only at q29
      have q31 := hW 31 (by decide)
      simp only at q31
      rw [q29, q31]
      clear hW
      refine stepAt_value rfl rfl rfl (.bool true) w8 ?_ ⟨rfl, Below.refl _ _⟩
      go_simp
    · have q29 := hW 29 (by decide)
      simp only at q29
      have q32 := hW 32 (by decide)
      simp only at q32
      rw [q29, q32]
      clear hW
      refine stepAt_value rfl rfl rfl (.bool true) w8 ?_ ⟨rfl, Below.refl _ _⟩
      go_simp
  case fin =>
    intro vals w8 hG hV
    have q33 := hV 33 (by omega)
    simp only at q33
    simp only [List.take_succ_cons, List.take_zero, List.drop_succ_cons, List.drop_zero, putAll, Act.put, List.setIfInBounds_toArray, List.set_cons_zero, List.set_cons_succ, Nat.reduceAdd]
    rw [q33]
    have HBF := Lib.hid (HB.out.trans (hG.mono HB.out.size))
    clear hV q33
    go_wp2_with fail
    go_ret
    exact ⟨rfl, HBF.out⟩
end Go.Proofs.YtginfmbcljlneaaDoor
