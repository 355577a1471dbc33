/-
  The statements' first question, alive: it answers yes, and touches nothing that was there.
-/
import Derived.Test.YtnggmfjcfjplfaaRead
namespace Go.Proofs.Ytnggmfjcfjplfaa
open Go.RowKit

theorem lit_258 : bv ([] ++ leB 258 (wid 3)) = bv [2, 1, 0] := by rw [show ([] ++ leB 258 (wid 3)) = [2, 1, 0] from by decide]

theorem al1 : leN (rdOut ⟨#[2, 1, 0, 97]⟩ (wd 3)).data.toList = 258 := by decide
theorem al2 : rdLeft ⟨#[2, 1, 0, 97]⟩ (wd 3) = ⟨#[97]⟩ := by decide
theorem al3 : rdShort ⟨#[2, 1, 0, 97]⟩ false (wd 3) = false := by decide
theorem al4 : rdOut ⟨#[97]⟩ 1 = ⟨#[97]⟩ := by decide
theorem al5 : rdLeft ⟨#[97]⟩ 1 = ByteArray.empty := by decide
theorem al6 : rdShort ⟨#[97]⟩ false 1 = false := by decide

set_option maxHeartbeats 400000 in
theorem alive_any (w : World) : Calls Try.prog 8 #[] w fun e w' => e = .returned (.bool true) ∧ Below w.heap.size w w' := by
  have hr0 := rd_new w ⟨#[2, 1, 0, 97]⟩
  obtain ⟨w0, hw0⟩ : ∃ w0, w0 = w.alloc (.cells #[.string ⟨#[2, 1, 0, 97]⟩, .bool false] 46) := ⟨_, rfl⟩
  have hb0 : Below w.heap.size w w0 := by rw [hw0]; exact (Below.refl _ _).alloc (Nat.le_refl _) _
  rw [← hw0] at hr0
  have H0 := Lib.hid hw0
  clear hw0
  go_enter Try.func8, Try.ntmps8
  go_wp2_with fail
  refine (from_any w _).mono ?_
  rintro e w1 ⟨rfl, rfl⟩
  rw [← H0.out]
  go_wp2_with fail
  refine (put_any w0 w0.heap.size (.slice none 0 0) [] 258 3 (by decide) (Held.nil _ _) (Nat.le_refl _) (by simp)).mono ?_
  rintro e w1 ⟨v1, rfl, hh, hg⟩
  rw [lit_258] at hh
  have hs1 := hh.string (P := Try.prog) 24 9 5 Try.underlying24 Try.underlying5 Try.underlying9
  have hr1 := hr0.grown hg.grown (by simp [Value.ownBlock])
  have hb1 : Below w0.heap.size w0 w1 := (Below.refl _ _).grown hg.grown (Nat.le_refl _) (by simp [Value.ownBlock])
  go_wp2_with fail
  refine (uint_any w1 w.heap.size ⟨#[2, 1, 0, 97]⟩ false 3 hr1 (by decide)).mono ?_
  rintro e w2 ⟨rfl, hr2, hg2⟩
  rw [al1]
  rw [al2, al3] at hr2
  go_wp2_with fail
  refine (bytes_any w2 w.heap.size ⟨#[97]⟩ false 1 hr2 (by decide)).mono ?_
  rintro e w3 ⟨rfl, hr3, hg3⟩
  rw [al4]
  rw [al5, al6] at hr3
  go_wp2_with fail
  refine (end_any w3 w.heap.size ByteArray.empty false hr3).mono ?_
  rintro e w4 ⟨rfl, rfl⟩
  go_wp2
  go_ret
  have s1 := hb0.size
  have s2 := hb1.size
  have s3 := hg2.size
  exact ⟨rfl, ((hb0.trans (hb1.mono hb0.size)).trans (below_of_grown hg2 (by omega) (Nat.le_refl _))).trans (below_of_grown hg3 (by omega) (Nat.le_refl _))⟩
end Go.Proofs.Ytnggmfjcfjplfaa
