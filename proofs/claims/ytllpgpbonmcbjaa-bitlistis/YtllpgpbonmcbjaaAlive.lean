/-
  The statements' first question, alive: it answers yes, and touches nothing that was there.
-/
import Derived.Test.YtllpgpbonmcbjaaGet
namespace Go.Proofs.Ytllpgpbonmcbjaa
open Go.RowKit

theorem put_nil (w : World) (u : Value) (l : List Bool) (hu : Row w w.heap.size u l) (hl : l.length ≤ 1000) :
    Calls Try.prog 9 #[.slice none 0 0, u] w fun e w' => ∃ v', e = .returned v' ∧ Held w' w.heap.size v' (bv (enc l)) ∧ Below w.heap.size w w' :=
  (put_any w w.heap.size (.slice none 0 0) [] u l (Held.nil _ _) (Nat.le_refl _) hu (by simp) hl).mono fun _ _ ⟨v', h1, h2, h3⟩ =>
    ⟨v', h1, h2, (Below.refl _ _).grown h3.grown (Nat.le_refl _) (by simp [Value.ownBlock])⟩

theorem al_len : IsLen (⟨#[13]⟩ : ByteArray).data.toList 3 := ⟨by decide, by decide, by decide⟩
theorem al_dec : dec (leN (⟨#[13]⟩ : ByteArray).data.toList) 3 = [true, false, true] := by decide
theorem al_enc : enc [true, false, true] = [13] := by decide

theorem al_row (w : World) (e : TypeId) : Row (w.alloc (.cells #[.bool true, .bool false, .bool true] e)) (w.heap.size + 1) (.slice (some ⟨w.heap.size, 0, none⟩) 3 3) [true, false, true] :=
  ⟨_, 3, w.heap.size, 0, rfl, Nat.le_refl _, by unfold maxLen; omega, fun _ => rfl, fun _ => by omega, fun j x hj => by
    match j, hj with
    | 0, hj => cases hj; simp [World.cell?_alloc_mark]
    | 1, hj => cases hj; simp [World.cell?_alloc_mark]
    | 2, hj => cases hj; simp [World.cell?_alloc_mark]⟩

set_option maxHeartbeats 400000 in
theorem alive_any (w : World) : Calls Try.prog 8 #[] w fun e w' => e = .returned (.bool true) ∧ Below w.heap.size w w' := by
  go_enter Try.func8, Try.ntmps8
  go_wp2_with fail
  refine (get_yes w ⟨#[13]⟩ 9 3 (by decide) al_len (by decide)).mono ?_
  rintro e w1 ⟨rfl, hm, hb⟩
  rw [al_dec] at hm
  obtain ⟨g, hg⟩ : ∃ g, g = w.heap.size := ⟨_, rfl⟩
  rw [← hg] at hm hb
  rw [← hg]
  have HG := Lib.hid hg
  clear hg
  have hlt := hm.lt
  have c0 := hm.cells 0 true rfl
  have c1 := hm.cells 1 false rfl
  obtain ⟨w2, hw2⟩ : ∃ w2, w2 = w1.alloc (.cells #[.bool true, .bool false, .bool true] 4) := ⟨_, rfl⟩
  have hrow := al_row w1 4
  have hb2 : Below w1.heap.size w1 w2 := by rw [hw2]; exact (Below.refl _ _).alloc (Nat.le_refl _) _
  have hsz : w2.heap.size = w1.heap.size + 1 := by rw [hw2]; simp
  rw [← hw2, ← hsz] at hrow
  have HW := Lib.hid hw2
  have HSZ := Lib.hid hsz
  clear hw2 hsz
  go_wp2_with fail
  rw [← HW.out]
  refine (put_nil w2 _ _ hrow (by simp)).mono ?_
  rintro e w3 ⟨v3, rfl, hh3, hb3⟩
  rw [al_enc] at hh3
  have hs3 := hh3.string (P := Try.prog) 24 9 5 Try.underlying24 Try.underlying5 Try.underlying9
  have z2 := HSZ.out
  have d0 := (hb3.cell (p := ⟨g, 0, none⟩) (show g < w2.heap.size by omega)).trans ((hb2.cell (p := ⟨g, 0, none⟩) hlt).trans c0)
  have d1 := (hb3.cell (p := ⟨g, 1, none⟩) (show g < w2.heap.size by omega)).trans ((hb2.cell (p := ⟨g, 1, none⟩) hlt).trans c1)
  clear c0 c1 z2
  go_wp2_with fail
  refine (size_any w3 8 (by omega)).mono ?_
  rintro e w4 ⟨rfl, rfl⟩
  go_wp2
  go_ret
  have z2 := HSZ.out
  exact ⟨rfl, by rw [← HG.out]; exact hb.trans ((hb2.mono (by omega)).trans (hb3.mono (by omega)))⟩

end Go.Proofs.Ytllpgpbonmcbjaa
