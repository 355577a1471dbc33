/-
  Validators as a row of cells: what they are, what all stakes together are.
-/
import Derived.Test.YtginfmbcljlneaaDoorWide
import Derived.Deep.QuietTactic
import Derived.BigQuiet
import Derived.Deep.DeepCutAuto
import Derived.Laws.Bits64
import Derived.Laws.BitsLemmas
namespace Go.Proofs.YtginfmbcljlneaaDoor
open Go.RowKit

/-- Validators as cells. -/
def vc (vs : List (Int × ByteArray)) : List Value := vs.flatMap fun v => [Value.int .i64 v.1, Value.string v.2]

theorem vc_length (vs : List (Int × ByteArray)) : (vc vs).length = vs.length * 2 := by
  induction vs with
  | nil => rfl
  | cons v r ih => simp only [vc, List.flatMap_cons, List.length_append, List.length_cons, List.length_nil] at ih ⊢; omega
theorem vc_append (a b : List (Int × ByteArray)) : vc (a ++ b) = vc a ++ vc b := by simp [vc]
theorem vc_at (vs : List (Int × ByteArray)) : ∀ (j : Nat) (v : (Int × ByteArray)), vs[j]? = some v → (vc vs)[j * 2]? = some (.int .i64 v.1) ∧ (vc vs)[j * 2 + 1]? = some (.string v.2) := by
  induction vs with
  | nil => intro j v h; simp at h
  | cons u r ih =>
    intro j v h
    have e : vc (u :: r) = Value.int .i64 u.1 :: Value.string u.2 :: vc r := rfl
    cases j with
    | zero => simp at h; subst h; rw [e]; exact ⟨rfl, rfl⟩
    | succ j =>
      simp at h
      have := ih j v h
      rw [e, show (j + 1) * 2 = j * 2 + 1 + 1 by omega, show j * 2 + 1 + 1 + 1 = (j * 2 + 1) + 1 + 1 by omega]
      simpa using this
theorem vc_one (vs : List (Int × ByteArray)) : ∀ u ∈ vc vs, u.oneCell' = true := by
  intro u hu
  rw [vc, List.mem_flatMap] at hu
  obtain ⟨v, _, h⟩ := hu
  simp at h
  rcases h with rfl | rfl <;> rfl

/-- Every stake is an int. -/
def Stakes (vs : List (Int × ByteArray)) : Prop := ∀ v ∈ vs, -9223372036854775808 ≤ v.1 ∧ v.1 ≤ 9223372036854775807

/-- A validator can be, but for how great its stake is. -/
def can (v : (Int × ByteArray)) : Bool := decide (0 ≤ v.1) && (decide (1 ≤ v.2.size) && decide (v.2.size ≤ 32))

/-- All stakes, on top of s. -/
def totFrom : Int → List (Int × ByteArray) → Option Int
  | s, [] => some s
  | s, v :: r => if can v = true ∧ v.1 < 4611686018427387904 - s then totFrom (s + v.1) r else none

/-- What Total answers. -/
def totV (o : Option Int) : Value := match o with
  | some s => .tuple #[.int .i64 s, .bool true]
  | none => .tuple #[.int .i64 0, .bool false]

/-- One of them: its two cells, in a world behind this one. -/
theorem Lies.val {w w' : World} {ao : Option Addr} {b off j : Nat} {vs : List (Int × ByteArray)} {v : (Int × ByteArray)} (h : Lies w w.heap.size ao b off (vc vs)) (hb : Below w.heap.size w w') (hv : vs[j]? = some v) :
    ao = some ⟨b, off, none⟩ ∧ w'.cell? ⟨b, off + j * 2, none⟩ = some (.int .i64 v.1) ∧ w'.cell? ⟨b, off + j * 2 + 1, none⟩ = some (.string v.2) := by
  obtain ⟨h1, h2⟩ := vc_at vs j v hv
  have hl : 0 < (vc vs).length := by have := (List.getElem?_eq_some_iff.1 hv).1; rw [vc_length]; omega
  have hlt := h.lt hl
  exact ⟨h.addr hl, (hb.cell (p := ⟨b, off + j * 2, none⟩) hlt).trans (h.cells _ _ h1), (hb.cell (p := ⟨b, off + j * 2 + 1, none⟩) hlt).trans (h.cells _ _ h2)⟩

theorem drop_at {α : Type} {l : List α} {j : Nat} {v : α} (h : l[j]? = some v) : l.drop j = v :: l.drop (j + 1) := by
  obtain ⟨h1, h2⟩ := List.getElem?_eq_some_iff.1 h
  rw [List.drop_eq_getElem_cons h1, h2]

end Go.Proofs.YtginfmbcljlneaaDoor
