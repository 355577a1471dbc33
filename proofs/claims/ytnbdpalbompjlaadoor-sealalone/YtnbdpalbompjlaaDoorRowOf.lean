/-
  A row of numbers that a value reads as; what the reference's Same answers of two of them.
-/
import Derived.Test.YtnbdpalbompjlaaDoorRefBoard
namespace Go.Proofs.YtnbdpalbompjlaaDoor
open Go.RowKit
set_option maxRecDepth 10000

/-- The value reads as this row. -/
def Row (w : World) (v : Value) (L : List Nat) : Prop := ∃ ao cap b off, v = .slice ao L.length cap ∧ Lies w w.heap.size ao b off (iv L)
theorem Held.row {w : World} {base : Nat} {v : Value} {L : List Nat} (h : Held w base v (iv L)) : Row w v L := by
  obtain ⟨ao, cap, b, off, rfl, hl⟩ := h.lies
  exact ⟨ao, cap, b, off, by rw [iv_length], hl⟩
theorem Row.keep {w w' : World} {v : Value} {L : List Nat} (h : Row w v L) (hb : Below w.heap.size w w') : Row w' v L := by
  obtain ⟨ao, cap, b, off, rfl, hl⟩ := h
  exact ⟨ao, cap, b, off, rfl, hl.below hb⟩
theorem same_row {w : World} {v u : Value} {L R : List Nat} (h1 : Row w v L) (h2 : Row w u R) (hn : L.length ≤ 100000) :
    Calls Tryd.prog 15 #[v, u] w fun e w' => e = .returned (.bool (decide (L = R))) ∧ Below w.heap.size w w' := by
  obtain ⟨ao, cap, b, off, rfl, hl⟩ := h1
  obtain ⟨ao2, cap2, b2, off2, rfl, hl2⟩ := h2
  exact same_any w ao ao2 _ cap b off _ cap2 b2 off2 L R rfl rfl hl hl2 hn

end Go.Proofs.YtnbdpalbompjlaaDoor
