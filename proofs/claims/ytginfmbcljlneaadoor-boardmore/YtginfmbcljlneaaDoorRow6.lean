/-
  A row of numbers that a value reads as; what the reference's Same answers of two of them; what a configuration that can be says of its committee.
-/
import Derived.Test.YtginfmbcljlneaaDoorAlive6
namespace Go.Proofs.YtginfmbcljlneaaDoor
open Go.RowKit

/-- The value reads as this row. -/
def Row (w : World) (v : Value) (L : List Nat) : Prop := ∃ ao cap b off, v = .slice ao L.length cap ∧ Lies w w.heap.size ao b off (iv L)
theorem Held.row {w : World} {base : Nat} {v : Value} {L : List Nat} (h : Held w base v (iv L)) : Row w v L := by
  obtain ⟨ao, cap, b, off, rfl, hl⟩ := h.lies
  exact ⟨ao, cap, b, off, by rw [iv_length], hl⟩
theorem Row.keep {w w' : World} {v : Value} {L : List Nat} (h : Row w v L) (hb : Below w.heap.size w w') : Row w' v L := by
  obtain ⟨ao, cap, b, off, rfl, hl⟩ := h
  exact ⟨ao, cap, b, off, rfl, hl.below hb⟩
theorem same_row {w : World} {v u : Value} {L R : List Nat} (h1 : Row w v L) (h2 : Row w u R) (hn : L.length ≤ 100000) :
    Calls Tryd.prog 14 #[v, u] w fun e w' => e = .returned (.bool (decide (L = R))) ∧ Below w.heap.size w w' := by
  obtain ⟨ao, cap, b, off, rfl, hl⟩ := h1
  obtain ⟨ao2, cap2, b2, off2, rfl, hl2⟩ := h2
  exact same_any w ao ao2 _ cap b off _ cap2 b2 off2 L R rfl rfl hl hl2 hn

/-- How great the committee is, of a configuration that can be. -/
theorem good_comm {nlen : Nat} {n1 n2 n3 n4 n5 n6 n7 n8 n9 n10 n11 : Int} {vs : List (Int × ByteArray)} (h : goodB (nums nlen n1 n2 n3 n4 n5 n6 n7 n8 n9 n10 n11) vs = true) : 1 ≤ n2 ∧ n2 ≤ 16 ∧ n2 ≤ nlen := by
  have := goodB_nums h (v := (n2, min 16 (nlen : Int))) (by simp [nums])
  simp only at this
  omega
theorem picked_le (l : List Nat) (r : List Bool) : (picked l r).length ≤ l.length := by
  rw [picked]
  split
  · exact pickL_le l r
  · simp
end Go.Proofs.YtginfmbcljlneaaDoor
