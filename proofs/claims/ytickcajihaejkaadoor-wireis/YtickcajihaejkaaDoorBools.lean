/-
  Rows of yes and no as cells; a row of no that was just made.
-/
import Derived.Test.YtickcajihaejkaaDoorInts
namespace Go.Proofs.YtickcajihaejkaaDoor
open Go.RowKit

/-- Yes and no as cells. -/
def ov (l : List Bool) : List Value := l.map Value.bool
theorem ov_length (l : List Bool) : (ov l).length = l.length := by simp [ov]
theorem ov_at {l : List Bool} {j : Nat} {x : Bool} (h : l[j]? = some x) : (ov l)[j]? = some (.bool x) := by simp [ov, h]
theorem Lies.bool {w w' : World} {ao : Option Addr} {b off j : Nat} {x : Bool} {l : List Bool} (h : Lies w w.heap.size ao b off (ov l)) (hb : Below w.heap.size w w') (hx : l[j]? = some x) :
    ao = some ⟨b, off, none⟩ ∧ w'.cell? ⟨b, off + j, none⟩ = some (.bool x) := by
  have hl : 0 < (ov l).length := by have := (List.getElem?_eq_some_iff.1 hx).1; rw [ov_length]; omega
  have hlt := h.lt hl
  exact ⟨h.addr hl, (hb.cell (p := ⟨b, off + j, none⟩) hlt).trans (h.cells _ _ (ov_at hx))⟩
theorem Tryd.infoB : (Tryd.prog.info? 4).map (fun i => (i.zero, i.size, i.bytes)) = some (some (.bool false), 1, 1) := by kernel_rfl
theorem made_no (m : Nat) : (madeCells (Value.bool false).cells m).toList = ov (List.replicate m false) := by
  apply List.ext_getElem?
  intro i
  by_cases h : i < m
  · simp [madeCells, Value.cells, Nat.mod_one, ov, h]
  · rw [List.getElem?_eq_none (by rw [Array.length_toList, size_madeCells]; omega), List.getElem?_eq_none (by rw [ov_length]; simp; omega)]
theorem made_lies (w : World) (m : Nat) : Lies (w.alloc (.cells (madeCells (Value.bool false).cells m) 4)) (w.alloc (.cells (madeCells (Value.bool false).cells m) 4)).heap.size (some ⟨w.heap.size, 0, none⟩) w.heap.size 0 (ov (List.replicate m false)) := by
  have h := Blk.new w 4 (madeCells (Value.bool false).cells m)
  rw [made_no] at h
  exact ⟨fun _ => rfl, fun _ => h.lt, fun i u hi => by rw [Nat.zero_add]; exact (h.cell i).trans hi⟩
end Go.Proofs.YtickcajihaejkaaDoor
