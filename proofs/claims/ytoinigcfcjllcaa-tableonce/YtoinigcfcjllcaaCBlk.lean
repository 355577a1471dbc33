/-
  The texts Blk, one behind the other.
-/
import Derived.Test.YtoinigcfcjllcaaRows
import Derived.Test.YtoinigcfcjllcaaCBase
import Derived.Deep.WholeRow
import Derived.Laws.CopyOwn
import Derived.WalkKit
import Derived.WalkSpells
import Derived.WalkLawsBesides
import Derived.Outline
import Derived.Lib.Hide
/-
  Blocks of memory that are known whole. It holds of every program.
-/
namespace Go.Proofs.Ytoinigcfcjllcaa
open Go.RowKit
set_option maxRecDepth 10000

/-- Block g holds just these cells. -/
def Blk (w : World) (g : Nat) (t : TypeId) (vs : List Value) : Prop := w.heap[g]? = some (.cells vs.toArray t (0, 0))

theorem Blk.lt {w : World} {g : Nat} {t : TypeId} {vs : List Value} (h : Blk w g t vs) : g < w.heap.size := (Array.getElem?_eq_some_iff.1 h).1
theorem Blk.cell {w : World} {g : Nat} {t : TypeId} {vs : List Value} (h : Blk w g t vs) (j : Nat) : w.cell? ⟨g, j, none⟩ = vs[j]? := by
  rw [cell_of_row w g j vs.toArray t (0, 0) h]; simp
theorem Blk.free {w : World} {g : Nat} {t : TypeId} {vs : List Value} (h : Blk w g t vs) (j : Nat) : w.frozen? ⟨g, j, none⟩ = false := frozen_of_row w g j _ t h
theorem Blk.below {w w' : World} {g B : Nat} {t : TypeId} {vs : List Value} (h : Blk w g t vs) (hb : Below B w w') (hg : g < B) : Blk w' g t vs := (hb.block g hg).trans h
theorem Blk.drewN {w : World} {g : Nat} {t : TypeId} {vs : List Value} (h : Blk w g t vs) (k : Nat) : Blk (w.drewN k) g t vs := h
theorem Blk.drew {w : World} {g : Nat} {t : TypeId} {vs : List Value} (h : Blk w g t vs) : Blk w.drew g t vs := h
theorem Blk.alloc {w : World} {g : Nat} {t : TypeId} {vs : List Value} (h : Blk w g t vs) (o : Obj) : Blk (w.alloc o) g t vs := (Go.heap_alloc_old w o (h := h.lt)).trans h
theorem Blk.new (w : World) (t : TypeId) (vs : Array Value) : Blk (w.alloc (.cells vs t (0, 0))) w.heap.size t vs.toList := by
  unfold Blk; rw [Array.toArray_toList]; exact heap_alloc_new w _
theorem Blk.newAt (w : World) (t : TypeId) (vs : Array Value) (g : Nat) (h : g = w.heap.size) : Blk (w.alloc (.cells vs t (0, 0))) g t vs.toList := by subst h; exact Blk.new w t vs
theorem Blk.set {w : World} {g : Nat} {t : TypeId} {vs : List Value} (h : Blk w g t vs) (j : Nat) (v : Value) : Blk (w.setCell ⟨g, j, none⟩ v) g t (vs.set j v) := by
  have := heap_setCell_same w g j vs.toArray t v h
  simpa [Blk] using this
theorem Blk.other {w : World} {g : Nat} {t : TypeId} {vs : List Value} (h : Blk w g t vs) (a : Addr) (v : Value) (hne : g ≠ a.block) : Blk (w.setCell a v) g t vs := (heap_setCell_other w a g v hne).trans h
theorem Blk.setRow {w : World} {g : Nat} {t : TypeId} {vs : List Value} (h : Blk w g t vs) (cs : List Value) : Blk (w.setRow g cs.toArray) g t cs := setRow_heap w g _ _ t _ h
theorem Blk.setRow_other {w : World} {g k : Nat} {t : TypeId} {vs : List Value} (h : Blk w g t vs) (cs : Array Value) (hne : g ≠ k) : Blk (w.setRow k cs) g t vs := (Go.setRow_other w k g cs hne).trans h

def intN : Value → Nat
  | .int _ n => n.toNat
  | _ => 0
theorem below_drewN' {B : Nat} {w wr : World} (hb : Below B w wr) (k : Nat) : Below B w (wr.drewN k) := ⟨hb.os, hb.tape, hb.output, hb.size, hb.block⟩

theorem bv_one (l : List UInt8) : ∀ v ∈ bv l, v.oneCell' = true := by
  intro v hv; rw [bv, List.mem_map] at hv; obtain ⟨x, _, rfl⟩ := hv; rfl


/-- Twelve cells that are known whole. -/
theorem Blk.twelve {w : World} {g : Nat} {t : TypeId} {a0 a1 a2 a3 a4 a5 a6 a7 a8 a9 a10 a11 : Value} (h : Blk w g t [a0, a1, a2, a3, a4, a5, a6, a7, a8, a9, a10, a11]) :
    w.cell? ⟨g, 0, none⟩ = some a0 ∧ w.cell? ⟨g, 1, none⟩ = some a1 ∧ w.cell? ⟨g, 2, none⟩ = some a2 ∧ w.cell? ⟨g, 3, none⟩ = some a3 ∧ w.cell? ⟨g, 4, none⟩ = some a4 ∧ w.cell? ⟨g, 5, none⟩ = some a5 ∧ w.cell? ⟨g, 6, none⟩ = some a6 ∧ w.cell? ⟨g, 7, none⟩ = some a7 ∧ w.cell? ⟨g, 8, none⟩ = some a8 ∧ w.cell? ⟨g, 9, none⟩ = some a9 ∧ w.cell? ⟨g, 10, none⟩ = some a10 ∧ w.cell? ⟨g, 11, none⟩ = some a11 :=
  ⟨h.cell 0, h.cell 1, h.cell 2, h.cell 3, h.cell 4, h.cell 5, h.cell 6, h.cell 7, h.cell 8, h.cell 9, h.cell 10, h.cell 11⟩
end Go.Proofs.Ytoinigcfcjllcaa
