/-
  The texts Ints, Bools, one behind the other.
-/
import Derived.Test.YtoinigcfcjllcaaOnceM3
import Derived.Laws.MakeOwn
import Derived.Deep.QuietTactic
import Derived.BigQuiet
/-
  Rows of numbers (int) that a call made, as cells; what a slice of them reads.
-/
namespace Go.Proofs.Ytoinigcfcjllcaa
open Go.RowKit
set_option maxRecDepth 10000

/-- Numbers as cells. -/
def iv (l : List Nat) : List Value := l.map fun (x : Nat) => Value.int .i64 (x : Int)
theorem iv_length (l : List Nat) : (iv l).length = l.length := by simp [iv]
theorem iv_at {l : List Nat} {j x : Nat} (h : l[j]? = some x) : (iv l)[j]? = some (.int .i64 (x : Int)) := by simp [iv, h]
theorem iv_append (a b : List Nat) : iv (a ++ b) = iv a ++ iv b := by simp [iv]
theorem iv_one (l : List Nat) : ∀ v ∈ iv l, v.oneCell' = true := by
  intro v hv; simp [iv] at hv; obtain ⟨a, _, rfl⟩ := hv; rfl
theorem Try.info3 : (Try.prog.info? 3).map (fun i => (i.zero, i.size, i.bytes)) = some (some (.int .i64 0), 1, 8) := by kernel_rfl

/-- One number that was just built, as append's source. -/
theorem src_int {P : Program} (w : World) (t : TypeId) (ht : P.underlying t = some (.slice 3)) (x : Nat) : Src P 1 t (.slice (some ⟨w.heap.size, 0, none⟩) 1 1) 1 (iv [x]) (w.alloc (.cells #[.int .i64 (x : Int)] 3)) := by
  refine Src.ofSlice _ ht _ 1 1 _ rfl ?_ (iv_one _)
  intro i y hi
  match i, hi with
  | 0, hi => simp [iv] at hi; subst hi; simp [Addr.add]

theorem src_intAt {P : Program} (w : World) (t : TypeId) (ht : P.underlying t = some (.slice 3)) (x g : Nat) (hg : g = w.heap.size) : Src P 1 t (.slice (some ⟨g, 0, none⟩) 1 1) 1 (iv [x]) (w.alloc (.cells #[.int .i64 (x : Int)] 3)) := by
  subst hg
  exact src_int w t ht x

/-- 'make' of one-cell elements, none of them in use yet. -/
theorem held_room (w : World) (z : Array Value) (m : Nat) (e : TypeId) (hm : m ≤ maxLen) : Held (w.alloc (.cells (madeCells z m) e)) w.heap.size (.slice (some ⟨w.heap.size, 0, none⟩) 0 m) [] := by
  have hs : (madeCells z m).size = m := size_madeCells _ _
  refine ⟨0, m, w.heap.size, 0, _, rfl, rfl, Nat.zero_le _, hm, fun _ => rfl, fun a ha => by cases ha; exact Nat.le_refl _, fun _ => by simp, fun j u hj => by simp at hj, fun j hj => ?_, fun j hj => ?_⟩
  · rw [Nat.zero_add, World.cell?_alloc_mark, Array.getElem?_eq_getElem (by omega)]; rfl
  · rw [Nat.zero_add]
    simp [World.frozen?_alloc_mark w (madeCells z m) e 0 0 j]

/-- What a slice that the call made reads. -/
theorem Held.lies {w : World} {base : Nat} {v : Value} {xs : List Value} (h : Held w base v xs) : ∃ ao cap b off, v = .slice ao xs.length cap ∧ Lies w w.heap.size ao b off xs := by
  obtain ⟨n, cap, g, off, ao, rfl, h⟩ := h
  have hl := h.len
  have hle := h.le
  exact ⟨ao, cap, g, off, by rw [hl], fun h0 => h.addr (by omega), fun h0 => h.lt (by omega), h.cells⟩

theorem Lies.int {w w' : World} {ao : Option Addr} {b off j x : Nat} {l : List Nat} (h : Lies w w.heap.size ao b off (iv l)) (hb : Below w.heap.size w w') (hx : l[j]? = some x) :
    ao = some ⟨b, off, none⟩ ∧ w'.cell? ⟨b, off + j, none⟩ = some (.int .i64 (x : Int)) := by
  have hl : 0 < (iv l).length := by have := (List.getElem?_eq_some_iff.1 hx).1; rw [iv_length]; omega
  have hlt := h.lt hl
  exact ⟨h.addr hl, (hb.cell (p := ⟨b, off + j, none⟩) hlt).trans (h.cells _ _ (iv_at hx))⟩

/-- A whole struct (or array) out of memory. -/
theorem run_loadAt_agg {P : Program} {w : World} {g off : Nat} {cs : List Value} (hc : ∀ j v, cs[j]? = some v → w.cell? ⟨g, off + j, none⟩ = some v) (ty : TypeId) (ha : ∀ w, (isAgg ty).run P w = .ok true w) (hi : (P.info? ty).map (·.size) = some cs.length) :
    (Instr.loadAt ty (.pointer (some ⟨g, off, none⟩))).run P w = .ok (.agg cs.toArray) w := by
  simp only [Instr.loadAt, Instr.sureAddr, Sem.run_bind, Sem.run_pure, Result.andThen]
  have hl := run_loadCells_list (P := P) w ⟨g, off, none⟩ cs (fun j v hv => by rw [Addr.add_lit]; exact hc j v hv)
  cases hq : P.info? ty with
  | none => simp [hq] at hi
  | some i =>
    have hs : i.size = cs.length := by simpa [hq] using hi
    simp [loadVar, Sem.run_bind, ha w, sizeOf, typeInfo, hq, hs, hl]

theorem wpList_load_agg {P : Program} {ops : Array Oper} {rest : List Oper} {o : Oper} {a : Act} {w : World} {Q : Exit → Act → World → Prop} (hgd : o.guard = none) (ty : TypeId) (x : Operand) (ho : o.op = .load ty x)
    (g off : Nat) (cs : List Value) (hx : a.eval x = .pointer (some ⟨g, off, none⟩))
    (hc : ∀ j v, cs[j]? = some v → w.cell? ⟨g, off + j, none⟩ = some v) (ha : ∀ w, (isAgg ty).run P w = .ok true w) (hi : (P.info? ty).map (·.size) = some cs.length)
    (h : wpList P ops Q rest (a.put o.dst (.agg cs.toArray)) w) : wpList P ops Q (o :: rest) a w := by
  refine wpList_plain hgd fun K hK => ?_
  unfold Oper.wp execOp
  simp only [ho, hx, Sem.run_bind, run_loadAt_agg hc ty ha hi, Result.andThen_ok]
  exact hK _ _ h
end Go.Proofs.Ytoinigcfcjllcaa

/-
  Rows of yes and no as cells; a row of no that was just made.
-/
namespace Go.Proofs.Ytoinigcfcjllcaa
open Go.RowKit
set_option maxRecDepth 10000

/-- Yes and no as cells. -/
def ov (l : List Bool) : List Value := l.map Value.bool
theorem ov_length (l : List Bool) : (ov l).length = l.length := by simp [ov]
theorem ov_at {l : List Bool} {j : Nat} {x : Bool} (h : l[j]? = some x) : (ov l)[j]? = some (.bool x) := by simp [ov, h]
theorem Lies.bool {w w' : World} {ao : Option Addr} {b off j : Nat} {x : Bool} {l : List Bool} (h : Lies w w.heap.size ao b off (ov l)) (hb : Below w.heap.size w w') (hx : l[j]? = some x) :
    ao = some ⟨b, off, none⟩ ∧ w'.cell? ⟨b, off + j, none⟩ = some (.bool x) := by
  have hl : 0 < (ov l).length := by have := (List.getElem?_eq_some_iff.1 hx).1; rw [ov_length]; omega
  have hlt := h.lt hl
  exact ⟨h.addr hl, (hb.cell (p := ⟨b, off + j, none⟩) hlt).trans (h.cells _ _ (ov_at hx))⟩
theorem Try.infoB : (Try.prog.info? 4).map (fun i => (i.zero, i.size, i.bytes)) = some (some (.bool false), 1, 1) := by kernel_rfl
theorem made_no (m : Nat) : (madeCells (Value.bool false).cells m).toList = ov (List.replicate m false) := by
  apply List.ext_getElem?
  intro i
  by_cases h : i < m
  · simp [madeCells, Value.cells, Nat.mod_one, ov, h]
  · rw [List.getElem?_eq_none (by rw [Array.length_toList, size_madeCells]; omega), List.getElem?_eq_none (by rw [ov_length]; simp; omega)]
theorem made_lies (w : World) (m : Nat) : Lies (w.alloc (.cells (madeCells (Value.bool false).cells m) 4)) (w.alloc (.cells (madeCells (Value.bool false).cells m) 4)).heap.size (some ⟨w.heap.size, 0, none⟩) w.heap.size 0 (ov (List.replicate m false)) := by
  have h := Blk.new w 4 (madeCells (Value.bool false).cells m)
  rw [made_no] at h
  exact ⟨fun _ => rfl, fun _ => h.lt, fun i u hi => by rw [Nat.zero_add]; exact (h.cell i).trans hi⟩
end Go.Proofs.Ytoinigcfcjllcaa
