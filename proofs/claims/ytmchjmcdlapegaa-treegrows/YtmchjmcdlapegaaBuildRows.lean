/-
  A slice written out, of elements that take s cells each: its cells are the elements', one behind the other. It holds of every program.
-/
import Derived.Test.YtmchjmcdlapegaaFreeLaws
import Derived.Great.BuildSlice
namespace Go.Proofs.Ytmchjmcdlapegaa
open Go Go.RowKit

theorem rows_at {α : Type} {s : Nat} (hs : 0 < s) : ∀ (rows : List (List α)) (k : Nat), (∀ r ∈ rows, r.length = s) → rows.flatten[k]? = (rows[k / s]?).bind (·[k % s]?)
  | [], k, _ => by simp
  | r :: rows, k, h => by
    have hr := h r List.mem_cons_self
    rw [List.flatten_cons]
    by_cases hk : k < s
    · rw [List.getElem?_append_left (by omega), Nat.div_eq_of_lt hk, Nat.mod_eq_of_lt hk]; rfl
    · rw [List.getElem?_append_right (by omega), hr, rows_at hs rows (k - s) (fun x hx => h x (List.mem_cons_of_mem _ hx))]
      have e1 : k / s = (k - s) / s + 1 := by
        rw [← Nat.add_div_right _ hs, Nat.sub_add_cancel (by omega)]
      have e2 : k % s = (k - s) % s := by
        conv => lhs; rw [← Nat.sub_add_cancel (show s ≤ k by omega)]
        rw [Nat.add_mod_right]
      rw [e1, e2, List.getElem?_cons_succ]
theorem rows_length {α : Type} {s : Nat} : ∀ (rows : List (List α)), (∀ r ∈ rows, r.length = s) → rows.flatten.length = rows.length * s
  | [], _ => by simp
  | r :: rows, h => by
    rw [List.flatten_cons, List.length_append, h r List.mem_cons_self, rows_length rows (fun x hx => h x (List.mem_cons_of_mem _ hx)), List.length_cons, Nat.succ_mul, Nat.add_comm]

/-- Elements as values. -/
def aggs (rows : List (List Value)) : List Value := rows.map fun r => Value.agg r.toArray

theorem fill_rows {s : Nat} (hs : 0 < s) (rows : List (List Value)) (hr : ∀ r ∈ rows, r.length = s) (cells : Array Value) (hc : cells.size = rows.length * s) :
    Instr.fill (fun i => some (i * s, s)) cells (((aggs rows).zipIdx 0).map fun x => (x.2, x.1)) = some rows.flatten.toArray := by
  obtain ⟨r, h1, h2, h3⟩ := Great.fill_dense hs (aggs rows) 0 cells (fun v hv => by
    obtain ⟨x, hx, rfl⟩ := List.mem_map.1 hv
    simp [Value.cells, hr x hx]) (by simp [aggs, hc])
  rw [h1]
  congr 1
  apply Array.ext_getElem?
  intro k
  have hf : rows.flatten.toArray[k]? = (rows[k / s]?).bind (·[k % s]?) := by rw [List.getElem?_toArray, rows_at hs rows k hr]
  rw [h3 k, hf]
  have e : (0 + (aggs rows).length) * s = rows.length * s := by simp [aggs]
  rw [e, Nat.zero_mul, Nat.sub_zero]
  by_cases hk : k < rows.length * s
  · rw [if_pos ⟨Nat.zero_le _, hk⟩]
    simp only [aggs, List.getElem?_map]
    cases rows[k / s]? with
    | none => rfl
    | some x => simp [Value.cells]
  · rw [if_neg (by omega), Array.getElem?_eq_none (by omega), List.getElem?_eq_none (by rw [Nat.le_div_iff_mul_le hs]; omega)]
    rfl

theorem run_build_rows {P : Program} (w : World) (t e : TypeId) (len : Nat) (parts : Array (Nat × Value)) (ie : TypeInfo) (z : Value) {s : Nat} (hs : 0 < s) (rows : List (List Value)) (hr : ∀ r ∈ rows, r.length = s)
    (hu : P.underlying t = some (.slice e)) (hie : P.info? e = some ie) (hz : ie.zero = some z) (hsz : ie.size = s) (hlen : len = rows.length) (hpos : 0 < len) (hsmall : len * s ≤ 2 ^ 24)
    (hp : parts.toList = ((aggs rows).zipIdx 0).map fun x => (x.2, x.1)) :
    (Instr.buildSlice t len parts).run P w = .ok (.slice (some ⟨w.heap.size, 0, none⟩) len len) (w.alloc (.cells rows.flatten.toArray e)) := by
  have hls : 0 < len * s := Nat.mul_pos hpos hs
  refine run_buildSlice w t e len parts _ ie z hu hie hz (by rw [hsz]; omega) (by rw [hsz]; omega) ?_
  rw [hp, hsz]
  exact fill_rows hs rows hr _ (by simp [hlen])

theorem stepAt_build_rows {P : Program} {ops : Array Oper} {o : Oper} {a : Act} {w : World} {R : Value → World → Prop} {d : Tmp} (hd : o.dst = some d) (hw : Region.wanted o (yielded ops a.tmps) = true) (hz' : decide (d < a.tmps.size) = true) (t e : TypeId) (len : Nat) (parts : Array (Nat × Operand)) (ho : o.op = .buildSlice t len parts)
    (ie : TypeInfo) (z : Value) {s : Nat} (hs : 0 < s) (rows : List (List Value)) (hr : ∀ r ∈ rows, r.length = s)
    (hu : P.underlying t = some (.slice e)) (hie : P.info? e = some ie) (hz : ie.zero = some z) (hsz : ie.size = s) (hlen : len = rows.length) (hpos : 0 < len) (hsmall : len * s ≤ 2 ^ 24)
    (hp : (parts.toList.map fun x => (x.1, a.eval x.2)) = ((aggs rows).zipIdx 0).map fun x => (x.2, x.1))
    (h : R (.slice (some ⟨w.heap.size, 0, none⟩) len len) (w.alloc (.cells rows.flatten.toArray e))) : stepAt P ops o a w R := by
  refine stepAt_value hd hw hz' _ _ ?_ h
  unfold execOp
  simp only [ho, Sem.run_bind, run_build_rows w t e len _ ie z hs rows hr hu hie hz hsz hlen hpos hsmall (show (parts.map fun (i, x) => (i, a.eval x)).toList = _ by rw [Array.toList_map]; exact hp), Result.andThen_ok]
  rfl
end Go.Proofs.Ytmchjmcdlapegaa
