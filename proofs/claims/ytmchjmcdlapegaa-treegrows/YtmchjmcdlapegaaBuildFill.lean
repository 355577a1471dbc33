/-
  A struct written out ('T{..}'): its cells, part by part, over the empty one's; and an answer that lies in a cell. It holds of every program.
-/
import Derived.Test.YtmchjmcdlapegaaFreeLaws
import Derived.Laws.ResultCell
namespace Go.Proofs.Ytmchjmcdlapegaa
open Go.RowKit
set_option maxRecDepth 10000

theorem fold_splice : ∀ (cs z : List Value) (off i : Nat), off + i + cs.length ≤ z.length →
    (cs.zipIdx i).foldl (fun (a : Array Value) (x : Value × Nat) => a.setIfInBounds (off + x.2) x.1) z.toArray = (splice z (off + i) cs).toArray
  | [], z, off, i, h => by simp [splice]
  | c :: cs, z, off, i, h => by
    rw [List.zipIdx_cons, List.foldl_cons, List.setIfInBounds_toArray, fold_splice cs _ off (i + 1) (by rw [List.length_set]; simp at h; omega)]
    congr 1
    simp only [List.length_cons] at h
    obtain ⟨n, hn⟩ : ∃ n, n = off + i := ⟨_, rfl⟩
    rw [show off + (i + 1) = n + 1 by omega, ← hn]
    have hA : (z.take n).length = n := by rw [List.length_take]; omega
    have e0 : z.set n c = z.take n ++ c :: z.drop (n + 1) := by rw [List.set_eq_take_append_cons_drop, if_pos (by omega)]
    have e1 : (z.set n c).take (n + 1) = z.take n ++ [c] := by
      rw [e0, List.take_append, hA, List.take_of_length_le (by omega), show n + 1 - n = 1 by omega]; rfl
    have e2 : (z.set n c).drop (n + 1 + cs.length) = z.drop (n + (cs.length + 1)) := by
      rw [e0, List.drop_append, hA, List.drop_of_length_le (by omega), List.nil_append, show n + 1 + cs.length - n = cs.length + 1 by omega, List.drop_succ_cons, List.drop_drop, show n + 1 + cs.length = n + (cs.length + 1) by omega]
    rw [splice, splice, e1, e2, List.length_cons, List.append_assoc]
    rfl

theorem fill_step {place : Nat → Option (Nat × Nat)} {z : List Value} {j off size : Nat} {v : Value} {rest : List (Nat × Value)} (hp : place j = some (off, size)) (hs : v.cells.size = size) (hz : off + size ≤ z.length) :
    Go.Instr.fill place z.toArray ((j, v) :: rest) = Go.Instr.fill place (splice z off v.cells.toList).toArray rest := by
  rw [Go.Instr.fill, hp]
  simp only
  rw [if_neg (by simp [hs]; omega)]
  congr 1
  have := fold_splice v.cells.toList z off 0 (by rw [Array.length_toList, hs]; omega)
  rw [Nat.add_zero] at this
  rw [← this, ← Array.foldl_toList, Array.toList_zipIdx]

theorem splice_one (z : List Value) (off : Nat) (v : Value) (h : off < z.length) : splice z off [v] = z.set off v := by
  simp only [splice, List.length_singleton]
  rw [List.set_eq_take_append_cons_drop, if_pos h]
  rfl

theorem stepAt_build {P : Program} {ops : Array Oper} {o : Oper} {a : Act} {w : World} {R : Value → World → Prop} {d : Tmp} (hd : o.dst = some d) (hw : Region.wanted o (yielded ops a.tmps) = true) (hz : decide (d < a.tmps.size) = true) (t : TypeId) (parts : Array (Nat × Operand)) (ho : o.op = .build t parts)
    (cells : Array Value) (hb : P.built t (parts.map fun (i, x) => (i, a.eval x)).toList = some cells) (h : R (.agg cells) w) : stepAt P ops o a w R := by
  refine stepAt_value hd hw hz _ w ?_ h
  unfold execOp
  simp only [ho, Sem.run_bind, run_build w t _ cells hb, Result.andThen_ok]
  rfl

theorem results_cell {fn : Func} {p : Tmp} {ty : TypeId} (h : fn.results = #[.cell p ty]) (tmps : Array Value) (P : Program) (w : World) :
    (results fn tmps).run P w = ((asAddr (tmps.getD p undef)).run P w).andThen fun a w₁ => (loadVar ty a).run P w₁ := by
  simp only [results, h]
  simp [Sem.run_bind, Result.andThen]
end Go.Proofs.Ytmchjmcdlapegaa
