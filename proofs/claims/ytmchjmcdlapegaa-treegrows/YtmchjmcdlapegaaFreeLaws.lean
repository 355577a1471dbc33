/-
  Steps of regions whose operations come in any order: what one operation leads to, at its slot.
-/
import Derived.Test.YtmchjmcdlapegaaFree
import Derived.Test.YtmchjmcdlapegaaParts
namespace Go.Proofs.Ytmchjmcdlapegaa
open Go Go.RowKit

variable {P : Program} {ops : Array Oper} {o : Oper} {a : Act} {w : World} {R : Value → World → Prop}

theorem stepAt_wp {d : Tmp} (hd : o.dst = some d) (hw : Region.wanted o (yielded ops a.tmps) = true) (h : ∀ K : Act → World → Prop, (∀ a' w', a'.defers = a.defers → R (a'.eval (.tmp d)) w' → K a' w') → o.wp P a w K (fun _ _ _ => False)) : stepAt P ops o a w R := by
  unfold stepAt
  rw [hd]
  intro K hK
  rw [if_pos hw]
  exact h K hK

theorem stepAt_skip {d : Tmp} (hd : o.dst = some d) (hw : Region.wanted o (yielded ops a.tmps) = false) (hz : decide (d < a.tmps.size) = true) (h : R undef w) : stepAt P ops o a w R := by
  unfold stepAt
  rw [hd]
  intro K hK
  rw [if_neg (by rw [hw]; simp)]
  exact hK _ _ rfl (by rw [eval_put_same a d _ (of_decide_eq_true hz)]; exact h)

theorem stepAt_value {d : Tmp} (hd : o.dst = some d) (hw : Region.wanted o (yielded ops a.tmps) = true) (hz : decide (d < a.tmps.size) = true) (v : Value) (w' : World) (hrun : (execOp a.eval o).run P w = .ok (.value v) w') (h : R v w') : stepAt P ops o a w R := by
  refine stepAt_wp hd hw fun K hK => ?_
  unfold Oper.wp
  rw [hrun]
  simp only [Oper.upon]
  exact hK _ _ (put_defers _ _ _) (by rw [hd, eval_put_same a d _ (of_decide_eq_true hz)]; exact h)

theorem stepAt_call {d : Tmp} (hd : o.dst = some d) (hw : Region.wanted o (yielded ops a.tmps) = true) (hz : decide (d < a.tmps.size) = true) (f : Nat) (args : Array Value) (hrun : (execOp a.eval o).run P w = .ok (.enter f args) w) (h : Calls P f args w fun e w' => ∃ v, e = .returned v ∧ R v w') : stepAt P ops o a w R := by
  refine stepAt_wp hd hw fun K hK => ?_
  unfold Oper.wp
  rw [hrun]
  simp only [Oper.upon]
  refine h.mono fun e w' ⟨v, he, hv⟩ => ?_
  subst he
  exact hK _ _ (put_defers _ _ _) (by rw [hd, eval_put_same a d _ (of_decide_eq_true hz)]; exact hv)

theorem stepAt_load_cells {d : Tmp} (hd : o.dst = some d) (hw : Region.wanted o (yielded ops a.tmps) = true) (hz : decide (d < a.tmps.size) = true) (ty : TypeId) (x : Operand) (ho : o.op = .load ty x)
    (g off : Nat) (cs : List Value) (hx : a.eval x = .pointer (some ⟨g, off, none⟩)) (n : Nat) (e : TypeId)
    (hc : ∀ j v, cs[j]? = some v → w.cell? ⟨g, off + j, none⟩ = some v) (hu : P.underlying ty = some (.array n e)) (hi : (P.info? ty).map (·.size) = some cs.length)
    (h : R (.agg cs.toArray) w) : stepAt P ops o a w R := by
  refine stepAt_value hd hw hz _ w ?_ h
  unfold execOp
  simp only [ho, hx, Sem.run_bind, run_loadAt_cells hc ty n e hu hi, Result.andThen_ok]
  rfl

theorem stepAt_append_held {d : Tmp} (hd : o.dst = some d) (hw : Region.wanted o (yielded ops a.tmps) = true) (hz' : decide (d < a.tmps.size) = true) (s x : Operand) (t tx : TypeId)
    (ho : o.op = .call { callee := .builtin .append, args := #[s, x], argTypes := #[t, tx] })
    {base : Nat} {v : Value} {xs : List Value} (hs : a.eval s = v) (h : Held w base v xs) (e : TypeId) (i : TypeInfo) (z : Value) (bytes : Nat)
    (ht : P.underlying t = some (.slice e)) (hi : P.info? e = some i) (hz : i.zero = some z) (hsize : i.size = 1) (hby : i.bytes = bytes) (hzs : z.cells.size = 1)
    (u : Value) (hx : a.eval x = u) (n : Nat) (news : List Value) (hsrc : Src P 1 tx u n news w) (hfit : xs.length + n ≤ maxLen) (hbytes : (xs.length + n) * bytes ≤ 140737488355328) (hbase : base ≤ w.heap.size)
    (hK : ∀ v' w', Held w' base v' (xs ++ news) → Grew w v w' v' → R v' w') : stepAt P ops o a w R := by
  obtain ⟨v', w', hrun, r1, r2⟩ := h.append (P := P) t tx o.type e i z bytes ht hi hz hsize hby hzs u n news hsrc hfit hbytes hbase
  refine stepAt_value hd hw hz' v' w' ?_ (hK v' w' r1 r2)
  simp [execOp, ho, resolve, invoke, builtin, hs, hx, hrun, Result.andThen]
end Go.Proofs.Ytmchjmcdlapegaa
