/-
  The texts OverLaws, one behind the other.
-/
import Derived.Test.YtjodhagjfjgbcaaCOver
import Derived.Test.YtjodhagjfjgbcaaCTNode
import Derived.OwnWalkIn
import Derived.TacticsInMore
import Derived.LoopNIn
import Derived.LoopIn
/-
  Laws for operations inside a fence (a round over a function, an iterator): loads of blocks and names, appends, stores.
-/
namespace Go.Proofs.Ytjodhagjfjgbcaa
open Go Go.RowKit
set_option maxRecDepth 10000

theorem wide_fn : ∀ f, Fence.wide.fn f := fun _ => trivial
theorem round_fn (l : Nat) : ∀ f, (Fence.wide.inRound l).fn f := fun _ => trivial
section
variable {P : Program} {F : Fence} {n : Nat} {ops : Array Oper} {rest : List Oper} {o : Oper} {a : Act} {w : World} {Q : Exit → Act → World → Prop}

theorem wpListIn_value (hfn : ∀ f, F.fn f) (hgd : Region.wanted o (yielded ops a.tmps) = true) (hnd : ∀ c, o.op ≠ .defer c) (v : Value) (w' : World) (hrun : (execOp a.eval o).run P w = .ok (.value v) w') (h : wpListIn F n P ops Q rest (a.put o.dst v) w') : wpListIn F n P ops Q (o :: rest) a w := by
  refine wpListIn_step fun K hK => ?_
  rw [if_pos hgd]
  refine ⟨fun f _ => hfn f, ?_⟩
  rw [Oper.semAt_plain F _ _ hnd, hrun]
  exact hK _ _ h
theorem wpListIn_skips (hfn : ∀ f, F.fn f) (hgd : Region.wanted o (yielded ops a.tmps) = true) (hnd : ∀ c, o.op ≠ .defer c) (w' : World) (hrun : (execOp a.eval o).run P w = .ok .skip w') (h : wpListIn F n P ops Q rest (a.put o.dst undef) w') : wpListIn F n P ops Q (o :: rest) a w := by
  refine wpListIn_step fun K hK => ?_
  rw [if_pos hgd]
  refine ⟨fun f _ => hfn f, ?_⟩
  rw [Oper.semAt_plain F _ _ hnd, hrun]
  exact hK _ _ h

/-- A load, by its run. -/
theorem wpListIn_load (hfn : ∀ f, F.fn f) (ty : TypeId) (y : Operand) (ho : o.op = .load ty y) (hgd : Region.wanted o (yielded ops a.tmps) = true) (p v : Value) (hx : a.eval y = p) (hr : (Instr.loadAt ty p).run P w = .ok v w)
    (h : wpListIn F n P ops Q rest (a.put o.dst v) w) : wpListIn F n P ops Q (o :: rest) a w := by
  refine wpListIn_value hfn hgd (fun c e => by rw [ho] at e; cases e) v w ?_ h
  unfold execOp
  simp only [ho, hx, Sem.run_bind, hr, Result.andThen_ok]
  rfl
/-- A store, by its run. -/
theorem wpListIn_store (hfn : ∀ f, F.fn f) (ty : TypeId) (x y : Operand) (ho : o.op = .store ty x y) (hgd : Region.wanted o (yielded ops a.tmps) = true) (p v : Value) (w' : World) (hx : a.eval x = p) (hy : a.eval y = v) (hr : (Instr.storeAt ty p v).run P w = .ok () w')
    (h : wpListIn F n P ops Q rest (a.put o.dst undef) w') : wpListIn F n P ops Q (o :: rest) a w := by
  refine wpListIn_skips hfn hgd (fun c e => by rw [ho] at e; cases e) w' ?_ h
  unfold execOp
  simp only [ho, hx, hy, Sem.run_bind, hr, Result.andThen_ok]
  rfl
/-- append. -/
theorem wpListIn_append_wide {k : Nat} (hfn : ∀ f, F.fn f) (hgd : Region.wanted o (yielded ops a.tmps) = true) (s x : Operand) (t tx : TypeId)
    (ho : o.op = .call { callee := .builtin .append, args := #[s, x], argTypes := #[t, tx] })
    {base : Nat} {v : Value} {xs : List Value} (hs : a.eval s = v) (h : Wide k w base v xs) (hk : 0 < k) (e : TypeId) (i : TypeInfo) (z : Value) (bytes : Nat)
    (ht : P.underlying t = some (.slice e)) (hi : P.info? e = some i) (hz : i.zero = some z) (hsize : i.size = k) (hby : i.bytes = bytes) (hzs : z.cells.size = k)
    (u : Value) (hx : a.eval x = u) (m : Nat) (news : List Value) (hsrc : Src P k tx u m news w) (hfit : xs.length + m ≤ maxLen) (hbytes : (xs.length + m) * bytes ≤ 140737488355328) (hbase : base ≤ w.heap.size)
    (hK : ∀ v' w', Wide k w' base v' (xs ++ news) → Grew w v w' v' → wpListIn F n P ops Q rest (a.put o.dst v') w') : wpListIn F n P ops Q (o :: rest) a w := by
  obtain ⟨v', w', hrun, r1, r2, _⟩ := h.append (P := P) hk t tx o.type e i z bytes ht hi hz hsize hby hzs u m news hsrc hfit hbytes hbase
  refine wpListIn_value hfn hgd (fun c e => by rw [ho] at e; cases e) v' w' ?_ (hK v' w' r1 r2)
  simp [execOp, ho, resolve, invoke, builtin, hs, hx, hrun, Result.andThen]
/-- A struct of one element written out as a slice. -/
theorem wpListIn_build_row (hfn : ∀ f, F.fn f) (hgd : Region.wanted o (yielded ops a.tmps) = true) (t e : TypeId) (x : Operand) (ho : o.op = .buildSlice t 1 #[(0, x)]) (r : List Value) (hx : a.eval x = .agg r.toArray)
    (ie : TypeInfo) (z : Value) {s : Nat} (hs : 0 < s) (hr : r.length = s) (hu : P.underlying t = some (.slice e)) (hie : P.info? e = some ie) (hz : ie.zero = some z) (hsz : ie.size = s) (hsmall : 1 * s ≤ 2 ^ 24)
    (h : wpListIn F n P ops Q rest (a.put o.dst (.slice (some ⟨w.heap.size, 0, none⟩) 1 1)) (w.alloc (.cells r.toArray e))) : wpListIn F n P ops Q (o :: rest) a w := by
  refine wpListIn_value hfn hgd (fun c e => by rw [ho] at e; cases e) (.slice (some ⟨w.heap.size, 0, none⟩) 1 1) (w.alloc (.cells r.toArray e)) ?_ h
  have := run_build_rows (P := P) w t e 1 #[(0, .agg r.toArray)] ie z hs [r] (fun y hy => by simp at hy; rw [hy]; exact hr) hu hie hz hsz rfl (by omega) hsmall rfl
  rw [show ([r] : List (List Value)).flatten = r by simp] at this
  unfold execOp
  simp only [ho, List.map_toArray, List.map_cons, List.map_nil, hx, Sem.run_bind, this, Result.andThen_ok]
  rfl
end

theorem run_store_node {w : World} {g : Nat} {n n' : Nd} (hg : Blk w g 51 (ndv n)) (hl : n.1.length = 32) (hl' : n'.1.length = 32) :
    (Instr.storeAt 51 (.pointer (some ⟨g, 0, none⟩)) (.agg (ndv n').toArray)).run Try.prog w = .ok () (w.setRow g (ndv n').toArray) := by
  have := run_storeAt_part (P := Try.prog) (off := 0) hg 51 (cs := ndv n') (nsize hl') (by rw [ndv_length hl, ndv_length hl']; omega) (ndv_one _)
  rw [splice_all _ _ (by rw [ndv_length hl, ndv_length hl'])] at this
  exact this
end Go.Proofs.Ytjodhagjfjgbcaa
