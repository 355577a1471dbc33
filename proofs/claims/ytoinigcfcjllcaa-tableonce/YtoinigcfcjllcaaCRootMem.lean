/-
  The texts RootMem, one behind the other.
-/
import Derived.Test.YtoinigcfcjllcaaOnceM1
import Derived.Test.YtoinigcfcjllcaaOnceM3
import Derived.Test.YtoinigcfcjllcaaOnceM4
import Derived.Test.YtoinigcfcjllcaaOnceM5
import Derived.Laws.StructEq
import Derived.Stop.BytesEq
import Derived.OwnWalkIn
import Derived.Deep.Quiet
/-
  Names (api.Root) as cells: in memory, held against each other, handed back; laws for the walk.
-/
namespace Go.Proofs.Ytoinigcfcjllcaa
open Go.RowKit
set_option maxRecDepth 10000

theorem Try.cellsRoot : Try.prog.cellsOf 27 = 32 := by kernel_rfl
theorem Try.cellsU8 : Try.prog.cellsOf 5 = 1 := by kernel_rfl
theorem mapM_range {α : Type} {f : Nat → Option α} {g : Nat → α} : ∀ (l : List Nat), (∀ i ∈ l, f i = some (g i)) → l.mapM f = some (l.map g)
  | [], _ => rfl
  | i :: l, h => by
    rw [List.mapM_cons, h i List.mem_cons_self, mapM_range l (fun j hj => h j (List.mem_cons_of_mem _ hj))]
    rfl
theorem flat_ones {α : Type} : ∀ l : List α, (l.map fun x => [x]).flatten = l
  | [] => rfl
  | a :: r => by simp [flat_ones r]
theorem u8_wf (b : UInt8) : (Lit.int .u8 (b.toNat : Int)).wf = true := by
  have := b.toNat_lt
  simp [Lit.wf, IntKind.min, IntKind.max, IntKind.bits, IntKind.signed]
  omega

theorem sizeU8t (w : World) : (sizeOf 5).run Try.prog w = .ok 1 w := by kernel_rfl
theorem Try.sizeRoot : (Try.prog.info? 27).map (·.size) = some 32 := by kernel_rfl
theorem rsize {l : List UInt8} (h : l.length = 32) : (Try.prog.info? 27).map (·.size) = some (bv l).length := by rw [bv_length, h]; exact Try.sizeRoot

theorem bv_inj {l r : List UInt8} (h : bv l = bv r) : l = r := by
  apply List.ext_getElem?
  intro i
  have hi := congrArg (fun l => l[i]?) h
  simp only [bv, List.getElem?_map] at hi
  cases ht : l[i]? with
  | none =>
    cases hu : r[i]? with
    | none => rfl
    | some c => rw [ht, hu] at hi; simp at hi
  | some c =>
    cases hu : r[i]? with
    | none => rw [ht, hu] at hi; simp at hi
    | some d =>
      rw [ht, hu] at hi
      simp at hi
      exact congrArg some (UInt8.toNat_inj.1 (by omega))

theorem Try.infoRootB : (Try.prog.info? 27).map (fun i => (i.zero, i.size, i.bytes)) = some (some (.agg (bv zero32).toArray), 32, 32) := by kernel_rfl
theorem Try.aggRoot (w : World) : (isAgg 27).run Try.prog w = .ok true w := by
  unfold isAgg
  rw [Sem.run_bind, run_underlying Try.underlying27 w]
  rfl
/-- Names held against each other. -/
theorem root_eqT (w : World) (r s : List UInt8) (hr : r.length = 32) (hs : s.length = 32) : (Op.equalIn 9999 27 (.agg (bv r).toArray) (.agg (bv s).toArray)).run Try.prog w = .ok (r == s) w :=
  run_equalIn_bytes (P := Try.prog) w 9997 27 5 32 Try.underlying27 Try.underlying5 sizeU8t r s hr hs
theorem root_eqW (w : World) (r s : List UInt8) (hr : r.length = 32) (hs : s.length = 32) : (Op.equalIn 10000 27 (.agg (bv r).toArray) (.agg (bv s).toArray)).run Try.prog w = .ok (r == s) w :=
  run_equalIn_bytes (P := Try.prog) w 9998 27 5 32 Try.underlying27 Try.underlying5 sizeU8t r s hr hs
theorem run_load_root {w : World} {g off : Nat} {r : List UInt8} (hl : r.length = 32) (hc : ∀ j v, (bv r)[j]? = some v → w.cell? ⟨g, off + j, none⟩ = some v) :
    (Instr.loadAt 27 (.pointer (some ⟨g, off, none⟩))).run Try.prog w = .ok (.agg (bv r).toArray) w := run_loadAt_agg hc 27 Try.aggRoot (rsize hl)
theorem Blk.rootAll {w : World} {g : Nat} {ty : TypeId} {r : List UInt8} (h : Blk w g ty (bv r)) : ∀ j v, (bv r)[j]? = some v → w.cell? ⟨g, 0 + j, none⟩ = some v := fun j v hj => by rw [Nat.zero_add, h.cell j]; exact hj
theorem blk_zeroR (w : World) : Blk (w.alloc (.cells #[.int .u8 0, .int .u8 0, .int .u8 0, .int .u8 0, .int .u8 0, .int .u8 0, .int .u8 0, .int .u8 0, .int .u8 0, .int .u8 0, .int .u8 0, .int .u8 0, .int .u8 0, .int .u8 0, .int .u8 0, .int .u8 0, .int .u8 0, .int .u8 0, .int .u8 0, .int .u8 0, .int .u8 0, .int .u8 0, .int .u8 0, .int .u8 0, .int .u8 0, .int .u8 0, .int .u8 0, .int .u8 0, .int .u8 0, .int .u8 0, .int .u8 0, .int .u8 0] 27)) w.heap.size 27 (bv zero32) := Blk.new w _ (bv zero32).toArray
section
variable {ops : Array Oper} {rest : List Oper} {o : Oper} {a : Act} {w : World} {Q : Exit → Act → World → Prop}
/-- A name out of memory. -/
theorem wpList_load_name (y : Operand) (ho : o.op = .load 27 y) (hgd : Region.wanted o (yielded ops a.tmps) = true)
    (g off : Nat) (r : List UInt8) (hx : a.eval y = .pointer (some ⟨g, off, none⟩)) (hl : r.length = 32) (hc : ∀ j v, (bv r)[j]? = some v → w.cell? ⟨g, off + j, none⟩ = some v)
    (h : wpList Try.prog ops Q rest (a.put o.dst (.agg (bv r).toArray)) w) : wpList Try.prog ops Q (o :: rest) a w := by
  refine wpList_step fun K hK => ?_
  rw [if_pos hgd]
  unfold Oper.wp execOp
  simp only [ho, hx, Sem.run_bind, run_load_root hl hc, Result.andThen_ok]
  exact hK _ _ h
/-- A name into a block that holds one. -/
theorem wpList_store_name (x y : Operand) (ho : o.op = .store 27 x y) (hgd : o.guard = none)
    (g : Nat) (r r' : List UInt8) (hx : a.eval x = .pointer (some ⟨g, 0, none⟩)) (hy : a.eval y = .agg (bv r').toArray) (hg : Blk w g 27 (bv r)) (hl : r.length = 32) (hl' : r'.length = 32)
    (h : wpList Try.prog ops Q rest (a.put o.dst undef) (w.setRow g (bv r').toArray)) : wpList Try.prog ops Q (o :: rest) a w := by
  refine wpList_store_part hgd 27 x y ho g 0 (bv r') hx hy 27 (bv r) hg (rsize hl') (by rw [bv_length, bv_length]; omega) (bv_one _) ?_
  rw [splice_all _ _ (by rw [bv_length, bv_length, hl, hl'])]
  exact h
theorem wpList_build_any (ty : TypeId) (parts : Array (Nat × Operand)) (ho : o.op = .build ty parts) (hgd : Region.wanted o (yielded ops a.tmps) = true)
    (cells : Array Value) (hb : Try.prog.built ty (parts.map fun (i, x) => (i, a.eval x)).toList = some cells) (h : wpList Try.prog ops Q rest (a.put o.dst (.agg cells)) w) : wpList Try.prog ops Q (o :: rest) a w := by
  refine wpList_step fun K hK => ?_
  rw [if_pos hgd]
  unfold Oper.wp execOp
  simp only [ho, Sem.run_bind, run_build w ty _ cells hb, Result.andThen_ok]
  exact hK _ _ h
theorem wpList_build_l (ty : TypeId) (parts : Array (Nat × Operand)) (pl : List (Nat × Value)) (cells : Array Value) (hb : Try.prog.built ty pl = some cells) (ho : o.op = .build ty parts) (hgd : Region.wanted o (yielded ops a.tmps) = true)
    (hpl : (parts.toList.map fun x => (x.1, a.eval x.2)) = pl) (h : wpList Try.prog ops Q rest (a.put o.dst (.agg cells)) w) : wpList Try.prog ops Q (o :: rest) a w :=
  wpList_build_any ty parts ho hgd cells (by rw [Array.toList_map]; exact (congrArg (Try.prog.built ty) hpl).trans hb) h
end
/-- One operation of a region that only reads, by what it yields in each world of the class. -/
theorem wpQuiet_run {P : Program} {C : World → Prop} {ops : Array Oper} {rest : List Oper} {o : Oper} {a : Act} {Q : Act → Prop} (hgd : Region.wanted o (yielded ops a.tmps) = true) (v : Value)
    (hrun : ∀ w, C w → (execOp a.eval o).run P w = .ok (.value v) w) (h : wpQuiet P ops C Q rest (a.put o.dst v)) : wpQuiet P ops C Q (o :: rest) a := by
  refine wpQuiet_step fun K hK => ?_
  rw [if_pos hgd]
  refine ⟨v, fun w hw => ?_, hK _ h⟩
  unfold Oper.quietAt
  rw [hrun w hw]
  exact ⟨rfl, rfl⟩
/-- .. a name out of memory. -/
theorem wpQuiet_load_name {C : World → Prop} {ops : Array Oper} {rest : List Oper} {o : Oper} {a : Act} {Q : Act → Prop} (y : Operand) (ho : o.op = .load 27 y) (hgd : Region.wanted o (yielded ops a.tmps) = true)
    (g off : Nat) (r : List UInt8) (hx : a.eval y = .pointer (some ⟨g, off, none⟩)) (hl : r.length = 32) (hc : ∀ w, C w → ∀ j v, (bv r)[j]? = some v → w.cell? ⟨g, off + j, none⟩ = some v)
    (h : wpQuiet Try.prog ops C Q rest (a.put o.dst (.agg (bv r).toArray))) : wpQuiet Try.prog ops C Q (o :: rest) a := by
  refine wpQuiet_run hgd (.agg (bv r).toArray) (fun w hw => ?_) h
  unfold execOp
  simp only [ho, hx, Sem.run_bind, run_load_root hl (hc w hw), Result.andThen_ok]
  rfl

/-- .. a name. -/
theorem ret_name {fn : Func} {p : Tmp} (h : fn.results = #[.cell p 27]) {a : Act} {w : World} {g : Nat} {r : List UInt8} (hp : a.tmps.getD p undef = .pointer (some ⟨g, 0, none⟩)) (hg : Blk w g 27 (bv r)) (hl : r.length = 32) (hd : a.defers = [])
    {R : Ending → World → Prop} (hR : R (.returned (.agg (bv r).toArray)) w) : bodyPost Try.prog fn R .ret a w := by
  refine bodyPost_ret ?_ hd hR
  rw [results_cell h, hp]
  have hlo := run_load_root (w := w) (g := g) (off := 0) hl hg.rootAll
  simp only [Instr.loadAt, Instr.sureAddr, Sem.run_bind, Sem.run_pure, Result.andThen] at hlo
  simp only [asAddr, Sem.run_pure, Result.andThen_ok]
  rw [hlo]
end Go.Proofs.Ytoinigcfcjllcaa
