/-
  The texts TNode, one behind the other.
-/
import Derived.Test.YtjodhagjfjgbcaaLeavesM5
import Derived.Test.YtjodhagjfjgbcaaLeavesM2
import Derived.Test.YtjodhagjfjgbcaaLeavesM4
import Derived.Test.YtjodhagjfjgbcaaCInts
import Derived.Laws.StructEq
import Derived.Stop.BytesEq
import Derived.OwnWalkIn
import Derived.Deep.Quiet
/-
  Blocks of a tree (tree.Node) as cells: written out, in memory, held against each other, handed back; names (api.Root) likewise; laws for the walk, in a round over a function too.
-/
namespace Go.Proofs.Ytjodhagjfjgbcaa
open Go.RowKit
set_option maxRecDepth 10000

theorem sizeU8t (w : World) : (sizeOf 5).run Try.prog w = .ok 1 w := by kernel_rfl
theorem Try.sizeRoot : (Try.prog.info? 24).map (·.size) = some 32 := by kernel_rfl
theorem rsize {l : List UInt8} (h : l.length = 32) : (Try.prog.info? 24).map (·.size) = some (bv l).length := by rw [bv_length, h]; exact Try.sizeRoot

theorem bv_inj {l r : List UInt8} (h : bv l = bv r) : l = r := by
  apply List.ext_getElem?
  intro i
  have hi := congrArg (fun l => l[i]?) h
  simp only [bv, List.getElem?_map] at hi
  cases ht : l[i]? with
  | none =>
    cases hu : r[i]? with
    | none => rfl
    | some c => rw [ht, hu] at hi; simp at hi
  | some c =>
    cases hu : r[i]? with
    | none => rw [ht, hu] at hi; simp at hi
    | some d =>
      rw [ht, hu] at hi
      simp at hi
      exact congrArg some (UInt8.toNat_inj.1 (by omega))

/-- A block's cells: name, slot, parent's place. -/
def ndv (n : Nd) : List Value := bv n.1 ++ [.int .i64 n.2.1, .int .i64 n.2.2]
def nv (t : List Nd) : List Value := t.flatMap ndv
def Nds (t : List Nd) : Prop := ∀ n ∈ t, n.1.length = 32
theorem Good.nds {t : List Nd} {most : Int} (G : Good t most) : Nds t := fun n hn => G.len n.1 (List.mem_map.2 ⟨n, hn, rfl⟩)
theorem ndv_length {n : Nd} (h : n.1.length = 32) : (ndv n).length = 34 := by simp [ndv, bv_length, h]
theorem nv_append (a b : List Nd) : nv (a ++ b) = nv a ++ nv b := by simp [nv]
theorem nv_sole (n : Nd) : nv [n] = ndv n := by simp [nv]
theorem ndv_one (n : Nd) : ∀ v ∈ ndv n, v.oneCell' = true := by
  intro v hv
  simp only [ndv, List.mem_append, List.mem_cons, List.not_mem_nil, or_false] at hv
  rcases hv with h | rfl | rfl
  · exact bv_one _ v h
  · rfl
  · rfl
theorem nv_one (t : List Nd) : ∀ v ∈ nv t, v.oneCell' = true := by
  intro v hv
  rw [nv, List.mem_flatMap] at hv
  obtain ⟨x, _, h⟩ := hv
  exact ndv_one x v h
theorem nv_length : ∀ (t : List Nd), Nds t → (nv t).length = t.length * 34
  | [], _ => rfl
  | x :: l, h => by
    have h1 := nv_length l (fun y hy => h y (List.mem_cons_of_mem _ hy))
    have h2 := ndv_length (h x List.mem_cons_self)
    rw [nv, List.flatMap_cons, List.length_append, h2, ← nv, h1, List.length_cons]
    omega
theorem nv_at : ∀ (t : List Nd) (i j : Nat) (n : Nd), Nds t → t[i]? = some n → j < 34 → (nv t)[i * 34 + j]? = (ndv n)[j]?
  | [], i, j, x, _, h, _ => by simp at h
  | y :: l, 0, j, x, hT, h, hj => by
    simp at h
    subst h
    rw [nv, List.flatMap_cons, Nat.zero_mul, Nat.zero_add, List.getElem?_append_left (by rw [ndv_length (hT y List.mem_cons_self)]; exact hj)]
  | y :: l, i + 1, j, x, hT, h, hj => by
    have hx := ndv_length (hT y List.mem_cons_self)
    rw [nv, List.flatMap_cons, List.getElem?_append_right (by rw [hx]; omega), hx, show (i + 1) * 34 + j - 34 = i * 34 + j by omega, ← nv]
    exact nv_at l i j x (fun z hz => hT z (List.mem_cons_of_mem _ hz)) (by simpa using h) hj
theorem Lies.node {w : World} {B b off : Nat} {ao : Option Addr} {t : List Nd} (h : Lies w B ao b off (nv t)) (hT : Nds t) {i : Nat} {n : Nd} (hi : t[i]? = some n) : ∀ j v, (ndv n)[j]? = some v → w.cell? ⟨b, off + i * 34 + j, none⟩ = some v := fun j v hj => by
  have hjl : j < 34 := by
    have := (List.getElem?_eq_some_iff.1 hj).1
    rwa [ndv_length (hT n (List.mem_of_getElem? hi))] at this
  rw [Nat.add_assoc]
  exact h.cells _ v ((nv_at t i j n hT hi hjl).trans hj)
theorem Lies.node_addr {w : World} {B b off : Nat} {ao : Option Addr} {t : List Nd} (h : Lies w B ao b off (nv t)) (hT : Nds t) {i : Nat} {n : Nd} (hi : t[i]? = some n) : ao = some ⟨b, off, none⟩ := h.addr (by
  have := (List.getElem?_eq_some_iff.1 hi).1
  rw [nv_length t hT]; omega)
theorem ndv_name {n : Nd} {j : Nat} {v : Value} (hj : (bv n.1)[j]? = some v) : (ndv n)[j]? = some v := by
  have := (List.getElem?_eq_some_iff.1 hj).1
  rw [ndv, List.getElem?_append_left this]; exact hj
theorem ndv_slot {n : Nd} (h : n.1.length = 32) : (ndv n)[32]? = some (.int .i64 n.2.1) := by
  rw [ndv, List.getElem?_append_right (by rw [bv_length, h]; omega), bv_length, h]; rfl
theorem ndv_parent {n : Nd} (h : n.1.length = 32) : (ndv n)[33]? = some (.int .i64 n.2.2) := by
  rw [ndv, List.getElem?_append_right (by rw [bv_length, h]; omega), bv_length, h]; rfl

def nplace : Array (Nat × Nat) := #[(0, 32), (32, 1), (33, 1)]
def nd0 : Nd := (zero32, 0, 0)
theorem node_parts0 : Try.prog.built 51 = fun parts => Go.Instr.fill (fun x => nplace[x]?) (ndv nd0).toArray parts := by kernel_rfl
theorem ndv_set32 (n : Nd) (h : n.1.length = 32) (x : Int) : (ndv n).set 32 (.int .i64 x) = ndv (n.1, x, n.2.2) := by
  rw [ndv, List.set_append_right _ _ (by rw [bv_length, h]; omega), bv_length, h]; rfl
theorem ndv_set33 (n : Nd) (h : n.1.length = 32) (x : Int) : (ndv n).set 33 (.int .i64 x) = ndv (n.1, n.2.1, x) := by
  rw [ndv, List.set_append_right _ _ (by rw [bv_length, h]; omega), bv_length, h]; rfl
/-- 'Node{Root: r, Slot: s, Parent: p}' -/
theorem built_node (r : List UInt8) (s p : Int) (hr : r.length = 32) : Try.prog.built 51 [(0, .agg (bv r).toArray), (1, .int .i64 s), (2, .int .i64 p)] = some (ndv (r, s, p)).toArray := by
  rw [node_parts0]
  have e1 := fill_step (place := fun x => nplace[x]?) (z := ndv nd0) (j := 0) (off := 0) (size := 32) (v := .agg (bv r).toArray) (rest := [(1, .int .i64 s), (2, .int .i64 p)]) rfl (by simp [Value.cells, bv_length, hr]) (by simp [ndv, nd0, zero32, bv_length])
  have e2 := fill_step (place := fun x => nplace[x]?) (z := ndv (r, 0, 0)) (j := 1) (off := 32) (size := 1) (v := .int .i64 s) (rest := [(2, .int .i64 p)]) rfl rfl (by rw [ndv_length hr]; omega)
  have e3 := fill_step (place := fun x => nplace[x]?) (z := ndv (r, s, 0)) (j := 2) (off := 33) (size := 1) (v := .int .i64 p) (rest := []) rfl rfl (by rw [ndv_length hr]; omega)
  have s1 : splice (ndv nd0) 0 (Value.agg (bv r).toArray).cells.toList = ndv (r, 0, 0) := by
    rw [show (Value.agg (bv r).toArray).cells.toList = bv r by simp [Value.cells]]
    simp only [splice, bv_length, hr, List.take_zero, List.nil_append, Nat.zero_add]
    rw [ndv, ndv, List.drop_append, List.drop_of_length_le (by simp [bv_length, nd0, zero32])]
    simp [bv_length, nd0, zero32]
  have s2 : splice (ndv (r, 0, 0)) 32 (Value.int .i64 s).cells.toList = ndv (r, s, 0) := by
    rw [show (Value.int .i64 s).cells.toList = [.int .i64 s] from rfl, splice_one _ _ _ (by rw [ndv_length hr]; omega), ndv_set32 _ hr]
  have s3 : splice (ndv (r, s, 0)) 33 (Value.int .i64 p).cells.toList = ndv (r, s, p) := by
    rw [show (Value.int .i64 p).cells.toList = [.int .i64 p] from rfl, splice_one _ _ _ (by rw [ndv_length hr]; omega), ndv_set33 _ hr]
  rw [s1] at e1; rw [s2] at e2; rw [s3] at e3
  exact e1.trans (e2.trans e3)
/-- 'Node{Parent: p}' -/
theorem built_none (p : Int) : Try.prog.built 51 [(2, .int .i64 p)] = some (ndv (zero32, 0, p)).toArray := by
  rw [node_parts0]
  have e3 := fill_step (place := fun x => nplace[x]?) (z := ndv nd0) (j := 2) (off := 33) (size := 1) (v := .int .i64 p) (rest := []) rfl rfl (by simp [ndv, nd0, zero32, bv_length])
  rw [show (Value.int .i64 p).cells.toList = [.int .i64 p] from rfl, splice_one _ _ _ (by simp [ndv, nd0, zero32, bv_length]), ndv_set33 _ (by simp [nd0, zero32])] at e3
  exact e3

theorem Try.sizeNode : (Try.prog.info? 51).map (·.size) = some 34 := by kernel_rfl
theorem Try.infoNode : (Try.prog.info? 51).map (fun i => (i.zero, i.size, i.bytes)) = some (some (.agg (ndv nd0).toArray), 34, 48) := by kernel_rfl
theorem Try.infoRootB : (Try.prog.info? 24).map (fun i => (i.zero, i.size, i.bytes)) = some (some (.agg (bv zero32).toArray), 32, 32) := by kernel_rfl
theorem nsize {n : Nd} (h : n.1.length = 32) : (Try.prog.info? 51).map (·.size) = some (ndv n).length := by rw [ndv_length h]; exact Try.sizeNode
theorem Try.aggNode (w : World) : (isAgg 51).run Try.prog w = .ok true w := by
  unfold isAgg
  rw [Sem.run_bind, run_underlying Try.underlying51 w]
  rfl
theorem Try.aggRoot (w : World) : (isAgg 24).run Try.prog w = .ok true w := by
  unfold isAgg
  rw [Sem.run_bind, run_underlying Try.underlying24 w]
  rfl
theorem Try.fieldsNode : Try.prog.underlying 51 = some (.struct (Try.prog.fieldsOf 51)) := by kernel_rfl
theorem Try.heldNode : Try.prog.stoodInHeld 51 = false := by kernel_rfl

/-- Names held against each other. -/
theorem root_eqT (w : World) (r s : List UInt8) (hr : r.length = 32) (hs : s.length = 32) : (Op.equalIn 9999 24 (.agg (bv r).toArray) (.agg (bv s).toArray)).run Try.prog w = .ok (r == s) w :=
  run_equalIn_bytes (P := Try.prog) w 9997 24 5 32 Try.underlying24 Try.underlying5 sizeU8t r s hr hs
theorem root_eqW (w : World) (r s : List UInt8) (hr : r.length = 32) (hs : s.length = 32) : (Op.equalIn 10000 24 (.agg (bv r).toArray) (.agg (bv s).toArray)).run Try.prog w = .ok (r == s) w :=
  run_equalIn_bytes (P := Try.prog) w 9998 24 5 32 Try.underlying24 Try.underlying5 sizeU8t r s hr hs
attribute [local go_sem] root_eqW

theorem npart_cells (x : Nd) (hx : x.1.length = 32) (w : World) : (part 24 (ndv x).toArray 0).run Try.prog w = .ok (.agg (bv x.1).toArray) w := by
  have hs : (sizeOf 24).run Try.prog w = .ok 32 w := by
    have hz := Try.sizeRoot
    cases hq : Try.prog.info? 24 with
    | none => rw [hq] at hz; cases hz
    | some i => rw [hq] at hz; simp at hz; simp [sizeOf, typeInfo, hq, hz]
  simp only [part, Sem.run_bind, Try.aggRoot, Result.andThen_ok, if_true, hs]
  have hb : (bv x.1).length = 32 := by rw [bv_length, hx]
  simp [ndv, hb]

/-- Two blocks held against each other. -/
theorem node_eq (w : World) (x y : Nd) (hx : x.1.length = 32) (hy : y.1.length = 32) :
    (Op.equalIn 10000 51 (.agg (ndv x).toArray) (.agg (ndv y).toArray)).run Try.prog w = .ok (x == y) w := by
  rw [run_equalIn_struct w 9999 51 _ _ Try.fieldsNode Try.heldNode]
  have p1 : ∀ z : Nd, z.1.length = 32 → (part 3 (ndv z).toArray 32).run Try.prog w = .ok (.int .i64 z.2.1) w := fun z hz => by
    have := ndv_slot hz
    simp [part, isAgg, run_underlying Try.underlying3, this]
  have p2 : ∀ z : Nd, z.1.length = 32 → (part 3 (ndv z).toArray 33).run Try.prog w = .ok (.int .i64 z.2.2) w := fun z hz => by
    have := ndv_parent hz
    simp [part, isAgg, run_underlying Try.underlying3, this]
  have e1 : (Op.equalIn 9999 3 (.int .i64 x.2.1) (.int .i64 y.2.1)).run Try.prog w = .ok (x.2.1 == y.2.1) w := run_equalIn_int (P := Try.prog) w 9998 3 .i64 .i64 x.2.1 y.2.1 Try.underlying3
  have e2 : (Op.equalIn 9999 3 (.int .i64 x.2.2) (.int .i64 y.2.2)).run Try.prog w = .ok (x.2.2 == y.2.2) w := run_equalIn_int (P := Try.prog) w 9998 3 .i64 .i64 x.2.2 y.2.2 Try.underlying3
  have e3 : (Op.equalIn 9999 24 (.agg (bv x.1).toArray) (.agg (bv y.1).toArray)).run Try.prog w = .ok (x.1 == y.1) w := root_eqT w x.1 y.1 hx hy
  simp only [Program.fieldsOf, Try.underlying51, Op.eqFields]
  rw [if_pos (by decide), if_pos (by decide), if_pos (by decide)]
  have hxy : (x == y) = ((x.1 == y.1) && (x.2.1 == y.2.1) && (x.2.2 == y.2.2)) := by
    obtain ⟨a, s, T⟩ := x
    obtain ⟨b, t, U⟩ := y
    rw [Bool.eq_iff_iff]
    simp only [beq_iff_eq, Bool.and_eq_true, Prod.mk.injEq]
    constructor
    · rintro ⟨rfl, rfl, rfl⟩; exact ⟨⟨rfl, rfl⟩, rfl⟩
    · rintro ⟨⟨h1, h2⟩, h3⟩; exact ⟨h1, h2, h3⟩
  rw [hxy]
  simp only [Sem.run_bind, npart_cells x hx, npart_cells y hy, e3, Result.andThen_ok]
  cases h1 : (x.1 == y.1) with
  | false => simp
  | true =>
    simp only [Bool.not_true, Bool.false_eq_true, if_false, Sem.run_bind, p1 x hx, p1 y hy, e1, Result.andThen_ok, Bool.true_and]
    cases h2 : (x.2.1 == y.2.1) with
    | false => simp
    | true =>
      simp only [Bool.not_true, Bool.false_eq_true, if_false, Sem.run_bind, p2 x hx, p2 y hy, e2, Result.andThen_ok, Bool.true_and]
      cases h3 : (x.2.2 == y.2.2) <;> simp

theorem run_load_node {w : World} {g off : Nat} {n : Nd} (hl : n.1.length = 32) (hc : ∀ j v, (ndv n)[j]? = some v → w.cell? ⟨g, off + j, none⟩ = some v) :
    (Instr.loadAt 51 (.pointer (some ⟨g, off, none⟩))).run Try.prog w = .ok (.agg (ndv n).toArray) w := run_loadAt_agg hc 51 Try.aggNode (nsize hl)
theorem run_load_root {w : World} {g off : Nat} {r : List UInt8} (hl : r.length = 32) (hc : ∀ j v, (bv r)[j]? = some v → w.cell? ⟨g, off + j, none⟩ = some v) :
    (Instr.loadAt 24 (.pointer (some ⟨g, off, none⟩))).run Try.prog w = .ok (.agg (bv r).toArray) w := run_loadAt_agg hc 24 Try.aggRoot (rsize hl)
theorem Blk.nodeAll {w : World} {g : Nat} {ty : TypeId} {n : Nd} (h : Blk w g ty (ndv n)) : ∀ j v, (ndv n)[j]? = some v → w.cell? ⟨g, 0 + j, none⟩ = some v := fun j v hj => by rw [Nat.zero_add, h.cell j]; exact hj
theorem Blk.rootAll {w : World} {g : Nat} {ty : TypeId} {r : List UInt8} (h : Blk w g ty (bv r)) : ∀ j v, (bv r)[j]? = some v → w.cell? ⟨g, 0 + j, none⟩ = some v := fun j v hj => by rw [Nat.zero_add, h.cell j]; exact hj
theorem Blk.nodeName {w : World} {g : Nat} {ty : TypeId} {n : Nd} (h : Blk w g ty (ndv n)) : ∀ j v, (bv n.1)[j]? = some v → w.cell? ⟨g, 0 + j, none⟩ = some v := fun j v hj => h.nodeAll j v (ndv_name hj)
theorem Blk.nodeSlot {w : World} {g : Nat} {ty : TypeId} {n : Nd} (h : Blk w g ty (ndv n)) (hl : n.1.length = 32) : w.cell? ⟨g, 32, none⟩ = some (.int .i64 n.2.1) := by rw [h.cell 32]; exact ndv_slot hl
theorem Blk.nodeParent {w : World} {g : Nat} {ty : TypeId} {n : Nd} (h : Blk w g ty (ndv n)) (hl : n.1.length = 32) : w.cell? ⟨g, 33, none⟩ = some (.int .i64 n.2.2) := by rw [h.cell 33]; exact ndv_parent hl

section
variable {ops : Array Oper} {rest : List Oper} {o : Oper} {a : Act} {w : World} {Q : Exit → Act → World → Prop}
/-- A block out of memory. -/
theorem wpList_load_node (y : Operand) (ho : o.op = .load 51 y) (hgd : Region.wanted o (yielded ops a.tmps) = true)
    (g off : Nat) (n : Nd) (hx : a.eval y = .pointer (some ⟨g, off, none⟩)) (hl : n.1.length = 32) (hc : ∀ j v, (ndv n)[j]? = some v → w.cell? ⟨g, off + j, none⟩ = some v)
    (h : wpList Try.prog ops Q rest (a.put o.dst (.agg (ndv n).toArray)) w) : wpList Try.prog ops Q (o :: rest) a w := by
  refine wpList_step fun K hK => ?_
  rw [if_pos hgd]
  unfold Oper.wp execOp
  simp only [ho, hx, Sem.run_bind, run_load_node hl hc, Result.andThen_ok]
  exact hK _ _ h
/-- A name out of memory. -/
theorem wpList_load_name (y : Operand) (ho : o.op = .load 24 y) (hgd : Region.wanted o (yielded ops a.tmps) = true)
    (g off : Nat) (r : List UInt8) (hx : a.eval y = .pointer (some ⟨g, off, none⟩)) (hl : r.length = 32) (hc : ∀ j v, (bv r)[j]? = some v → w.cell? ⟨g, off + j, none⟩ = some v)
    (h : wpList Try.prog ops Q rest (a.put o.dst (.agg (bv r).toArray)) w) : wpList Try.prog ops Q (o :: rest) a w := by
  refine wpList_step fun K hK => ?_
  rw [if_pos hgd]
  unfold Oper.wp execOp
  simp only [ho, hx, Sem.run_bind, run_load_root hl hc, Result.andThen_ok]
  exact hK _ _ h
/-- A block into one that holds one. -/
theorem wpList_store_node (x y : Operand) (ho : o.op = .store 51 x y) (hgd : o.guard = none)
    (g : Nat) (n n' : Nd) (hx : a.eval x = .pointer (some ⟨g, 0, none⟩)) (hy : a.eval y = .agg (ndv n').toArray) (hg : Blk w g 51 (ndv n)) (hl : n.1.length = 32) (hl' : n'.1.length = 32)
    (h : wpList Try.prog ops Q rest (a.put o.dst undef) (w.setRow g (ndv n').toArray)) : wpList Try.prog ops Q (o :: rest) a w := by
  refine wpList_store_part hgd 51 x y ho g 0 (ndv n') hx hy 51 (ndv n) hg (nsize hl') (by rw [ndv_length hl, ndv_length hl']; omega) (ndv_one _) ?_
  rw [splice_all _ _ (by rw [ndv_length hl, ndv_length hl'])]
  exact h
/-- A name into a block that holds one. -/
theorem wpList_store_name (x y : Operand) (ho : o.op = .store 24 x y) (hgd : o.guard = none)
    (g : Nat) (r r' : List UInt8) (hx : a.eval x = .pointer (some ⟨g, 0, none⟩)) (hy : a.eval y = .agg (bv r').toArray) (hg : Blk w g 24 (bv r)) (hl : r.length = 32) (hl' : r'.length = 32)
    (h : wpList Try.prog ops Q rest (a.put o.dst undef) (w.setRow g (bv r').toArray)) : wpList Try.prog ops Q (o :: rest) a w := by
  refine wpList_store_part hgd 24 x y ho g 0 (bv r') hx hy 24 (bv r) hg (rsize hl') (by rw [bv_length, bv_length]; omega) (bv_one _) ?_
  rw [splice_all _ _ (by rw [bv_length, bv_length, hl, hl'])]
  exact h
theorem wpList_build_any (ty : TypeId) (parts : Array (Nat × Operand)) (ho : o.op = .build ty parts) (hgd : Region.wanted o (yielded ops a.tmps) = true)
    (cells : Array Value) (hb : Try.prog.built ty (parts.map fun (i, x) => (i, a.eval x)).toList = some cells) (h : wpList Try.prog ops Q rest (a.put o.dst (.agg cells)) w) : wpList Try.prog ops Q (o :: rest) a w := by
  refine wpList_step fun K hK => ?_
  rw [if_pos hgd]
  unfold Oper.wp execOp
  simp only [ho, Sem.run_bind, run_build w ty _ cells hb, Result.andThen_ok]
  exact hK _ _ h
theorem wpList_build_l (ty : TypeId) (parts : Array (Nat × Operand)) (pl : List (Nat × Value)) (cells : Array Value) (hb : Try.prog.built ty pl = some cells) (ho : o.op = .build ty parts) (hgd : Region.wanted o (yielded ops a.tmps) = true)
    (hpl : (parts.toList.map fun x => (x.1, a.eval x.2)) = pl) (h : wpList Try.prog ops Q rest (a.put o.dst (.agg cells)) w) : wpList Try.prog ops Q (o :: rest) a w :=
  wpList_build_any ty parts ho hgd cells (by rw [Array.toList_map]; exact (congrArg (Try.prog.built ty) hpl).trans hb) h
theorem Try.eqGuardNode : Try.prog.eqGuardType Try.prog.depth 51 = false := by kernel_rfl
theorem run_neq_node (w : World) (xo yo : Operand) (x y : Nd) (hx : x.1.length = 32) (hy : y.1.length = 32) :
    (do eqGuard .neq 51 xo yo (.agg (ndv x).toArray) (.agg (ndv y).toArray); binOp .neq 51 (.agg (ndv x).toArray) (.agg (ndv y).toArray)).run Try.prog w = .ok (.bool (!(x == y))) w := by
  simp only [Sem.run_bind, run_eqGuard_agg w .neq 51 xo yo _ _ Try.eqGuardNode, Result.andThen_ok, run_neq_struct, node_eq w x y hx hy]
theorem wpList_neq_node (xo yo : Operand) (ty : TypeId) (ho : o.op = .binOp .neq 51 xo yo ty) (hgd : Region.wanted o (yielded ops a.tmps) = true)
    (x y : Nd) (ex : a.eval xo = .agg (ndv x).toArray) (ey : a.eval yo = .agg (ndv y).toArray) (hx : x.1.length = 32) (hy : y.1.length = 32)
    (h : wpList Try.prog ops Q rest (a.put o.dst (.bool (!(x == y)))) w) : wpList Try.prog ops Q (o :: rest) a w := by
  refine wpList_step fun K hK => ?_
  rw [if_pos hgd]
  have hr := run_neq_node w xo yo x y hx hy
  unfold Oper.wp execOp
  simp only [ho, ex, ey]
  rw [Sem.run_bind, hr]
  exact hK _ _ h
end

/-- One operation of a region that only reads, by what it yields in each world of the class. -/
theorem wpQuiet_run {P : Program} {C : World → Prop} {ops : Array Oper} {rest : List Oper} {o : Oper} {a : Act} {Q : Act → Prop} (hgd : Region.wanted o (yielded ops a.tmps) = true) (v : Value)
    (hrun : ∀ w, C w → (execOp a.eval o).run P w = .ok (.value v) w) (h : wpQuiet P ops C Q rest (a.put o.dst v)) : wpQuiet P ops C Q (o :: rest) a := by
  refine wpQuiet_step fun K hK => ?_
  rw [if_pos hgd]
  refine ⟨v, fun w hw => ?_, hK _ h⟩
  unfold Oper.quietAt
  rw [hrun w hw]
  exact ⟨rfl, rfl⟩
/-- .. a name out of memory. -/
theorem wpQuiet_load_name {C : World → Prop} {ops : Array Oper} {rest : List Oper} {o : Oper} {a : Act} {Q : Act → Prop} (y : Operand) (ho : o.op = .load 24 y) (hgd : Region.wanted o (yielded ops a.tmps) = true)
    (g off : Nat) (r : List UInt8) (hx : a.eval y = .pointer (some ⟨g, off, none⟩)) (hl : r.length = 32) (hc : ∀ w, C w → ∀ j v, (bv r)[j]? = some v → w.cell? ⟨g, off + j, none⟩ = some v)
    (h : wpQuiet Try.prog ops C Q rest (a.put o.dst (.agg (bv r).toArray))) : wpQuiet Try.prog ops C Q (o :: rest) a := by
  refine wpQuiet_run hgd (.agg (bv r).toArray) (fun w hw => ?_) h
  unfold execOp
  simp only [ho, hx, Sem.run_bind, run_load_root hl (hc w hw), Result.andThen_ok]
  rfl

/-- An answer that lies in a block: a block of the tree, and a Boolean. -/
theorem ret_node {fn : Func} {p u : Tmp} (h : fn.results = #[.cell p 51, .tmp u]) {a : Act} {w : World} {g : Nat} {n : Nd} (hp : a.tmps.getD p undef = .pointer (some ⟨g, 0, none⟩)) (hg : Blk w g 51 (ndv n)) (hl : n.1.length = 32) (hd : a.defers = [])
    {R : Ending → World → Prop} (hR : R (.returned (.tuple #[.agg (ndv n).toArray, a.tmps.getD u undef])) w) : bodyPost Try.prog fn R .ret a w := by
  refine bodyPost_ret ?_ hd hR
  rw [results_cell_tmp h, hp]
  have hlo := run_load_node (w := w) (g := g) (off := 0) hl hg.nodeAll
  simp only [Instr.loadAt, Instr.sureAddr, Sem.run_bind, Sem.run_pure, Result.andThen] at hlo
  simp only [asAddr, Sem.run_pure, Result.andThen_ok]
  rw [hlo]
  rfl
/-- .. a name. -/
theorem ret_name {fn : Func} {p : Tmp} (h : fn.results = #[.cell p 24]) {a : Act} {w : World} {g : Nat} {r : List UInt8} (hp : a.tmps.getD p undef = .pointer (some ⟨g, 0, none⟩)) (hg : Blk w g 24 (bv r)) (hl : r.length = 32) (hd : a.defers = [])
    {R : Ending → World → Prop} (hR : R (.returned (.agg (bv r).toArray)) w) : bodyPost Try.prog fn R .ret a w := by
  refine bodyPost_ret ?_ hd hR
  rw [results_cell h, hp]
  have hlo := run_load_root (w := w) (g := g) (off := 0) hl hg.rootAll
  simp only [Instr.loadAt, Instr.sureAddr, Sem.run_bind, Sem.run_pure, Result.andThen] at hlo
  simp only [asAddr, Sem.run_pure, Result.andThen_ok]
  rw [hlo]
end Go.Proofs.Ytjodhagjfjgbcaa
