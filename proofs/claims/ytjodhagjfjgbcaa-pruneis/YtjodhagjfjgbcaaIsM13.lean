/-
  The texts DlMem, DlWide, one behind the other.
-/
import Derived.Test.YtjodhagjfjgbcaaCTNode
import Derived.Test.YtjodhagjfjgbcaaIsM10
import Derived.Test.YtjodhagjfjgbcaaIsM2
/-
  Deltas (a name, a number) as cells: of the program's own type and of the document's; rows of them, in memory, written out.
-/
namespace Go.Proofs.Ytjodhagjfjgbcaa
open Go Go.RowKit
set_option maxRecDepth 10000

def dlv (d : Dl) : List Value := bv d.1 ++ [.int .i64 d.2]
def dvs (l : List Dl) : List Value := l.flatMap dlv
def Dls (l : List Dl) : Prop := ∀ d ∈ l, d.1.length = 32
theorem dlv_length {d : Dl} (h : d.1.length = 32) : (dlv d).length = 33 := by simp [dlv, bv_length, h]
theorem dvs_append (a b : List Dl) : dvs (a ++ b) = dvs a ++ dvs b := by simp [dvs]
theorem dvs_sole (d : Dl) : dvs [d] = dlv d := by simp [dvs]
theorem dlv_one (d : Dl) : ∀ v ∈ dlv d, v.oneCell' = true := by
  intro v hv
  simp only [dlv, List.mem_append, List.mem_cons, List.not_mem_nil, or_false] at hv
  rcases hv with h | rfl
  · exact bv_one _ v h
  · rfl
theorem dvs_one (l : List Dl) : ∀ v ∈ dvs l, v.oneCell' = true := by
  intro v hv
  rw [dvs, List.mem_flatMap] at hv
  obtain ⟨x, _, h⟩ := hv
  exact dlv_one x v h
theorem dvs_length : ∀ (l : List Dl), Dls l → (dvs l).length = l.length * 33
  | [], _ => rfl
  | x :: l, h => by
    have h1 := dvs_length l (fun y hy => h y (List.mem_cons_of_mem _ hy))
    have h2 := dlv_length (h x List.mem_cons_self)
    rw [dvs, List.flatMap_cons, List.length_append, h2, ← dvs, h1, List.length_cons]
    omega
theorem dvs_at : ∀ (l : List Dl) (i j : Nat) (d : Dl), Dls l → l[i]? = some d → j < 33 → (dvs l)[i * 33 + j]? = (dlv d)[j]?
  | [], i, j, x, _, h, _ => by simp at h
  | y :: l, 0, j, x, hT, h, hj => by
    simp at h
    subst h
    rw [dvs, List.flatMap_cons, Nat.zero_mul, Nat.zero_add, List.getElem?_append_left (by rw [dlv_length (hT y List.mem_cons_self)]; exact hj)]
  | y :: l, i + 1, j, x, hT, h, hj => by
    have hx := dlv_length (hT y List.mem_cons_self)
    rw [dvs, List.flatMap_cons, List.getElem?_append_right (by rw [hx]; omega), hx, show (i + 1) * 33 + j - 33 = i * 33 + j by omega, ← dvs]
    exact dvs_at l i j x (fun z hz => hT z (List.mem_cons_of_mem _ hz)) (by simpa using h) hj
theorem Lies.dl {w : World} {B b off : Nat} {ao : Option Addr} {l : List Dl} (h : Lies w B ao b off (dvs l)) (hT : Dls l) {i : Nat} {d : Dl} (hi : l[i]? = some d) : ∀ j v, (dlv d)[j]? = some v → w.cell? ⟨b, off + i * 33 + j, none⟩ = some v := fun j v hj => by
  have hjl : j < 33 := by
    have := (List.getElem?_eq_some_iff.1 hj).1
    rwa [dlv_length (hT d (List.mem_of_getElem? hi))] at this
  rw [Nat.add_assoc]
  exact h.cells _ v ((dvs_at l i j d hT hi hjl).trans hj)
theorem Lies.dl_addr {w : World} {B b off : Nat} {ao : Option Addr} {l : List Dl} (h : Lies w B ao b off (dvs l)) (hT : Dls l) {i : Nat} {d : Dl} (hi : l[i]? = some d) : ao = some ⟨b, off, none⟩ := h.addr (by
  have := (List.getElem?_eq_some_iff.1 hi).1
  rw [dvs_length l hT]; omega)
theorem dlv_name {d : Dl} {j : Nat} {v : Value} (hj : (bv d.1)[j]? = some v) : (dlv d)[j]? = some v := by
  have := (List.getElem?_eq_some_iff.1 hj).1
  rw [dlv, List.getElem?_append_left this]; exact hj
theorem dlv_num {d : Dl} (h : d.1.length = 32) : (dlv d)[32]? = some (.int .i64 d.2) := by
  rw [dlv, List.getElem?_append_right (by rw [bv_length, h]; omega), bv_length, h]; rfl
def dl0 : Dl := (zero32, 0)
theorem dl0_len : dl0.1.length = 32 := by simp [dl0, zero32]
theorem Blk.dlAll {w : World} {g : Nat} {ty : TypeId} {d : Dl} (h : Blk w g ty (dlv d)) : ∀ j v, (dlv d)[j]? = some v → w.cell? ⟨g, 0 + j, none⟩ = some v := fun j v hj => by rw [Nat.zero_add, h.cell j]; exact hj
theorem Blk.dlName {w : World} {g : Nat} {ty : TypeId} {d : Dl} (h : Blk w g ty (dlv d)) : ∀ j v, (bv d.1)[j]? = some v → w.cell? ⟨g, 0 + j, none⟩ = some v := fun j v hj => h.dlAll j v (dlv_name hj)
theorem Blk.dlNum {w : World} {g : Nat} {ty : TypeId} {d : Dl} (h : Blk w g ty (dlv d)) (hl : d.1.length = 32) : w.cell? ⟨g, 32, none⟩ = some (.int .i64 d.2) := by rw [h.cell 32]; exact dlv_num hl

def dplace : Array (Nat × Nat) := #[(0, 32), (32, 1)]
theorem dl_parts0 : Try.prog.built 73 = fun parts => Go.Instr.fill (fun x => dplace[x]?) (dlv dl0).toArray parts := by kernel_rfl
theorem dl_parts1 : Try.prog.built 74 = fun parts => Go.Instr.fill (fun x => dplace[x]?) (dlv dl0).toArray parts := by kernel_rfl
theorem dl_fill (r : List UInt8) (n : Int) (hr : r.length = 32) : Go.Instr.fill (fun x => dplace[x]?) (dlv dl0).toArray [(0, .agg (bv r).toArray), (1, .int .i64 n)] = some (dlv (r, n)).toArray := by
  have e1 := fill_step (place := fun x => dplace[x]?) (z := dlv dl0) (j := 0) (off := 0) (size := 32) (v := .agg (bv r).toArray) (rest := [(1, .int .i64 n)]) rfl (by simp [Value.cells, bv_length, hr]) (by simp [dlv, dl0, zero32, bv_length])
  have e2 := fill_step (place := fun x => dplace[x]?) (z := dlv (r, 0)) (j := 1) (off := 32) (size := 1) (v := .int .i64 n) (rest := []) rfl rfl (by rw [dlv_length hr]; omega)
  have s1 : splice (dlv dl0) 0 (Value.agg (bv r).toArray).cells.toList = dlv (r, 0) := by
    rw [show (Value.agg (bv r).toArray).cells.toList = bv r by simp [Value.cells]]
    simp only [splice, bv_length, hr, List.take_zero, List.nil_append, Nat.zero_add]
    rw [dlv, dlv, List.drop_append, List.drop_of_length_le (by simp [bv_length, dl0, zero32])]
    simp [bv_length, dl0, zero32]
  have s2 : splice (dlv (r, 0)) 32 (Value.int .i64 n).cells.toList = dlv (r, n) := by
    rw [show (Value.int .i64 n).cells.toList = [.int .i64 n] from rfl, splice_one _ _ _ (by rw [dlv_length hr]; omega)]
    rw [dlv, List.set_append_right _ _ (by rw [bv_length, hr]; omega), bv_length, hr]; rfl
  rw [s1] at e1; rw [s2] at e2
  exact e1.trans e2
theorem built_dl (r : List UInt8) (n : Int) (hr : r.length = 32) : Try.prog.built 73 [(0, .agg (bv r).toArray), (1, .int .i64 n)] = some (dlv (r, n)).toArray := by
  rw [dl_parts0]; exact dl_fill r n hr
theorem built_dlR (r : List UInt8) (n : Int) (hr : r.length = 32) : Try.prog.built 74 [(0, .agg (bv r).toArray), (1, .int .i64 n)] = some (dlv (r, n)).toArray := by
  rw [dl_parts1]; exact dl_fill r n hr
theorem Try.infoDl : (Try.prog.info? 73).map (fun i => (i.zero, i.size, i.bytes)) = some (some (.agg (dlv dl0).toArray), 33, 40) := by kernel_rfl
theorem Try.infoDlR : (Try.prog.info? 74).map (fun i => (i.zero, i.size, i.bytes)) = some (some (.agg (dlv dl0).toArray), 33, 40) := by kernel_rfl
theorem Try.sizeDl : (Try.prog.info? 73).map (·.size) = some 33 := by kernel_rfl
theorem Try.sizeDlR : (Try.prog.info? 74).map (·.size) = some 33 := by kernel_rfl
theorem dsize {d : Dl} (h : d.1.length = 32) : (Try.prog.info? 73).map (·.size) = some (dlv d).length := by rw [dlv_length h]; exact Try.sizeDl
theorem dsizeR {d : Dl} (h : d.1.length = 32) : (Try.prog.info? 74).map (·.size) = some (dlv d).length := by rw [dlv_length h]; exact Try.sizeDlR
theorem Try.aggDl (w : World) : (isAgg 73).run Try.prog w = .ok true w := by
  unfold isAgg
  rw [Sem.run_bind, run_underlying Try.underlying73 w]
  rfl
theorem Try.aggDlR (w : World) : (isAgg 74).run Try.prog w = .ok true w := by
  unfold isAgg
  rw [Sem.run_bind, run_underlying Try.underlying74 w]
  rfl
section
variable {ops : Array Oper} {rest : List Oper} {o : Oper} {a : Act} {w : World} {Q : Exit → Act → World → Prop}
/-- A delta out of a row. -/
theorem wpList_load_dl (y : Operand) (ho : o.op = .load 73 y) (hgd : o.guard = none)
    (g off : Nat) (d : Dl) (hx : a.eval y = .pointer (some ⟨g, off, none⟩)) (hl : d.1.length = 32) (hc : ∀ j v, (dlv d)[j]? = some v → w.cell? ⟨g, off + j, none⟩ = some v)
    (h : wpList Try.prog ops Q rest (a.put o.dst (.agg (dlv d).toArray)) w) : wpList Try.prog ops Q (o :: rest) a w :=
  wpList_load_agg hgd 73 y ho g off (dlv d) hx hc Try.aggDl (dsize hl) h
theorem wpList_load_dlR (y : Operand) (ho : o.op = .load 74 y) (hgd : o.guard = none)
    (g off : Nat) (d : Dl) (hx : a.eval y = .pointer (some ⟨g, off, none⟩)) (hl : d.1.length = 32) (hc : ∀ j v, (dlv d)[j]? = some v → w.cell? ⟨g, off + j, none⟩ = some v)
    (h : wpList Try.prog ops Q rest (a.put o.dst (.agg (dlv d).toArray)) w) : wpList Try.prog ops Q (o :: rest) a w :=
  wpList_load_agg hgd 74 y ho g off (dlv d) hx hc Try.aggDlR (dsizeR hl) h
/-- .. into a block that holds one. -/
theorem wpList_store_dl (x y : Operand) (ho : o.op = .store 73 x y) (hgd : o.guard = none)
    (g : Nat) (n n' : Dl) (hx : a.eval x = .pointer (some ⟨g, 0, none⟩)) (hy : a.eval y = .agg (dlv n').toArray) (hg : Blk w g 73 (dlv n)) (hl : n.1.length = 32) (hl' : n'.1.length = 32)
    (h : wpList Try.prog ops Q rest (a.put o.dst undef) (w.setRow g (dlv n').toArray)) : wpList Try.prog ops Q (o :: rest) a w := by
  refine wpList_store_part hgd 73 x y ho g 0 (dlv n') hx hy 73 (dlv n) hg (dsize hl') (by rw [dlv_length hl, dlv_length hl']; omega) (dlv_one _) ?_
  rw [splice_all _ _ (by rw [dlv_length hl, dlv_length hl'])]
  exact h
theorem wpList_store_dlR (x y : Operand) (ho : o.op = .store 74 x y) (hgd : o.guard = none)
    (g : Nat) (n n' : Dl) (hx : a.eval x = .pointer (some ⟨g, 0, none⟩)) (hy : a.eval y = .agg (dlv n').toArray) (hg : Blk w g 74 (dlv n)) (hl : n.1.length = 32) (hl' : n'.1.length = 32)
    (h : wpList Try.prog ops Q rest (a.put o.dst undef) (w.setRow g (dlv n').toArray)) : wpList Try.prog ops Q (o :: rest) a w := by
  refine wpList_store_part hgd 74 x y ho g 0 (dlv n') hx hy 74 (dlv n) hg (dsizeR hl') (by rw [dlv_length hl, dlv_length hl']; omega) (dlv_one _) ?_
  rw [splice_all _ _ (by rw [dlv_length hl, dlv_length hl'])]
  exact h
end
end Go.Proofs.Ytjodhagjfjgbcaa

/-
  Deltas in slices of one's own.
-/
namespace Go.Proofs.Ytjodhagjfjgbcaa
open Go Go.RowKit
set_option maxRecDepth 10000

theorem below_cell {B : Nat} {a w : World} (h : Below B a w) {g : Nat} (hg : B ≤ g) (j : Nat) (v : Value) : Below B a (w.setCell ⟨g, j, none⟩ v) :=
  ⟨h.os, h.tape, h.output, Nat.le_trans h.size (by simp [World.setCell]), fun k hk => (Below.heap_setCell w ⟨g, j, none⟩ v k (fun e => by simp at e; omega)).trans (h.block k hk)⟩
theorem wide_base {k : Nat} {w : World} {base base' : Nat} {v : Value} {xs : List Value} (h : Wide k w base v xs) (hb : base' ≤ base) : Wide k w base' v xs := by
  obtain ⟨n, cap, g, off, ao, rfl, h⟩ := h
  exact ⟨n, cap, g, off, ao, rfl, { h with own := fun a ha => Nat.le_trans hb (h.own a ha) }⟩
theorem wide_dls {w : World} {base : Nat} {v : Value} {l : List Dl} (h : Wide 33 w base v (dvs l)) (hl : Dls l) : ∃ ao cap g off, v = .slice ao l.length cap ∧ Lies w w.heap.size ao g off (dvs l) ∧ (0 < l.length → base ≤ g) := by
  obtain ⟨n, cap, g, off, ao, rfl, h⟩ := h
  have h1 := h.len
  rw [dvs_length l hl] at h1
  obtain rfl : l.length = n := by omega
  have hp : 0 < l.length → 0 < cap := fun h0 => Nat.lt_of_lt_of_le h0 h.le
  have hq : 0 < (dvs l).length → 0 < l.length := fun h0 => by rw [dvs_length l hl] at h0; omega
  exact ⟨ao, cap, g, off, rfl, ⟨fun h0 => h.addr (hp (hq h0)), fun h0 => h.lt (hp (hq h0)), h.cells⟩, fun h0 => h.own ⟨g, off, none⟩ (h.addr (hp h0))⟩
end Go.Proofs.Ytjodhagjfjgbcaa
