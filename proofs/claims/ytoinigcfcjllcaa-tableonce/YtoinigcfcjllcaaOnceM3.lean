/-
  The texts Parts, FreeLaws, BuildFill, Wide, WideSet, Kept, one behind the other.
-/
import Derived.Test.YtoinigcfcjllcaaCBlk
import Derived.Test.YtoinigcfcjllcaaOnceM2
import Derived.Deep.RegionWith
import Derived.Lib.Hide
import Derived.Laws.ResultCell
import Derived.Test.YtoinigcfcjllcaaCBase
/-
  Arrays as values, out of and into a part of a block that is known whole; for the walk, one operation at a time. It holds of every program.
-/
namespace Go.Proofs.Ytoinigcfcjllcaa
open Go.RowKit
set_option maxRecDepth 10000

variable {P : Program}

theorem run_loadAt_cells {w : World} {g off : Nat} {cs : List Value} (hc : ∀ j v, cs[j]? = some v → w.cell? ⟨g, off + j, none⟩ = some v) (ty : TypeId) (n : Nat) (e : TypeId) (hu : P.underlying ty = some (.array n e)) (hi : (P.info? ty).map (·.size) = some cs.length) :
    (Instr.loadAt ty (.pointer (some ⟨g, off, none⟩))).run P w = .ok (.agg cs.toArray) w := by
  simp only [Instr.loadAt, Instr.sureAddr, Sem.run_bind, Sem.run_pure, Result.andThen]
  have hl := run_loadCells_list (P := P) w ⟨g, off, none⟩ cs (fun j v hv => by rw [Addr.add_lit]; exact hc j v hv)
  cases hq : P.info? ty with
  | none => simp [hq] at hi
  | some i =>
    have hs : i.size = cs.length := by simpa [hq] using hi
    have hagg : (isAgg ty).run P w = .ok true w := by
      unfold isAgg
      rw [Sem.run_bind, run_underlying hu w]
      rfl
    simp [loadVar, Sem.run_bind, hagg, sizeOf, typeInfo, hq, hs, hl]

theorem run_storeAt_part {w : World} {g off : Nat} {t : TypeId} {vs cs : List Value} (h : Blk w g t vs) (ty : TypeId) (hi : (P.info? ty).map (·.size) = some cs.length) (hf : off + cs.length ≤ vs.length) (h1 : ∀ v ∈ cs, v.oneCell' = true) :
    (Instr.storeAt ty (.pointer (some ⟨g, off, none⟩)) (.agg cs.toArray)).run P w = .ok () (w.setRow g (splice vs off cs).toArray) := by
  simp only [Instr.storeAt, Instr.sureAddr, Sem.run_bind, Sem.run_pure, Result.andThen]
  have hr := run_storeCells_at (P := P) g off t cs 0 vs.toArray w h (by simpa using hf) h1
  cases hq : P.info? ty with
  | none => simp [hq] at hi
  | some i =>
    have hs : i.size = cs.length := by simpa [hq] using hi
    simp [storeVar, sizeOf, typeInfo, hq, Value.cells, hs, hr, splice]

theorem wpList_load_cells {ops : Array Oper} {rest : List Oper} {o : Oper} {a : Act} {w : World} {Q : Exit → Act → World → Prop} (hgd : o.guard = none) (ty : TypeId) (x : Operand) (ho : o.op = .load ty x)
    (g off : Nat) (cs : List Value) (hx : a.eval x = .pointer (some ⟨g, off, none⟩)) (n : Nat) (e : TypeId)
    (hc : ∀ j v, cs[j]? = some v → w.cell? ⟨g, off + j, none⟩ = some v) (hu : P.underlying ty = some (.array n e)) (hi : (P.info? ty).map (·.size) = some cs.length)
    (h : wpList P ops Q rest (a.put o.dst (.agg cs.toArray)) w) : wpList P ops Q (o :: rest) a w := by
  refine wpList_plain hgd fun K hK => ?_
  unfold Oper.wp execOp
  simp only [ho, hx, Sem.run_bind, run_loadAt_cells hc ty n e hu hi, Result.andThen_ok]
  exact hK _ _ h

theorem wpList_store_part {ops : Array Oper} {rest : List Oper} {o : Oper} {a : Act} {w : World} {Q : Exit → Act → World → Prop} (hgd : o.guard = none) (ty : TypeId) (x y : Operand) (ho : o.op = .store ty x y)
    (g off : Nat) (cs : List Value) (hx : a.eval x = .pointer (some ⟨g, off, none⟩)) (hy : a.eval y = .agg cs.toArray) (t : TypeId) (vs : List Value) (hg : Blk w g t vs) (hi : (P.info? ty).map (·.size) = some cs.length)
    (hf : off + cs.length ≤ vs.length) (h1 : ∀ v ∈ cs, v.oneCell' = true)
    (h : wpList P ops Q rest (a.put o.dst undef) (w.setRow g (splice vs off cs).toArray)) : wpList P ops Q (o :: rest) a w := by
  refine wpList_plain hgd fun K hK => ?_
  unfold Oper.wp execOp
  simp only [ho, hx, hy, Sem.run_bind, run_storeAt_part hg ty hi hf h1, Result.andThen_ok]
  exact hK _ _ h

theorem splice_all {α : Type} (vs cs : List α) (h : vs.length = cs.length) : splice vs 0 cs = cs := by
  simp [splice, h]

/-- One operation of a quiet walk that hands back a value in every world of the class. -/
theorem quiet_value {C : World → Prop} {o : Oper} {a : Act} {K : Act → Prop} (v : Value) (h : ∀ w, C w → (execOp a.eval o).run P w = .ok (.value v) w) (hk : K (a.put o.dst v)) : o.quiet P a C K :=
  ⟨v, fun w hw => by unfold Oper.quietAt; rw [h w hw]; exact ⟨rfl, rfl⟩, hk⟩

theorem quiet_load_cells {C : World → Prop} {o : Oper} {a : Act} {K : Act → Prop} (ty : TypeId) (x : Operand) (ho : o.op = .load ty x) (g off : Nat) (cs : List Value) (hx : a.eval x = .pointer (some ⟨g, off, none⟩)) (n : Nat) (e : TypeId) (hc : ∀ w, C w → ∀ j v, cs[j]? = some v → w.cell? ⟨g, off + j, none⟩ = some v) (hu : P.underlying ty = some (.array n e)) (hi : (P.info? ty).map (·.size) = some cs.length)
    (hk : K (a.put o.dst (.agg cs.toArray))) : o.quiet P a C K := by
  refine quiet_value _ (fun w hw => ?_) hk
  unfold execOp
  simp only [ho, hx, Sem.run_bind, run_loadAt_cells (hc w hw) ty n e hu hi, Result.andThen_ok]
  rfl

theorem quiet_call {C : World → Prop} {o : Oper} {a : Act} {K : Act → Prop} (f : Nat) (args : Array Value) (v : Value) (hr : ∀ w, (execOp a.eval o).run P w = .ok (.enter f args) w)
    (hc : ∀ w, C w → Calls P f args w fun e w' => e = .returned v ∧ C w') (hk : K (a.put o.dst v)) : o.quiet P a C K :=
  ⟨v, fun w hw => by unfold Oper.quietAt; rw [hr w]; exact ⟨rfl, hc w hw⟩, hk⟩
end Go.Proofs.Ytoinigcfcjllcaa

/-
  Steps of regions whose operations come in any order: what one operation leads to, at its slot.
-/
namespace Go.Proofs.Ytoinigcfcjllcaa
open Go Go.RowKit

variable {P : Program} {ops : Array Oper} {o : Oper} {a : Act} {w : World} {R : Value → World → Prop}

theorem stepAt_wp {d : Tmp} (hd : o.dst = some d) (hw : Region.wanted o (yielded ops a.tmps) = true) (h : ∀ K : Act → World → Prop, (∀ a' w', a'.defers = a.defers → R (a'.eval (.tmp d)) w' → K a' w') → o.wp P a w K (fun _ _ _ => False)) : stepAt P ops o a w R := by
  unfold stepAt
  rw [hd]
  intro K hK
  rw [if_pos hw]
  exact h K hK

theorem stepAt_skip {d : Tmp} (hd : o.dst = some d) (hw : Region.wanted o (yielded ops a.tmps) = false) (hz : decide (d < a.tmps.size) = true) (h : R undef w) : stepAt P ops o a w R := by
  unfold stepAt
  rw [hd]
  intro K hK
  rw [if_neg (by rw [hw]; simp)]
  exact hK _ _ rfl (by rw [eval_put_same a d _ (of_decide_eq_true hz)]; exact h)

theorem stepAt_value {d : Tmp} (hd : o.dst = some d) (hw : Region.wanted o (yielded ops a.tmps) = true) (hz : decide (d < a.tmps.size) = true) (v : Value) (w' : World) (hrun : (execOp a.eval o).run P w = .ok (.value v) w') (h : R v w') : stepAt P ops o a w R := by
  refine stepAt_wp hd hw fun K hK => ?_
  unfold Oper.wp
  rw [hrun]
  simp only [Oper.upon]
  exact hK _ _ (put_defers _ _ _) (by rw [hd, eval_put_same a d _ (of_decide_eq_true hz)]; exact h)

theorem stepAt_call {d : Tmp} (hd : o.dst = some d) (hw : Region.wanted o (yielded ops a.tmps) = true) (hz : decide (d < a.tmps.size) = true) (f : Nat) (args : Array Value) (hrun : (execOp a.eval o).run P w = .ok (.enter f args) w) (h : Calls P f args w fun e w' => ∃ v, e = .returned v ∧ R v w') : stepAt P ops o a w R := by
  refine stepAt_wp hd hw fun K hK => ?_
  unfold Oper.wp
  rw [hrun]
  simp only [Oper.upon]
  refine h.mono fun e w' ⟨v, he, hv⟩ => ?_
  subst he
  exact hK _ _ (put_defers _ _ _) (by rw [hd, eval_put_same a d _ (of_decide_eq_true hz)]; exact hv)

theorem stepAt_load_cells {d : Tmp} (hd : o.dst = some d) (hw : Region.wanted o (yielded ops a.tmps) = true) (hz : decide (d < a.tmps.size) = true) (ty : TypeId) (x : Operand) (ho : o.op = .load ty x)
    (g off : Nat) (cs : List Value) (hx : a.eval x = .pointer (some ⟨g, off, none⟩)) (n : Nat) (e : TypeId)
    (hc : ∀ j v, cs[j]? = some v → w.cell? ⟨g, off + j, none⟩ = some v) (hu : P.underlying ty = some (.array n e)) (hi : (P.info? ty).map (·.size) = some cs.length)
    (h : R (.agg cs.toArray) w) : stepAt P ops o a w R := by
  refine stepAt_value hd hw hz _ w ?_ h
  unfold execOp
  simp only [ho, hx, Sem.run_bind, run_loadAt_cells hc ty n e hu hi, Result.andThen_ok]
  rfl

theorem stepAt_append_held {d : Tmp} (hd : o.dst = some d) (hw : Region.wanted o (yielded ops a.tmps) = true) (hz' : decide (d < a.tmps.size) = true) (s x : Operand) (t tx : TypeId)
    (ho : o.op = .call { callee := .builtin .append, args := #[s, x], argTypes := #[t, tx] })
    {base : Nat} {v : Value} {xs : List Value} (hs : a.eval s = v) (h : Held w base v xs) (e : TypeId) (i : TypeInfo) (z : Value) (bytes : Nat)
    (ht : P.underlying t = some (.slice e)) (hi : P.info? e = some i) (hz : i.zero = some z) (hsize : i.size = 1) (hby : i.bytes = bytes) (hzs : z.cells.size = 1)
    (u : Value) (hx : a.eval x = u) (n : Nat) (news : List Value) (hsrc : Src P 1 tx u n news w) (hfit : xs.length + n ≤ maxLen) (hbytes : (xs.length + n) * bytes ≤ 140737488355328) (hbase : base ≤ w.heap.size)
    (hK : ∀ v' w', Held w' base v' (xs ++ news) → Grew w v w' v' → R v' w') : stepAt P ops o a w R := by
  obtain ⟨v', w', hrun, r1, r2⟩ := h.append (P := P) t tx o.type e i z bytes ht hi hz hsize hby hzs u n news hsrc hfit hbytes hbase
  refine stepAt_value hd hw hz' v' w' ?_ (hK v' w' r1 r2)
  simp [execOp, ho, resolve, invoke, builtin, hs, hx, hrun, Result.andThen]
end Go.Proofs.Ytoinigcfcjllcaa

/-
  A struct written out ('T{..}'): its cells, part by part, over the empty one's; and an answer that lies in a cell. It holds of every program.
-/
namespace Go.Proofs.Ytoinigcfcjllcaa
open Go.RowKit
set_option maxRecDepth 10000

theorem fold_splice : ∀ (cs z : List Value) (off i : Nat), off + i + cs.length ≤ z.length →
    (cs.zipIdx i).foldl (fun (a : Array Value) (x : Value × Nat) => a.setIfInBounds (off + x.2) x.1) z.toArray = (splice z (off + i) cs).toArray
  | [], z, off, i, h => by simp [splice]
  | c :: cs, z, off, i, h => by
    rw [List.zipIdx_cons, List.foldl_cons, List.setIfInBounds_toArray, fold_splice cs _ off (i + 1) (by rw [List.length_set]; simp at h; omega)]
    congr 1
    simp only [List.length_cons] at h
    obtain ⟨n, hn⟩ : ∃ n, n = off + i := ⟨_, rfl⟩
    rw [show off + (i + 1) = n + 1 by omega, ← hn]
    have hA : (z.take n).length = n := by rw [List.length_take]; omega
    have e0 : z.set n c = z.take n ++ c :: z.drop (n + 1) := by rw [List.set_eq_take_append_cons_drop, if_pos (by omega)]
    have e1 : (z.set n c).take (n + 1) = z.take n ++ [c] := by
      rw [e0, List.take_append, hA, List.take_of_length_le (by omega), show n + 1 - n = 1 by omega]; rfl
    have e2 : (z.set n c).drop (n + 1 + cs.length) = z.drop (n + (cs.length + 1)) := by
      rw [e0, List.drop_append, hA, List.drop_of_length_le (by omega), List.nil_append, show n + 1 + cs.length - n = cs.length + 1 by omega, List.drop_succ_cons, List.drop_drop, show n + 1 + cs.length = n + (cs.length + 1) by omega]
    rw [splice, splice, e1, e2, List.length_cons, List.append_assoc]
    rfl

theorem fill_step {place : Nat → Option (Nat × Nat)} {z : List Value} {j off size : Nat} {v : Value} {rest : List (Nat × Value)} (hp : place j = some (off, size)) (hs : v.cells.size = size) (hz : off + size ≤ z.length) :
    Go.Instr.fill place z.toArray ((j, v) :: rest) = Go.Instr.fill place (splice z off v.cells.toList).toArray rest := by
  rw [Go.Instr.fill, hp]
  simp only
  rw [if_neg (by simp [hs]; omega)]
  congr 1
  have := fold_splice v.cells.toList z off 0 (by rw [Array.length_toList, hs]; omega)
  rw [Nat.add_zero] at this
  rw [← this, ← Array.foldl_toList, Array.toList_zipIdx]

theorem splice_one (z : List Value) (off : Nat) (v : Value) (h : off < z.length) : splice z off [v] = z.set off v := by
  simp only [splice, List.length_singleton]
  rw [List.set_eq_take_append_cons_drop, if_pos h]
  rfl

theorem stepAt_build {P : Program} {ops : Array Oper} {o : Oper} {a : Act} {w : World} {R : Value → World → Prop} {d : Tmp} (hd : o.dst = some d) (hw : Region.wanted o (yielded ops a.tmps) = true) (hz : decide (d < a.tmps.size) = true) (t : TypeId) (parts : Array (Nat × Operand)) (ho : o.op = .build t parts)
    (cells : Array Value) (hb : P.built t (parts.map fun (i, x) => (i, a.eval x)).toList = some cells) (h : R (.agg cells) w) : stepAt P ops o a w R := by
  refine stepAt_value hd hw hz _ w ?_ h
  unfold execOp
  simp only [ho, Sem.run_bind, run_build w t _ cells hb, Result.andThen_ok]
  rfl

theorem results_cell {fn : Func} {p : Tmp} {ty : TypeId} (h : fn.results = #[.cell p ty]) (tmps : Array Value) (P : Program) (w : World) :
    (results fn tmps).run P w = ((asAddr (tmps.getD p undef)).run P w).andThen fun a w₁ => (loadVar ty a).run P w₁ := by
  simp only [results, h]
  simp [Sem.run_bind, Result.andThen]
end Go.Proofs.Ytoinigcfcjllcaa

/-
  Slices whose elements take k cells each: 'Wide k w base v xs' says that the slice v, made by the call itself, holds the cells xs (k to an element), in a block from base on, with room that may be written; 'Lies' says of any slice, made or handed in, which cells it reads. What append makes of them. It holds of every program.
-/
namespace Go.Proofs.Ytoinigcfcjllcaa
open Go.RowKit
set_option maxRecDepth 10000

structure WideAt (k : Nat) (w : World) (base : Nat) (n cap g off : Nat) (ao : Option Addr) (xs : List Value) : Prop where
  len : xs.length = n * k
  le : n ≤ cap
  max : cap ≤ maxLen
  addr : 0 < cap → ao = some ⟨g, off, none⟩
  own : ∀ a, ao = some a → base ≤ a.block
  lt : 0 < cap → g < w.heap.size
  cells : ∀ j u, xs[j]? = some u → w.cell? ⟨g, off + j, none⟩ = some u
  room : ∀ j, j < cap * k → (w.cell? ⟨g, off + j, none⟩).isSome = true
  free : ∀ j, j < cap * k → w.frozen? ⟨g, off + j, none⟩ = false

def Wide (k : Nat) (w : World) (base : Nat) (v : Value) (xs : List Value) : Prop := ∃ n cap g off ao, v = .slice ao n cap ∧ WideAt k w base n cap g off ao xs

/-- The slice ao reads as these cells, in block b, which is below B. -/
structure Lies (w : World) (B : Nat) (ao : Option Addr) (b off : Nat) (xs : List Value) : Prop where
  addr : 0 < xs.length → ao = some ⟨b, off, none⟩
  lt : 0 < xs.length → b < B
  cells : ∀ j u, xs[j]? = some u → w.cell? ⟨b, off + j, none⟩ = some u

theorem Lies.keep {w w' : World} {B b off : Nat} {ao : Option Addr} {xs : List Value} (h : Lies w B ao b off xs) (hb : Below B w w') : Lies w' B ao b off xs :=
  ⟨h.addr, h.lt, fun j x hj => by
    have hl : 0 < xs.length := by have := (List.getElem?_eq_some_iff.1 hj).1; omega
    exact (hb.cell (p := ⟨b, off + j, none⟩) (h.lt hl)).trans (h.cells j x hj)⟩
theorem Lies.more {w : World} {B B' b off : Nat} {ao : Option Addr} {xs : List Value} (h : Lies w B ao b off xs) (hB : B ≤ B') : Lies w B' ao b off xs :=
  ⟨h.addr, fun h0 => Nat.lt_of_lt_of_le (h.lt h0) hB, h.cells⟩
theorem Lies.below {w w' : World} {b off : Nat} {ao : Option Addr} {xs : List Value} (h : Lies w w.heap.size ao b off xs) (hb : Below w.heap.size w w') : Lies w' w'.heap.size ao b off xs :=
  (h.keep hb).more hb.size
theorem Lies.src {P : Program} {w : World} {B b off k n : Nat} {ao : Option Addr} {xs : List Value} (h : Lies w B ao b off xs) (cap : Nat) (t e : TypeId) (ht : P.underlying t = some (.slice e)) (hn : xs.length = n * k) (h1 : ∀ u ∈ xs, u.oneCell' = true) (hk : 0 < k) : Src P k t (.slice ao n cap) n xs w := by
  by_cases h0 : xs.length = 0
  · obtain rfl : xs = [] := List.eq_nil_of_length_eq_zero h0
    obtain rfl : n = 0 := by
      rcases Nat.eq_zero_or_pos n with h | h
      · exact h
      · have := Nat.mul_pos h hk; simp at hn; omega
    cases ao with
    | none => exact Src.ofNil w ht cap
    | some a => exact Src.ofSlice w ht a 0 cap [] (by simp) (fun j u hj => by simp at hj) (fun u hu => by simp at hu)
  · have ha := h.addr (by omega)
    subst ha
    exact Src.ofSlice w ht ⟨b, off, none⟩ _ cap xs hn (fun j u hj => by rw [Addr.add_lit]; exact h.cells j u hj) h1
/-- A part of it, behind the first j cells. -/
theorem Lies.drop {w : World} {B b off : Nat} {ao : Option Addr} {xs : List Value} (h : Lies w B ao b off xs) (j : Nat) (ao' : Option Addr) (ha : 0 < (xs.drop j).length → ao' = some ⟨b, off + j, none⟩) : Lies w B ao' b (off + j) (xs.drop j) :=
  ⟨ha, fun h0 => h.lt (by rw [List.length_drop] at h0; omega), fun i u hi => by rw [List.getElem?_drop] at hi; rw [Nat.add_assoc]; exact h.cells _ u hi⟩
theorem Lies.take {w : World} {B b off : Nat} {ao : Option Addr} {xs : List Value} (h : Lies w B ao b off xs) (j : Nat) : Lies w B ao b off (xs.take j) :=
  ⟨fun h0 => h.addr (by rw [List.length_take] at h0; omega), fun h0 => h.lt (by rw [List.length_take] at h0; omega), fun i u hi => by
    rw [List.getElem?_take] at hi
    split at hi
    · exact h.cells i u hi
    · cases hi⟩

theorem Wide.lies {k : Nat} {w : World} {base : Nat} {v : Value} {xs : List Value} (h : Wide k w base v xs) : ∃ ao n cap b off, v = .slice ao n cap ∧ xs.length = n * k ∧ Lies w w.heap.size ao b off xs := by
  obtain ⟨n, cap, g, off, ao, rfl, h⟩ := h
  have hp : 0 < xs.length → 0 < cap := fun h0 => by
    have h1 := h.len
    have h2 := h.le
    rcases Nat.eq_zero_or_pos n with hn | hn
    · rw [hn, Nat.zero_mul] at h1; omega
    · omega
  exact ⟨ao, n, cap, g, off, rfl, h.len, fun h0 => h.addr (hp h0), fun h0 => h.lt (hp h0), h.cells⟩

theorem WideAt.carry {k : Nat} {w w' : World} {base n cap g off : Nat} {ao : Option Addr} {xs : List Value} (h : WideAt k w base n cap g off ao xs) (hs : w.heap.size ≤ w'.heap.size)
    (hb : 0 < cap → w'.heap[g]? = w.heap[g]?) : WideAt k w' base n cap g off ao xs :=
  ⟨h.len, h.le, h.max, h.addr, h.own, fun hc => Nat.lt_of_lt_of_le (h.lt hc) hs,
    fun j u hj => by
      have hjl : j < xs.length := (List.getElem?_eq_some_iff.1 hj).1
      have hc : 0 < cap := by
        have h1 := h.len
        have h2 := h.le
        rcases Nat.eq_zero_or_pos n with hn | hn
        · rw [hn, Nat.zero_mul] at h1; omega
        · omega
      exact (World.cell?_of_block (a := ⟨g, off + j, none⟩) (hb hc)).trans (h.cells j u hj),
    fun j hj => by rw [World.cell?_of_block (a := ⟨g, off + j, none⟩) (hb (Nat.pos_of_ne_zero fun e => by subst e; simp at hj))]; exact h.room j hj,
    fun j hj => by rw [World.frozen?_of_block (a := ⟨g, off + j, none⟩) (hb (Nat.pos_of_ne_zero fun e => by subst e; simp at hj))]; exact h.free j hj⟩

theorem Wide.below {k : Nat} {w w' : World} {base : Nat} {v : Value} {xs : List Value} (h : Wide k w base v xs) (hb : Below w.heap.size w w') : Wide k w' base v xs := by
  obtain ⟨n, cap, g, off, ao, rfl, h⟩ := h
  exact ⟨n, cap, g, off, ao, rfl, h.carry hb.size fun hc => hb.block g (h.lt hc)⟩
theorem Wide.alloc {k : Nat} {w : World} {base : Nat} {v : Value} {xs : List Value} (h : Wide k w base v xs) (o : Obj) : Wide k (w.alloc o) base v xs :=
  h.below ((Below.refl _ _).alloc (Nat.le_refl _) o)
theorem Wide.grown {k : Nat} {w w' : World} {base : Nat} {v : Value} {xs : List Value} {row : Option Nat} (h : Wide k w base v xs) (hg : w.grownBy w' row) (hne : ∀ j, v.ownBlock = some j → row ≠ some j) : Wide k w' base v xs := by
  obtain ⟨n, cap, g, off, ao, rfl, h⟩ := h
  refine ⟨n, cap, g, off, ao, rfl, h.carry hg.size fun hc => ?_⟩
  refine hg.block g (h.lt hc) fun e => ?_
  exact hne g (by rw [h.addr hc]; rfl) e.symm
theorem Wide.own {k : Nat} {w : World} {base : Nat} {v : Value} {xs : List Value} (h : Wide k w base v xs) : ∀ j, v.ownBlock = some j → base ≤ j := by
  obtain ⟨n, cap, g, off, ao, rfl, h⟩ := h
  intro j hj
  cases ao with
  | none => simp [Value.ownBlock] at hj
  | some a =>
    simp [Value.ownBlock] at hj
    subst hj
    exact h.own a rfl
theorem Wide.mono {k : Nat} {w : World} {base base' : Nat} {v : Value} {xs : List Value} (h : Wide k w base v xs) (hb : base' ≤ base) : Wide k w base' v xs := by
  obtain ⟨n, cap, g, off, ao, rfl, h⟩ := h
  exact ⟨n, cap, g, off, ao, rfl, h.len, h.le, h.max, h.addr, fun a ha => Nat.le_trans hb (h.own a ha), h.lt, h.cells, h.room, h.free⟩
/-- What stands below 'base' is as it was. -/
theorem Grew.belowW {k : Nat} {w w' : World} {base : Nat} {v v' : Value} {xs : List Value} (g : Grew w v w' v') (h : Wide k w base v xs) (hb : base ≤ w.heap.size) : Below base w w' :=
  (Below.refl _ _).grown g.grown hb h.own

theorem wide_empty (k : Nat) (w : World) (e : TypeId) (a : Nat) (h : w.heap.size ≤ a) : Wide k (w.alloc (.cells #[] e)) w.heap.size (.slice (some ⟨a, 0, none⟩) 0 0) [] :=
  ⟨0, 0, 0, 0, _, rfl, by simp, Nat.le_refl _, Nat.zero_le _, fun h => absurd h (by omega), fun a' ha => by cases ha; exact h, fun h => absurd h (by omega), fun j u h => by simp at h, fun j h => absurd h (by omega), fun j h => absurd h (by omega)⟩
/-- A slice that was just written out. -/
theorem wide_new (k n : Nat) (w : World) (e : TypeId) (xs : List Value) (hl : xs.length = n * k) (hn : n ≤ maxLen) : Wide k (w.alloc (.cells xs.toArray e)) w.heap.size (.slice (some ⟨w.heap.size, 0, none⟩) n n) xs := by
  have hc : ∀ j, (w.alloc (.cells xs.toArray e)).cell? ⟨w.heap.size, 0 + j, none⟩ = xs[j]? := fun j => by
    rw [Nat.zero_add, World.cell?_alloc_mark w xs.toArray e (0, 0) j]; simp
  refine ⟨n, n, w.heap.size, 0, _, rfl, hl, Nat.le_refl _, hn, fun _ => rfl, fun a ha => by cases ha; exact Nat.le_refl _, fun _ => by simp, fun j u hj => by rw [hc]; exact hj, fun j hj => ?_, fun j hj => ?_⟩
  · rw [hc, List.getElem?_eq_getElem (by omega)]; rfl
  · rw [Nat.zero_add]
    simp [World.frozen?_alloc_mark w xs.toArray e 0 0 j]

/-- append, whatever is appended. Where there is no room at all (the slice is full), nothing that was there turns. -/
theorem Wide.append {P : Program} {k : Nat} {w : World} {base : Nat} {v : Value} {xs : List Value} (h : Wide k w base v xs) (hk : 0 < k) (t tx ty e : TypeId) (i : TypeInfo) (z : Value) (bytes : Nat)
    (ht : P.underlying t = some (.slice e)) (hi : P.info? e = some i) (hz : i.zero = some z) (hsize : i.size = k) (hby : i.bytes = bytes) (hzs : z.cells.size = k)
    (x : Value) (n : Nat) (news : List Value) (hs : Src P k tx x n news w) (hfit : xs.length + n ≤ maxLen) (hbytes : (xs.length + n) * bytes ≤ 140737488355328) (hbase : base ≤ w.heap.size) :
    ∃ v' w', (Builtin.append_ #[t, tx] ty #[v, x]).run P w = .ok v' w' ∧ Wide k w' base v' (xs ++ news) ∧ Grew w v w' v' ∧ ((∃ ao m, v = .slice ao m m) → Below w.heap.size w w') := by
  obtain ⟨len, cap, g, off, ao, rfl, h⟩ := h
  have hlen := h.len
  have hle := h.le
  have hmax := h.max
  have hn : news.length = n * k := by simpa using hs.newsLen
  have hlk : len ≤ xs.length := by rw [hlen]; exact Nat.le_mul_of_pos_right _ hk
  by_cases hroom : len + n ≤ cap
  · by_cases hc : 0 < cap
    · have hrk : (len + n) * k ≤ cap * k := Nat.mul_le_mul_right k hroom
      have hlnk : (len + n) * k = len * k + n * k := Nat.add_mul _ _ _
      have hrun := run_append_room_src (P := P) w t tx ty e i ht hi g off len cap x n news (by rw [hsize]; exact hs) hroom
        (fun j hj => by rw [hsize, Nat.add_assoc]; exact h.room _ (by omega)) (fun j hj => by rw [hsize, Nat.add_assoc]; exact h.free _ (by omega))
      rw [hsize] at hrun
      have hao := h.addr hc
      subst hao
      refine ⟨_, _, hrun, ⟨len + n, cap, g, off, _, rfl, by rw [List.length_append]; omega, hroom, hmax, fun _ => rfl, h.own, fun hc => by rw [setCells_size]; exact h.lt hc, fun j u hj => ?_, fun j hj => ?_, fun j hj => ?_⟩, ⟨setCells_grown w g _ news, .inl rfl⟩, ?_⟩
      · by_cases hjl : j < xs.length
        · rw [List.getElem?_append_left hjl] at hj
          rw [World.cell?_setCells_out g news _ w _ fun _ _ => .inl (by simp; omega)]
          exact h.cells j u hj
        · rw [List.getElem?_append_right (by omega)] at hj
          have hjn : j - xs.length < news.length := (List.getElem?_eq_some_iff.1 hj).1
          have hin := World.cell?_setCells_in g news (off + len * k) w (fun j' hj' => by rw [Nat.add_assoc]; exact h.room _ (by omega)) (j - xs.length) hjn
          rw [show off + len * k + (j - xs.length) = off + j by omega] at hin
          rw [hin, ← hj, List.getElem?_eq_getElem hjn]
      · exact World.isSome_setCells g news _ w _ (h.room j hj)
      · rw [World.frozen?_setCells]
        exact h.free j hj
      · rintro ⟨ao', m, e⟩
        cases e
        obtain rfl : n = 0 := by omega
        obtain rfl : news = [] := List.eq_nil_of_length_eq_zero (by omega)
        exact Below.refl _ _
    · obtain rfl : n = 0 := by omega
      obtain rfl : news = [] := List.eq_nil_of_length_eq_zero (by omega)
      have hrun := run_append_nothing (P := P) w t tx ty e i ht hi ao len cap hle x (by rw [hsize]; exact hs)
      exact ⟨_, _, hrun, by rw [List.append_nil]; exact ⟨len, cap, g, off, ao, rfl, h⟩, Grew.refl _ _, fun _ => Below.refl _ _⟩
  · have hold : (Builtin.firstCells i.size len (.slice ao len cap)).run P w.drew = .ok xs.toArray w.drew := by
      rw [hsize]
      rcases Nat.eq_zero_or_pos cap with h0 | h0
      · obtain rfl : len = 0 := by omega
        obtain rfl : xs = [] := List.eq_nil_of_length_eq_zero (by omega)
        cases ao with
        | none => exact run_firstCells_none w.drew k 0 0 cap
        | some a => exact run_firstCells_some w.drew k 0 a 0 cap [] (by simp) (fun j u hj => by simp at hj)
      · rw [h.addr h0]
        exact run_firstCells_some w.drew k len ⟨g, off, none⟩ len cap xs hlen (fun j u hj => by
          rw [Addr.add_lit]
          exact h.cells j u hj)
    have h63 : ((len + n : Nat) : Int) ≤ 9223372036854775807 := by unfold maxLen at hfit; omega
    have hrun := run_append_grow_src (P := P) w t tx ty e i z ht hi hz ao len cap xs hold x n news (by rw [hsize]; exact hs) (by omega) h63
      (growslice_fits (by omega) (by rw [hby]; exact Nat.le_trans (Nat.mul_le_mul_right _ (by omega)) hbytes))
    have hge := grownCap_ge w (len + n) cap e
    have hcm : grownCap w (len + n) cap e ≤ maxLen := grownCap_le_maxLen w (len + n) cap e (by omega)
    generalize hcp : grownCap w (len + n) cap e = cp at hrun hge hcm
    have hcpk : (len + n) * k ≤ cp * k := Nat.mul_le_mul_right k hge
    have hlnk : (len + n) * k = len * k + n * k := Nat.add_mul _ _ _
    generalize hC : (xs ++ news).toArray ++ Builtin.zeroCells z.cells (cp - (len + n)) = C at hrun
    have hCs : C.size = cp * k := by
      rw [← hC]
      simp only [Array.size_append, List.size_toArray, size_zeroCells, hzs, List.length_append, Nat.sub_mul]
      omega
    have hcell : ∀ j, (w.drew.alloc (.cells C e)).cell? ⟨w.heap.size, 0 + j, none⟩ = C[j]? := fun j => by
      rw [Nat.zero_add]; exact World.cell?_alloc_mark w.drew C e (0, 0) j
    refine ⟨_, _, hrun, ⟨len + n, _, w.heap.size, 0, _, rfl, by rw [List.length_append]; omega, hge, hcm, fun _ => rfl, fun a ha => by cases ha; exact hbase, fun _ => by simp, fun j u hj => ?_, fun j hj => ?_, fun j hj => ?_⟩,
      ⟨⟨rfl, rfl, rfl, by simp, fun k hk _ => heap_alloc_old w.drew _ (h := hk)⟩, .inr ⟨w.heap.size, rfl, Nat.le_refl _⟩⟩, fun _ => (Below.refl _ _).drew.alloc (Nat.le_refl _) _⟩
    · rw [hcell, ← hC]
      have hjl : j < (xs ++ news).length := (List.getElem?_eq_some_iff.1 hj).1
      rw [Array.getElem?_append_left (by simpa using hjl)]
      simpa using hj
    · rw [hcell, Array.getElem?_eq_getElem (by omega)]
      rfl
    · rw [Nat.zero_add]
      have := World.frozen?_alloc_mark w.drew C e 0 0 j
      simpa using this

theorem wpList_append_wide {P : Program} {k : Nat} {w : World} {ops : Array Oper} {rest : List Oper} {o : Oper} {a : Act} {Q : Exit → Act → World → Prop} (hgd : o.guard = none) (s x : Operand) (t tx : TypeId)
    (ho : o.op = .call { callee := .builtin .append, args := #[s, x], argTypes := #[t, tx] })
    {base : Nat} {v : Value} {xs : List Value} (hs : a.eval s = v) (h : Wide k w base v xs) (hk : 0 < k) (e : TypeId) (i : TypeInfo) (z : Value) (bytes : Nat)
    (ht : P.underlying t = some (.slice e)) (hi : P.info? e = some i) (hz : i.zero = some z) (hsize : i.size = k) (hby : i.bytes = bytes) (hzs : z.cells.size = k)
    (u : Value) (hx : a.eval x = u) (n : Nat) (news : List Value) (hsrc : Src P k tx u n news w) (hfit : xs.length + n ≤ maxLen) (hbytes : (xs.length + n) * bytes ≤ 140737488355328) (hbase : base ≤ w.heap.size)
    (hK : ∀ v' w', Wide k w' base v' (xs ++ news) → Grew w v w' v' → wpList P ops Q rest (a.put o.dst v') w') : wpList P ops Q (o :: rest) a w := by
  refine wpList_plain hgd fun K hK' => ?_
  obtain ⟨v', w', hrun, r1, r2, _⟩ := h.append (P := P) hk t tx o.type e i z bytes ht hi hz hsize hby hzs u n news hsrc hfit hbytes hbase
  unfold Oper.wp
  simp [execOp, ho, resolve, invoke, builtin, hs, hx, hrun, Result.andThen]
  exact hK' _ _ (hK v' w' r1 r2)

theorem stepAt_append_wide {P : Program} {k : Nat} {ops : Array Oper} {o : Oper} {a : Act} {w : World} {R : Value → World → Prop} {d : Tmp} (hd : o.dst = some d) (hw : Region.wanted o (yielded ops a.tmps) = true) (hz' : decide (d < a.tmps.size) = true) (s x : Operand) (t tx : TypeId)
    (ho : o.op = .call { callee := .builtin .append, args := #[s, x], argTypes := #[t, tx] })
    {base : Nat} {v : Value} {xs : List Value} (hs : a.eval s = v) (h : Wide k w base v xs) (hk : 0 < k) (e : TypeId) (i : TypeInfo) (z : Value) (bytes : Nat)
    (ht : P.underlying t = some (.slice e)) (hi : P.info? e = some i) (hz : i.zero = some z) (hsize : i.size = k) (hby : i.bytes = bytes) (hzs : z.cells.size = k)
    (u : Value) (hx : a.eval x = u) (n : Nat) (news : List Value) (hsrc : Src P k tx u n news w) (hfit : xs.length + n ≤ maxLen) (hbytes : (xs.length + n) * bytes ≤ 140737488355328) (hbase : base ≤ w.heap.size)
    (hK : ∀ v' w', Wide k w' base v' (xs ++ news) → Grew w v w' v' → ((∃ ao m, v = .slice ao m m) → Below w.heap.size w w') → R v' w') : stepAt P ops o a w R := by
  obtain ⟨v', w', hrun, r1, r2, r3⟩ := h.append (P := P) hk t tx o.type e i z bytes ht hi hz hsize hby hzs u n news hsrc hfit hbytes hbase
  refine stepAt_value hd hw hz' v' w' ?_ (hK v' w' r1 r2 r3)
  simp [execOp, ho, resolve, invoke, builtin, hs, hx, hrun, Result.andThen]
end Go.Proofs.Ytoinigcfcjllcaa

/-
  One cell of a slice that the call itself made is set. It holds of every program.
-/
namespace Go.Proofs.Ytoinigcfcjllcaa
open Go.RowKit
set_option maxRecDepth 10000

theorem setCell_size (w : World) (a : Addr) (v : Value) : (w.setCell a v).heap.size = w.heap.size := by simp [World.setCell]
theorem WideAt.set {k : Nat} {w : World} {base n cap g off : Nat} {ao : Option Addr} {xs : List Value} (h : WideAt k w base n cap g off ao xs) (j : Nat) (hj : j < xs.length) (u : Value) : WideAt k (w.setCell ⟨g, off + j, none⟩ u) base n cap g off ao (xs.set j u) := by
  refine ⟨by rw [List.length_set]; exact h.len, h.le, h.max, h.addr, h.own, fun hc => by rw [setCell_size]; exact h.lt hc, fun i v hi => ?_, fun i hi => ?_, fun i hi => by rw [World.frozen?_setCell]; exact h.free i hi⟩
  · by_cases e : j = i
    · subst e
      rw [List.getElem?_set_self hj] at hi
      cases hi
      exact World.cell?_setCell_same w ⟨g, off + j, none⟩ u (h.cells j _ (List.getElem?_eq_getElem hj))
    · rw [List.getElem?_set_ne e] at hi
      rw [World.cell?_setCell_other w ⟨g, off + j, none⟩ ⟨g, off + i, none⟩ u (by intro q; injection q with _ q2 _; omega)]
      exact h.cells i v hi
  · by_cases e : j = i
    · subst e
      obtain ⟨x, hx⟩ := Option.isSome_iff_exists.1 (h.room j hi)
      rw [World.cell?_setCell_same w ⟨g, off + j, none⟩ u hx]; rfl
    · rw [World.cell?_setCell_other w ⟨g, off + j, none⟩ ⟨g, off + i, none⟩ u (by intro q; injection q with _ q2 _; omega)]
      exact h.room i hi
end Go.Proofs.Ytoinigcfcjllcaa

/-
  Worlds that are as they were but for some blocks (F): for objects that a call makes and writes (a struct, its slices, its map), several of them side by side. It holds of every program.
-/
namespace Go.Proofs.Ytoinigcfcjllcaa
open Go.RowKit

structure Kept (F : List Nat) (w w' : World) : Prop where
  os : w'.os = w.os
  tape : w'.tape = w.tape
  output : w'.output = w.output
  size : w.heap.size ≤ w'.heap.size
  block : ∀ k, k < w.heap.size → k ∉ F → w'.heap[k]? = w.heap[k]?
/-- What belongs to an object now belonged to it, or is new. -/
def NewF (w : World) (F F' : List Nat) : Prop := ∀ x ∈ F', x ∈ F ∨ w.heap.size ≤ x
def Low (w : World) (F : List Nat) : Prop := ∀ x ∈ F, x < w.heap.size
def High (B : Nat) (F : List Nat) : Prop := ∀ x ∈ F, B ≤ x
def Away (F G : List Nat) : Prop := ∀ x ∈ F, x ∉ G

theorem Kept.refl (F : List Nat) (w : World) : Kept F w w := ⟨rfl, rfl, rfl, Nat.le_refl _, fun _ _ _ => rfl⟩
theorem Kept.of_below {w w' : World} (F : List Nat) (h : Below w.heap.size w w') : Kept F w w' := ⟨h.os, h.tape, h.output, h.size, fun k hk _ => h.block k hk⟩
theorem Kept.of_grown {w w' : World} {row : Option Nat} (F : List Nat) (h : w.grownBy w' row) (hr : ∀ k, row = some k → k ∈ F) : Kept F w w' :=
  ⟨h.os, h.tape, h.output, h.size, fun k hk hF => h.block k hk fun e => hF (hr k e.symm)⟩
theorem Kept.drew {F : List Nat} {w w' : World} (h : Kept F w w') : Kept F w w'.drew := ⟨h.os, h.tape, h.output, h.size, h.block⟩
theorem Kept.drewN {F : List Nat} {w w' : World} (h : Kept F w w') (n : Nat) : Kept F w (w'.drewN n) := ⟨h.os, h.tape, h.output, h.size, h.block⟩
theorem Kept.mono {F F' : List Nat} {w w' : World} (h : Kept F w w') (hF : ∀ x ∈ F, x ∈ F') : Kept F' w w' := ⟨h.os, h.tape, h.output, h.size, fun k hk hk' => h.block k hk fun hm => hk' (hF k hm)⟩
theorem Kept.trans {F F' : List Nat} {a b c : World} (h : Kept F a b) (k : Kept F' b c) (hF : NewF a F F') : Kept F a c :=
  ⟨k.os.trans h.os, k.tape.trans h.tape, k.output.trans h.output, Nat.le_trans h.size k.size, fun i hi hn => (k.block i (Nat.lt_of_lt_of_le hi h.size) fun hm => by
    rcases hF i hm with h1 | h1
    · exact hn h1
    · omega).trans (h.block i hi hn)⟩
theorem NewF.refl (w : World) (F : List Nat) : NewF w F F := fun _ h => .inl h
theorem NewF.trans {a b : World} {F F' F'' : List Nat} (h : NewF a F F') (k : NewF b F' F'') (hs : a.heap.size ≤ b.heap.size) : NewF a F F'' := fun x hx => by
  rcases k x hx with h1 | h1
  · exact h x h1
  · exact .inr (Nat.le_trans hs h1)
theorem Kept.then {F : List Nat} {a b c : World} (h : Kept F a b) (k : Below b.heap.size b c) : Kept F a c := h.trans (Kept.of_below F k) (NewF.refl _ _)
theorem Kept.after {F : List Nat} {a b c : World} (h : Below a.heap.size a b) (k : Kept F b c) : Kept F a c := (Kept.of_below F h).trans k (NewF.refl _ _)
theorem Kept.alloc {F : List Nat} {a b : World} (h : Kept F a b) (o : Obj) : Kept F a (b.alloc o) := h.then ((Below.refl _ _).alloc (Nat.le_refl _) o)
theorem Kept.setCell {F : List Nat} {a b : World} (h : Kept F a b) (p : Addr) (v : Value) (hp : p.block ∈ F ∨ a.heap.size ≤ p.block) : Kept F a (b.setCell p v) :=
  ⟨h.os, h.tape, h.output, Nat.le_trans h.size (by simp [World.setCell]), fun k hk hn => (Below.heap_setCell b p v k (fun e => by
    rcases hp with hp | hp
    · exact hn (e ▸ hp)
    · omega)).trans (h.block k hk hn)⟩
theorem Kept.below {F : List Nat} {a b : World} (h : Kept F a b) {B : Nat} (hB : B ≤ a.heap.size) (hF : High B F) : Below B a b :=
  ⟨h.os, h.tape, h.output, h.size, fun k hk => h.block k (by omega) fun hm => by have := hF k hm; omega⟩
theorem High.new {F F' : List Nat} {w : World} {B : Nat} (h : High B F) (hn : NewF w F F') (hB : B ≤ w.heap.size) : High B F' := fun x hx => by
  rcases hn x hx with h1 | h1
  · exact h x h1
  · omega
theorem High.mono {F : List Nat} {B B' : Nat} (h : High B F) (hB : B' ≤ B) : High B' F := fun x hx => Nat.le_trans hB (h x hx)
/-- Two objects stay apart, whichever of the two grows. -/
theorem Away.new {F F' G : List Nat} {w : World} (h : Away F G) (hn : NewF w F F') (hG : Low w G) : Away F' G := fun x hx hxg => by
  rcases hn x hx with h1 | h1
  · exact h x h1 hxg
  · have := hG x hxg; omega
theorem Away.new' {F G G' : List Nat} {w : World} (h : Away F G) (hn : NewF w G G') (hF : Low w F) : Away F G' := fun x hx hxg => by
  rcases hn x hxg with h1 | h1
  · exact h x hx h1
  · have := hF x hx; omega
theorem Away.symm {F G : List Nat} (h : Away F G) : Away G F := fun x hx hxg => h x hxg hx
theorem Low.keep {F : List Nat} {w w' : World} (h : Low w F) (hs : w.heap.size ≤ w'.heap.size) : Low w' F := fun x hx => Nat.lt_of_lt_of_le (h x hx) hs
theorem Away.high {F G : List Nat} {w : World} (h : Low w F) (hG : High w.heap.size G) : Away F G := fun x hx hxg => by have := h x hx; have := hG x hxg; omega

theorem Wide.kept {k : Nat} {w w' : World} {base : Nat} {v : Value} {xs : List Value} {F : List Nat} (h : Wide k w base v xs) (hk : Kept F w w') (hF : ∀ j, v.ownBlock = some j → j ∉ F) : Wide k w' base v xs := by
  obtain ⟨n, cap, g, off, ao, rfl, h⟩ := h
  refine ⟨n, cap, g, off, ao, rfl, h.carry hk.size fun hc => ?_⟩
  refine hk.block g (h.lt hc) ?_
  exact hF g (by rw [h.addr hc]; rfl)
theorem Blk.kept {w w' : World} {g : Nat} {t : TypeId} {vs : List Value} {F : List Nat} (h : Blk w g t vs) (hk : Kept F w w') (hF : g ∉ F) : Blk w' g t vs := (hk.block g h.lt hF).trans h
theorem Wide.ownLt {k : Nat} {w : World} {base : Nat} {v : Value} {xs : List Value} (h : Wide k w base v xs) (hx : 0 < xs.length) : ∀ j, v.ownBlock = some j → j < w.heap.size := by
  obtain ⟨n, cap, g, off, ao, rfl, h⟩ := h
  intro j hj
  have hc : 0 < cap := by
    have h1 := h.len
    have h2 := h.le
    rcases Nat.eq_zero_or_pos n with hn | hn
    · rw [hn, Nat.zero_mul] at h1; omega
    · omega
  rw [h.addr hc] at hj
  simp [Value.ownBlock] at hj
  rw [← hj]
  exact h.lt hc
theorem below_dN {B : Nat} {a w : World} (h : Below B a w) (k : Nat) : Below B a (w.drewN k) := ⟨h.os, h.tape, h.output, h.size, h.block⟩
theorem below_row {B : Nat} {a w : World} (h : Below B a w) {g : Nat} (hg : B ≤ g) (cs : Array Value) : Below B a (w.setRow g cs) :=
  h.trans ⟨rfl, rfl, rfl, by simp [World.setRow], fun k hk => Go.setRow_other w g k cs (by omega)⟩
theorem Kept.setRow {F : List Nat} {a b : World} (h : Kept F a b) {g : Nat} (hg : g ∈ F ∨ a.heap.size ≤ g) (cs : Array Value) : Kept F a (b.setRow g cs) :=
  ⟨h.os, h.tape, h.output, Nat.le_trans h.size (by simp [World.setRow]), fun k hk hn => (Go.setRow_other b g k cs (fun e => by
    rcases hg with hg | hg
    · exact hn (e ▸ hg)
    · omega)).trans (h.block k hk hn)⟩
theorem wide_nil0 (k : Nat) (w : World) (base : Nat) : Wide k w base (.slice none 0 0) [] :=
  ⟨0, 0, 0, 0, none, rfl, by simp, Nat.le_refl _, Nat.zero_le _, fun h => absurd h (by omega), fun a' ha => (by cases ha), fun h => absurd h (by omega), fun j u h => by simp at h, fun j h => absurd h (by omega), fun j h => absurd h (by omega)⟩
def ownL (v : Value) : List Nat := v.ownBlock.toList
theorem mem_ownL {v : Value} {j : Nat} : j ∈ ownL v ↔ v.ownBlock = some j := by simp [ownL]
/-- A row of cells that was just built, as append's source. -/
theorem src_rowT {P : Program} (w : World) (k : Nat) (hk : 0 < k) (t e : TypeId) (ht : P.underlying t = some (.slice e)) (r : List Value) (hr : r.length = k) (h1 : ∀ u ∈ r, u.oneCell' = true) : Src P k t (.slice (some ⟨w.heap.size, 0, none⟩) 1 1) 1 r (w.alloc (.cells r.toArray e)) := by
  have hl : Lies (w.alloc (.cells r.toArray e)) (w.alloc (.cells r.toArray e)).heap.size (some ⟨w.heap.size, 0, none⟩) w.heap.size 0 r :=
    ⟨fun _ => rfl, fun _ => by simp, fun j u hj => by rw [Nat.zero_add]; exact ((Blk.new w e r.toArray).cell j).trans hj⟩
  exact hl.src 1 t e ht (by omega) h1 hk
end Go.Proofs.Ytoinigcfcjllcaa
