/-
  A message that is being read: what stays as it is, what is set.
-/
import Derived.Test.YtickcajihaejkaaDoorMsgMem
import Derived.Test.YtickcajihaejkaaDoorMsgRead
import Derived.Test.YtickcajihaejkaaDoorCopyStr
import Derived.Laws.ResultCell
namespace Go.Proofs.YtickcajihaejkaaDoor
open Go.RowKit
set_option maxRecDepth 10000

theorem set_app {α : Type} (A R : List α) (j : Nat) (v : α) : (A ++ R).set (A.length + j) v = A ++ R.set j v := by
  rw [List.set_append_right _ _ (by omega), Nat.add_sub_cancel_left]
theorem mc_set0 (M : Msg) (sl : Value) (x : Int) : (mc M sl).set 0 (.int .i64 x) = mc { M with k := x } sl := rfl
theorem mc_set1 (M : Msg) (sl : Value) (x : Int) : (mc M sl).set 1 (.int .i64 x) = mc { M with s := x } sl := rfl
theorem mc_form (M : Msg) (sl : Value) : mc M sl = ([.int .i64 M.k, .int .i64 M.s] ++ bv M.T) ++ ([.int .i64 M.m, .int .u64 M.b, sl] ++ bv M.G) := by simp [mc]
theorem mc_len34 {M : Msg} (h : M.Fits) : ([Value.int .i64 M.k, .int .i64 M.s] ++ bv M.T).length = 34 := by simp [bv_length, h.T]
theorem mc_set34 {M : Msg} (h : M.Fits) (sl : Value) (x : Int) : (mc M sl).set 34 (.int .i64 x) = mc { M with m := x } sl := by
  rw [mc_form, mc_form]
  have := set_app ([Value.int .i64 M.k, .int .i64 M.s] ++ bv M.T) ([.int .i64 M.m, .int .u64 M.b, sl] ++ bv M.G) 0 (.int .i64 x)
  rw [mc_len34 h] at this
  exact this
theorem mc_set35 {M : Msg} (h : M.Fits) (sl : Value) (x : Nat) : (mc M sl).set 35 (.int .u64 x) = mc { M with b := x } sl := by
  rw [mc_form, mc_form]
  have := set_app ([Value.int .i64 M.k, .int .i64 M.s] ++ bv M.T) ([.int .i64 M.m, .int .u64 M.b, sl] ++ bv M.G) 1 (.int .u64 x)
  rw [mc_len34 h] at this
  exact this
theorem mc_set36 {M : Msg} (h : M.Fits) (sl sl' : Value) (l : List Bool) : (mc M sl).set 36 sl' = mc { M with l := l } sl' := by
  rw [mc_form, mc_form]
  have := set_app ([Value.int .i64 M.k, .int .i64 M.s] ++ bv M.T) ([.int .i64 M.m, .int .u64 M.b, sl] ++ bv M.G) 2 sl'
  rw [mc_len34 h] at this
  exact this
theorem bv_setM (l : List UInt8) (j : Nat) (c : UInt8) : (bv l).set j (.int .u8 (c.toNat : Int)) = bv (l.set j c) := by simp [bv, List.map_set]
theorem mc_setT {M : Msg} (h : M.Fits) (sl : Value) (j : Nat) (hj : j < 32) (c : UInt8) : (mc M sl).set (2 + j) (.int .u8 (c.toNat : Int)) = mc { M with T := M.T.set j c } sl := by
  unfold mc
  rw [show 2 + j = j + 1 + 1 by omega, List.set_cons_succ, List.set_cons_succ, List.set_append_left _ _ (by rw [bv_length, h.T]; exact hj), bv_setM]
theorem mc_setG {M : Msg} (h : M.Fits) (sl : Value) (j : Nat) (c : UInt8) : (mc M sl).set (37 + j) (.int .u8 (c.toNat : Int)) = mc { M with G := M.G.set j c } sl := by
  rw [mc_form, mc_form]
  have := set_app ([Value.int .i64 M.k, .int .i64 M.s] ++ bv M.T) ([.int .i64 M.m, .int .u64 M.b, sl] ++ bv M.G) (3 + j) (.int .u8 (c.toNat : Int))
  rw [mc_len34 h, show 34 + (3 + j) = 37 + j by omega] at this
  rw [this]
  have h2 := set_app [Value.int .i64 M.m, .int .u64 M.b, sl] (bv M.G) j (.int .u8 (c.toNat : Int))
  rw [show [Value.int .i64 M.m, .int .u64 M.b, sl].length = 3 from rfl, bv_setM] at h2
  rw [h2]

theorem splice_mid (A Z R cs : List Value) (h : cs.length ≤ Z.length) : splice (A ++ (Z ++ R)) A.length cs = A ++ ((cs ++ Z.drop cs.length) ++ R) := by
  simp only [splice]
  simp [List.drop_append, h]
theorem bv_drop (l : List UInt8) (j : Nat) : (bv l).drop j = bv (l.drop j) := by simp [bv]
theorem mc_copyT {M : Msg} (h : M.Fits) (sl : Value) (o : List UInt8) (ho : o.length ≤ 32) : splice (mc M sl) 2 (bv o) = mc { M with T := o ++ M.T.drop o.length } sl := by
  have := splice_mid [.int .i64 M.k, .int .i64 M.s] (bv M.T) (.int .i64 M.m :: .int .u64 M.b :: sl :: bv M.G) (bv o) (by rw [bv_length, bv_length, h.T]; exact ho)
  rw [bv_drop, ← bv_append, bv_length] at this
  exact this
theorem mc_copyG {M : Msg} (h : M.Fits) (sl : Value) (o : List UInt8) (ho : o.length ≤ 16) : splice (mc M sl) 37 (bv o) = mc { M with G := o ++ M.G.drop o.length } sl := by
  have := splice_mid ([.int .i64 M.k, .int .i64 M.s] ++ bv M.T ++ [.int .i64 M.m, .int .u64 M.b, sl]) (bv M.G) [] (bv o) (by rw [bv_length, bv_length, h.G]; exact ho)
  rw [bv_drop, ← bv_append, bv_length, show ([Value.int .i64 M.k, .int .i64 M.s] ++ bv M.T ++ [.int .i64 M.m, .int .u64 M.b, sl]).length = 37 by simp [bv_length, h.T]] at this
  simpa [mc] using this

theorem pad_zero {n : Nat} (l : List UInt8) : l ++ (List.replicate n (0 : UInt8)).drop l.length = padTo n l := by simp [padTo]
theorem mc_copyT0 {k s m : Int} {b : Nat} {l : List Bool} {G : List UInt8} (h : Msg.Fits ⟨k, s, List.replicate 32 0, m, b, l, G⟩) (sl : Value) (o : List UInt8) (ho : o.length ≤ 32) : splice (mc ⟨k, s, List.replicate 32 0, m, b, l, G⟩ sl) 2 (bv o) = mc ⟨k, s, padTo 32 o, m, b, l, G⟩ sl := by
  rw [mc_copyT h sl o ho, ← pad_zero]
theorem mc_copyG0 {k s m : Int} {b : Nat} {l : List Bool} {T : List UInt8} (h : Msg.Fits ⟨k, s, T, m, b, l, List.replicate 16 0⟩) (sl : Value) (o : List UInt8) (ho : o.length ≤ 16) : splice (mc ⟨k, s, T, m, b, l, List.replicate 16 0⟩ sl) 37 (bv o) = mc ⟨k, s, T, m, b, l, padTo 16 o⟩ sl := by
  rw [mc_copyG h sl o ho, ← pad_zero]

/-- A row that lies in none of three blocks. -/
def BRowN (w : World) (A b g : Nat) (sl : Value) (l : List Bool) : Prop := ∃ ao cap rb off, sl = .slice ao l.length cap ∧ l.length ≤ cap ∧ cap ≤ maxLen ∧ BRowAt w w.heap.size ao rb off l ∧ (0 < l.length → rb ≠ A ∧ rb ≠ b ∧ rb ≠ g)
theorem BRowN.row {w : World} {A b g : Nat} {sl : Value} {l : List Bool} (h : BRowN w A b g sl l) : BRow w w.heap.size sl l := by
  obtain ⟨ao, cap, rb, off, h1, h2, h3, h4, _⟩ := h
  exact ⟨ao, cap, rb, off, h1, h2, h3, h4⟩
theorem BRowN.nil (w : World) (A b g : Nat) : BRowN w A b g (.slice none 0 0) [] :=
  ⟨none, 0, 0, 0, rfl, Nat.le_refl _, Nat.zero_le _, ⟨fun h => absurd h (by simp), fun h => absurd h (by simp), fun j x h => by simp at h⟩, fun h => absurd h (by simp)⟩
theorem BRowN.keep {w w' : World} {A b g : Nat} {sl : Value} {l : List Bool} (h : BRowN w A b g sl l) (hs : w.heap.size ≤ w'.heap.size) (hb : ∀ k, k < w.heap.size → k ≠ A → k ≠ b → k ≠ g → w'.heap[k]? = w.heap[k]?) : BRowN w' A b g sl l := by
  obtain ⟨ao, cap, rb, off, h1, h2, h3, h4, h5⟩ := h
  refine ⟨ao, cap, rb, off, h1, h2, h3, ⟨h4.addr, fun h0 => Nat.lt_of_lt_of_le (h4.lt h0) hs, fun j x hj => ?_⟩, h5⟩
  have h0 : 0 < l.length := by have := (List.getElem?_eq_some_iff.1 hj).1; omega
  exact (World.cell?_of_block (a := ⟨rb, off + j, none⟩) (hb rb (h4.lt h0) (h5 h0).1 (h5 h0).2.1 (h5 h0).2.2)).trans (h4.cells j x hj)
theorem BRowN.new {w : World} {A b g : Nat} {r : Nat} {l : List Bool} (h : BMade w r l) (hl : l.length ≤ 1000) (hb : r ≠ A ∧ r ≠ b ∧ r ≠ g) : BRowN w A b g (.slice (some ⟨r, 0, none⟩) l.length l.length) l :=
  ⟨_, l.length, r, 0, rfl, Nat.le_refl _, by unfold maxLen; omega, ⟨fun _ => rfl, fun _ => h.lt, fun j x hj => by rw [Nat.zero_add]; exact h.cells j x hj⟩, fun _ => hb⟩

/-- A message that is being read: the answer's block A (an empty one), the reader's b, its own g. -/
structure DS (w0 w : World) (A b g : Nat) (M : Msg) (sl : Value) : Prop where
  z : Blk w A 29 (mc zeroMsg (.slice none 0 0))
  m : Blk w g 29 (mc M sl)
  row : BRowN w A b g sl M.l
  bel : Below w0.heap.size w0 w
  lA : w0.heap.size ≤ A
  lb : w0.heap.size ≤ b
  lg : w0.heap.size ≤ g
  ab : A ≠ b
  ag : A ≠ g
  bg : b ≠ g
  fit : M.Fits

/-- An empty message's cells, written out -/
def zcells : Array Value := #[.int .i64 0, .int .i64 0, .int .u8 0, .int .u8 0, .int .u8 0, .int .u8 0, .int .u8 0, .int .u8 0, .int .u8 0, .int .u8 0, .int .u8 0, .int .u8 0, .int .u8 0, .int .u8 0, .int .u8 0, .int .u8 0, .int .u8 0, .int .u8 0, .int .u8 0, .int .u8 0, .int .u8 0, .int .u8 0, .int .u8 0, .int .u8 0, .int .u8 0, .int .u8 0, .int .u8 0, .int .u8 0, .int .u8 0, .int .u8 0, .int .u8 0, .int .u8 0, .int .u8 0, .int .u8 0, .int .i64 0, .int .u64 0, .slice none 0 0, .int .u8 0, .int .u8 0, .int .u8 0, .int .u8 0, .int .u8 0, .int .u8 0, .int .u8 0, .int .u8 0, .int .u8 0, .int .u8 0, .int .u8 0, .int .u8 0, .int .u8 0, .int .u8 0, .int .u8 0, .int .u8 0]
theorem zcells_eq : zcells = (mc zeroMsg (.slice none 0 0)).toArray := rfl
/-- A message that has a kind and a slot. -/
def startMsg (k s : Int) : Msg := ⟨k, s, List.replicate 32 0, 0, 0, [], List.replicate 16 0⟩
theorem startMsg_fits (k s : Int) : (startMsg k s).Fits := ⟨zeroMsg_fits.T, zeroMsg_fits.G, zeroMsg_fits.b⟩
theorem zcells_lit : (#[.int .i64 0, .int .i64 0, .int .u8 0, .int .u8 0, .int .u8 0, .int .u8 0, .int .u8 0, .int .u8 0, .int .u8 0, .int .u8 0, .int .u8 0, .int .u8 0, .int .u8 0, .int .u8 0, .int .u8 0, .int .u8 0, .int .u8 0, .int .u8 0, .int .u8 0, .int .u8 0, .int .u8 0, .int .u8 0, .int .u8 0, .int .u8 0, .int .u8 0, .int .u8 0, .int .u8 0, .int .u8 0, .int .u8 0, .int .u8 0, .int .u8 0, .int .u8 0, .int .u8 0, .int .u8 0, .int .i64 0, .int .u64 0, .slice none 0 0, .int .u8 0, .int .u8 0, .int .u8 0, .int .u8 0, .int .u8 0, .int .u8 0, .int .u8 0, .int .u8 0, .int .u8 0, .int .u8 0, .int .u8 0, .int .u8 0, .int .u8 0, .int .u8 0, .int .u8 0, .int .u8 0] : Array Value) = zcells := rfl

theorem msg_built (k s : Int) : Tryd.prog.built 29 [(0, .int .i64 k), (1, .int .i64 s)] = some (mc (startMsg k s) (.slice none 0 0)).toArray := by kernel_rfl
theorem msg_built0 : Tryd.prog.built 29 [] = some (mc zeroMsg (.slice none 0 0)).toArray := by kernel_rfl
theorem wpList_build_msg {P : Program} {ops : Array Oper} {rest : List Oper} {o : Oper} {a : Act} {w : World} {Q : Exit → Act → World → Prop} (hgd : o.guard = none) (t : TypeId) (parts : Array (Nat × Operand)) (ho : o.op = .build t parts)
    (cells : Array Value) (hb : P.built t (parts.map fun (i, x) => (i, a.eval x)).toList = some cells) (h : wpList P ops Q rest (a.put o.dst (.agg cells)) w) : wpList P ops Q (o :: rest) a w :=
  wpList_build hgd t parts ho (by rw [hb]; rfl) (by rw [hb]; exact h)

/-- A message out of memory, at a guarded operation. -/
theorem wpList_load_msgG {ops : Array Oper} {rest : List Oper} {o : Oper} {a : Act} {w : World} {Q : Exit → Act → World → Prop} (x : Operand) (ho : o.op = .load 29 x) (hgd : Region.wanted o (yielded ops a.tmps) = true)
    (g : Nat) (M : Msg) (sl : Value) (hx : a.eval x = .pointer (some ⟨g, 0, none⟩)) (hg : Blk w g 29 (mc M sl)) (hf : M.Fits)
    (h : wpList Tryd.prog ops Q rest (a.put o.dst (.agg (mc M sl).toArray)) w) : wpList Tryd.prog ops Q (o :: rest) a w := by
  refine wpList_step fun K hK => ?_
  rw [if_pos hgd]
  unfold Oper.wp execOp
  simp only [ho, hx, Sem.run_bind, run_load_msg hg hf, Result.andThen_ok]
  exact hK _ _ h

/-- A message into a block that holds one. -/
theorem wpList_store_msg {ops : Array Oper} {rest : List Oper} {o : Oper} {a : Act} {w : World} {Q : Exit → Act → World → Prop} (x y : Operand) (ho : o.op = .store 29 x y) (hgd : o.guard = none)
    (g : Nat) (M M' : Msg) (sl sl' : Value) (hx : a.eval x = .pointer (some ⟨g, 0, none⟩)) (hy : a.eval y = .agg (mc M' sl').toArray) (hg : Blk w g 29 (mc M sl)) (hf : M.Fits) (hf' : M'.Fits) (h1 : sl'.oneCell' = true)
    (h : wpList Tryd.prog ops Q rest (a.put o.dst undef) (w.setRow g (mc M' sl').toArray)) : wpList Tryd.prog ops Q (o :: rest) a w := by
  refine wpList_store_part hgd 29 x y ho g 0 (mc M' sl') hx hy 29 (mc M sl) hg (msg_size hf' sl') (by rw [mc_length hf, mc_length hf']; omega) (mc_one h1) ?_
  rw [splice_all _ _ (by rw [mc_length hf, mc_length hf'])]
  exact h

/-- An answer that lies in a block. -/
theorem ret_msg {fn : Func} {p u : Tmp} (h : fn.results = #[.cell p 29, .tmp u]) {a : Act} {w : World} {g : Nat} {M : Msg} {sl : Value} (hp : a.tmps.getD p undef = .pointer (some ⟨g, 0, none⟩)) (hg : Blk w g 29 (mc M sl)) (hf : M.Fits) (hd : a.defers = [])
    {R : Ending → World → Prop} (hR : R (.returned (.tuple #[.agg (mc M sl).toArray, a.tmps.getD u undef])) w) : bodyPost Tryd.prog fn R .ret a w := by
  refine bodyPost_ret ?_ hd hR
  rw [results_cell_tmp h, hp]
  have hl := run_load_msg hg hf
  simp only [Instr.loadAt, Instr.sureAddr, Sem.run_bind, Sem.run_pure, Result.andThen] at hl
  simp only [asAddr, Sem.run_pure, Result.andThen_ok]
  rw [hl]
  rfl

variable {w0 w w' : World} {A b g : Nat} {M : Msg} {sl : Value}

theorem DS.read (h : DS w0 w A b g M sl) (hg : w.grownBy w' (some b)) : DS w0 w' A b g M sl :=
  ⟨(hg.block A h.z.lt fun e => h.ab (by cases e; rfl)).trans h.z, (hg.block g h.m.lt fun e => h.bg (by cases e; rfl)).trans h.m, h.row.keep hg.size fun k hk _ hkb _ => hg.block k hk fun e => hkb (by cases e; rfl),
    h.bel.trans (below_of_grown hg h.bel.size h.lb), h.lA, h.lb, h.lg, h.ab, h.ag, h.bg, h.fit⟩
theorem DS.below (h : DS w0 w A b g M sl) (hg : Below w.heap.size w w') : DS w0 w' A b g M sl :=
  ⟨h.z.below hg h.z.lt, h.m.below hg h.m.lt, h.row.keep hg.size fun k hk _ _ _ => hg.block k hk, h.bel.trans (hg.mono h.bel.size), h.lA, h.lb, h.lg, h.ab, h.ag, h.bg, h.fit⟩
theorem DS.set (h : DS w0 w A b g M sl) (j : Nat) (v : Value) (M' : Msg) (hM : (mc M sl).set j v = mc M' sl) (hl : M'.l = M.l) (hf : M'.Fits) : DS w0 (w.setCell ⟨g, j, none⟩ v) A b g M' sl :=
  ⟨h.z.other _ _ h.ag, by have := h.m.set j v; rw [hM] at this; exact this, by rw [hl]; exact h.row.keep (by simp) fun k _ _ _ hk => heap_setCell_other w ⟨g, j, none⟩ k v hk,
    h.bel.setCell h.lg _, h.lA, h.lb, h.lg, h.ab, h.ag, h.bg, hf⟩
theorem DS.bits (h : DS w0 w A b g M sl) (sl' : Value) (l : List Bool) (hr : BRowN w A b g sl' l) : DS w0 (w.setCell ⟨g, 36, none⟩ sl') A b g { M with l := l } sl' :=
  ⟨h.z.other _ _ h.ag, by have := h.m.set 36 sl'; rw [mc_set36 h.fit sl sl' l] at this; exact this, hr.keep (by simp) fun k _ _ _ hk => heap_setCell_other w ⟨g, 36, none⟩ k sl' hk,
    h.bel.setCell h.lg _, h.lA, h.lb, h.lg, h.ab, h.ag, h.bg, ⟨h.fit.T, h.fit.G, h.fit.b⟩⟩
theorem DS.part (h : DS w0 w A b g M sl) (M' : Msg) (hl : M'.l = M.l) (hf : M'.Fits) : DS w0 (w.setRow g (mc M' sl).toArray) A b g M' sl :=
  ⟨h.z.setRow_other _ h.ag, h.m.setRow _, by rw [hl]; exact h.row.keep (by simp [World.setRow]) fun k _ _ _ hk => Go.setRow_other w g k _ hk,
    below_setRow h.bel h.lg _, h.lA, h.lb, h.lg, h.ab, h.ag, h.bg, hf⟩
theorem DS.rd_set (h : DS w0 w A b g M sl) {s : ByteArray} {sh : Bool} (hr : Rd w b s sh) (j : Nat) (v : Value) : Rd (w.setCell ⟨g, j, none⟩ v) b s sh := hr.keep (heap_setCell_other w ⟨g, j, none⟩ b v h.bg)
theorem DS.rd_row (h : DS w0 w A b g M sl) {s : ByteArray} {sh : Bool} (hr : Rd w b s sh) (cs : Array Value) : Rd (w.setRow g cs) b s sh := hr.keep (Go.setRow_other w g b cs h.bg)
end Go.Proofs.YtickcajihaejkaaDoor
