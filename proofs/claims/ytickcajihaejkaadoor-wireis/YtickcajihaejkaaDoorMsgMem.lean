/-
  Messages as cells.
-/
import Derived.Test.YtickcajihaejkaaDoorMsg
import Derived.Test.YtickcajihaejkaaDoorBMore
import Derived.Test.YtickcajihaejkaaDoorInts
namespace Go.Proofs.YtickcajihaejkaaDoor
open Go.RowKit
set_option maxRecDepth 10000

/-- A message's cells; sl: its Bits. -/
def mc (M : Msg) (sl : Value) : List Value := .int .i64 M.k :: .int .i64 M.s :: (bv M.T ++ (.int .i64 M.m :: .int .u64 M.b :: sl :: bv M.G))

theorem mc_length {M : Msg} (h : M.Fits) (sl : Value) : (mc M sl).length = 53 := by simp [mc, bv_length, h.T, h.G]
theorem mc_tail {M : Msg} (h : M.Fits) (sl : Value) (j : Nat) : (mc M sl)[34 + j]? = (Value.int .i64 M.m :: .int .u64 M.b :: sl :: bv M.G)[j]? := by
  rw [show 34 + j = (32 + j) + 1 + 1 by omega]
  simp only [mc, List.getElem?_cons_succ]
  rw [List.getElem?_append_right (by rw [bv_length, h.T]; omega), bv_length, h.T, show 32 + j - 32 = j by omega]
theorem mc_0 (M : Msg) (sl : Value) : (mc M sl)[0]? = some (.int .i64 M.k) := rfl
theorem mc_1 (M : Msg) (sl : Value) : (mc M sl)[1]? = some (.int .i64 M.s) := rfl
theorem mc_34 {M : Msg} (h : M.Fits) (sl : Value) : (mc M sl)[34]? = some (.int .i64 M.m) := mc_tail h sl 0
theorem mc_35 {M : Msg} (h : M.Fits) (sl : Value) : (mc M sl)[35]? = some (.int .u64 M.b) := mc_tail h sl 1
theorem mc_36 {M : Msg} (h : M.Fits) (sl : Value) : (mc M sl)[36]? = some sl := mc_tail h sl 2
theorem mc_T {M : Msg} (sl : Value) (j : Nat) (v : Value) (hj : (bv M.T)[j]? = some v) : (mc M sl)[2 + j]? = some v := by
  rw [show 2 + j = j + 1 + 1 by omega]
  simp only [mc, List.getElem?_cons_succ]
  rw [List.getElem?_append_left (List.getElem?_eq_some_iff.1 hj).1]
  exact hj
theorem mc_G {M : Msg} (h : M.Fits) (sl : Value) (j : Nat) (v : Value) (hj : (bv M.G)[j]? = some v) : (mc M sl)[37 + j]? = some v := by
  rw [show 37 + j = 34 + (j + 3) by omega, mc_tail h sl (j + 3)]
  exact hj
theorem mc_one {M : Msg} {sl : Value} (hs : sl.oneCell' = true) : ∀ v ∈ mc M sl, v.oneCell' = true := by
  intro v hv
  simp only [mc, List.mem_cons, List.mem_append] at hv
  rcases hv with rfl | rfl | h | rfl | rfl | rfl | h
  · rfl
  · rfl
  · exact bv_one _ v h
  · rfl
  · rfl
  · exact hs
  · exact bv_one _ v h

/-- A message that lies in block g. -/
def MsgAt (w : World) (g : Nat) (M : Msg) (sl : Value) : Prop := Blk w g 29 (mc M sl)

/-- Its one-cell parts. -/
theorem Blk.msg {w : World} {g : Nat} {M : Msg} {sl : Value} (h : Blk w g 29 (mc M sl)) (hf : M.Fits) :
    w.cell? ⟨g, 0, none⟩ = some (.int .i64 M.k) ∧ w.cell? ⟨g, 1, none⟩ = some (.int .i64 M.s) ∧ w.cell? ⟨g, 34, none⟩ = some (.int .i64 M.m) ∧ w.cell? ⟨g, 35, none⟩ = some (.int .u64 M.b) ∧ w.cell? ⟨g, 36, none⟩ = some sl :=
  ⟨(h.cell 0).trans (mc_0 M sl), (h.cell 1).trans (mc_1 M sl), (h.cell 34).trans (mc_34 hf sl), (h.cell 35).trans (mc_35 hf sl), (h.cell 36).trans (mc_36 hf sl)⟩

theorem Blk.msgAll {w : World} {g : Nat} {t : TypeId} {cs : List Value} (h : Blk w g t cs) : ∀ j v, cs[j]? = some v → w.cell? ⟨g, 0 + j, none⟩ = some v := fun j v hj => by rw [Nat.zero_add]; exact (h.cell j).trans hj

theorem Tryd.sizeMsg : (Tryd.prog.info? 29).map (·.size) = some 53 := by kernel_rfl
theorem Tryd.aggMsg (w : World) : (isAgg 29).run Tryd.prog w = .ok true w := by
  unfold isAgg
  rw [Sem.run_bind, run_underlying Tryd.underlying29 w]
  rfl
theorem msg_size {M : Msg} (h : M.Fits) (sl : Value) : (Tryd.prog.info? 29).map (·.size) = some (mc M sl).length := by rw [mc_length h]; exact Tryd.sizeMsg

/-- A message out of memory. -/
theorem run_load_msg {w : World} {g : Nat} {M : Msg} {sl : Value} (h : Blk w g 29 (mc M sl)) (hf : M.Fits) :
    (Instr.loadAt 29 (.pointer (some ⟨g, 0, none⟩))).run Tryd.prog w = .ok (.agg (mc M sl).toArray) w :=
  run_loadAt_agg h.msgAll 29 Tryd.aggMsg (msg_size hf sl)

theorem wpList_load_msg {ops : Array Oper} {rest : List Oper} {o : Oper} {a : Act} {w : World} {Q : Exit → Act → World → Prop} (x : Operand) (ho : o.op = .load 29 x) (hgd : o.guard = none)
    (g : Nat) (M : Msg) (sl : Value) (hx : a.eval x = .pointer (some ⟨g, 0, none⟩)) (hg : Blk w g 29 (mc M sl)) (hf : M.Fits)
    (h : wpList Tryd.prog ops Q rest (a.put o.dst (.agg (mc M sl).toArray)) w) : wpList Tryd.prog ops Q (o :: rest) a w :=
  wpList_load_agg hgd 29 x ho g 0 (mc M sl) hx hg.msgAll Tryd.aggMsg (msg_size hf sl) h

/-- What a message's Bits read. -/
theorem BRow.bits {w w' : World} {sl : Value} {l : List Bool} (h : BRow w w.heap.size sl l) (hb : Below w.heap.size w w') : BRow w' w'.heap.size sl l := (h.keep hb).more hb.size
theorem BRow.form {w : World} {B : Nat} {sl : Value} {l : List Bool} (h : BRow w B sl l) : ∃ ao cap, sl = .slice ao l.length cap := by
  obtain ⟨ao, cap, b, off, rfl, _⟩ := h
  exact ⟨ao, cap, rfl⟩
theorem BRow.one {w : World} {B : Nat} {sl : Value} {l : List Bool} (h : BRow w B sl l) : sl.oneCell' = true := by
  obtain ⟨ao, cap, b, off, rfl, _⟩ := h
  rfl
end Go.Proofs.YtickcajihaejkaaDoor
