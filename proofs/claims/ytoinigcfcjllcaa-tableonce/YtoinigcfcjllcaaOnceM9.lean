/-
  The texts Call13, Alive13, Two13, one behind the other.
-/
import Derived.Test.YtoinigcfcjllcaaCNmN
import Derived.Test.YtoinigcfcjllcaaOnceM6
import Derived.Test.YtoinigcfcjllcaaOnceM2
import Derived.Test.YtoinigcfcjllcaaOnceM3
import Derived.Test.YtoinigcfcjllcaaCTabTake
import Derived.Test.YtoinigcfcjllcaaOnceM8
import Derived.Test.YtoinigcfcjllcaaOnceM1
/-
  Calls of a table (a vote, or what is to be forgotten) as cells; the vote that one is.
-/
namespace Go.Proofs.Ytoinigcfcjllcaa
open Go Go.RowKit
set_option maxRecDepth 10000

structure Cl where
  f : Bool
  w : Int
  s : Int
  n : Int
def ccl (c : Cl) : List Value := [.bool c.f, .int .i64 c.w, .int .i64 c.s, .int .i64 c.n]
def ccls (l : List Cl) : List Value := l.flatMap ccl
/-- The vote that it is. -/
def ctv (c : Cl) : Vt := ⟨c.w, c.s, nmN c.n⟩
theorem ctv_len (c : Cl) : (ctv c).g.length = 32 := nmN_len c.n
def cl0 : Cl := ⟨false, 0, 0, 0⟩
theorem ccls_length : ∀ (l : List Cl), (ccls l).length = l.length * 4
  | [] => rfl
  | a :: l => by
    have h := ccls_length l
    rw [ccls, List.flatMap_cons, List.length_append, ← ccls, h, List.length_cons]
    simp [ccl]; omega
theorem ccls_at : ∀ (l : List Cl) (i j : Nat) (a : Cl), l[i]? = some a → j < 4 → (ccls l)[i * 4 + j]? = (ccl a)[j]?
  | [], i, j, a, h, _ => by simp at h
  | y :: l, 0, j, a, h, hj => by
    simp at h
    subst h
    rw [ccls, List.flatMap_cons, Nat.zero_mul, Nat.zero_add, List.getElem?_append_left (by simp [ccl]; exact hj)]
  | y :: l, i + 1, j, a, h, hj => by
    have hy : (ccl y).length = 4 := rfl
    rw [ccls, List.flatMap_cons, List.getElem?_append_right (by rw [hy]; omega), hy, show (i + 1) * 4 + j - 4 = i * 4 + j by omega, ← ccls]
    exact ccls_at l i j a (by simpa using h) hj
theorem Lies.call {w : World} {B b off : Nat} {ao : Option Addr} {l : List Cl} (h : Lies w B ao b off (ccls l)) {i : Nat} {a : Cl} (hi : l[i]? = some a) : ao = some ⟨b, off, none⟩ ∧ ∀ j v, (ccl a)[j]? = some v → w.cell? ⟨b, off + i * 4 + j, none⟩ = some v := by
  have hl := (List.getElem?_eq_some_iff.1 hi).1
  refine ⟨h.addr (by rw [ccls_length]; omega), fun j v hj => ?_⟩
  have hj4 : j < 4 := by have := (List.getElem?_eq_some_iff.1 hj).1; simpa [ccl] using this
  rw [Nat.add_assoc]
  exact h.cells _ v ((ccls_at l i j a hi hj4).trans hj)
theorem Try.sizeCall : (Try.prog.info? 41).map (·.size) = some 4 := by kernel_rfl
theorem Try.aggCall (w : World) : (isAgg 41).run Try.prog w = .ok true w := by
  unfold isAgg
  rw [Sem.run_bind, run_underlying Try.underlying41 w]
  rfl
theorem ccl_one (a : Cl) : ∀ v ∈ ccl a, v.oneCell' = true := fun v hv => by
  simp only [ccl, List.mem_cons, List.not_mem_nil, or_false] at hv
  rcases hv with rfl | rfl | rfl | rfl <;> rfl
theorem zero_call (w : World) : Blk (w.alloc (.cells #[.bool false, .int .i64 0, .int .i64 0, .int .i64 0] 41)) w.heap.size 41 (ccl cl0) := Blk.new w _ (ccl cl0).toArray
theorem zero_voteC (w : World) : Blk (w.alloc (.cells #[.int .i64 0, .int .i64 0, .int .u8 0, .int .u8 0, .int .u8 0, .int .u8 0, .int .u8 0, .int .u8 0, .int .u8 0, .int .u8 0, .int .u8 0, .int .u8 0, .int .u8 0, .int .u8 0, .int .u8 0, .int .u8 0, .int .u8 0, .int .u8 0, .int .u8 0, .int .u8 0, .int .u8 0, .int .u8 0, .int .u8 0, .int .u8 0, .int .u8 0, .int .u8 0, .int .u8 0, .int .u8 0, .int .u8 0, .int .u8 0, .int .u8 0, .int .u8 0, .int .u8 0, .int .u8 0] 29)) w.heap.size 29 (vcl vt0) := Blk.new w _ (vcl vt0).toArray
theorem run_load_call {w : World} {g off : Nat} {c : Cl} (hc : ∀ j x, (ccl c)[j]? = some x → w.cell? ⟨g, off + j, none⟩ = some x) :
    (Instr.loadAt 41 (.pointer (some ⟨g, off, none⟩))).run Try.prog w = .ok (.agg (ccl c).toArray) w := run_loadAt_agg hc 41 Try.aggCall Try.sizeCall
theorem Blk.callAll {w : World} {g : Nat} {ty : TypeId} {c : Cl} (h : Blk w g ty (ccl c)) : ∀ j x, (ccl c)[j]? = some x → w.cell? ⟨g, 0 + j, none⟩ = some x := fun j x hj => by rw [Nat.zero_add, h.cell j]; exact hj
section
variable {ops : Array Oper} {rest : List Oper} {o : Oper} {a : Act} {w : World} {Q : Exit → Act → World → Prop}
theorem wpList_load_call (y : Operand) (ho : o.op = .load 41 y) (hgd : Region.wanted o (yielded ops a.tmps) = true)
    (g off : Nat) (c : Cl) (hx : a.eval y = .pointer (some ⟨g, off, none⟩)) (hc : ∀ j x, (ccl c)[j]? = some x → w.cell? ⟨g, off + j, none⟩ = some x)
    (h : wpList Try.prog ops Q rest (a.put o.dst (.agg (ccl c).toArray)) w) : wpList Try.prog ops Q (o :: rest) a w := by
  refine wpList_step fun K hK => ?_
  rw [if_pos hgd]
  unfold Oper.wp execOp
  simp only [ho, hx, Sem.run_bind, run_load_call hc, Result.andThen_ok]
  exact hK _ _ h
theorem wpList_store_call (x y : Operand) (ho : o.op = .store 41 x y) (hgd : o.guard = none) (g : Nat) (n n' : Cl) (hx : a.eval x = .pointer (some ⟨g, 0, none⟩)) (hy : a.eval y = .agg (ccl n').toArray) (hg : Blk w g 41 (ccl n))
    (h : wpList Try.prog ops Q rest (a.put o.dst undef) (w.setRow g (ccl n').toArray)) : wpList Try.prog ops Q (o :: rest) a w := by
  refine wpList_store_part hgd 41 x y ho g 0 (ccl n') hx hy 41 (ccl n) hg Try.sizeCall (Nat.le_refl _) (ccl_one _) ?_
  rw [show splice (ccl n) 0 (ccl n') = ccl n' from splice_all _ _ rfl]
  exact h
end
set_option maxHeartbeats 4000000 in
theorem cvote_any (w : World) (c : Cl) : Calls Try.prog 19 #[.agg (ccl c).toArray] w fun e w' => e = .returned (.agg (vcl (ctv c)).toArray) ∧ Below w.heap.size w w' := by
  have hb1 : Below w.heap.size w (w.alloc (.cells (ccl c).toArray 41)) := (Below.refl _ w).alloc (Nat.le_refl _) _
  have hb2 : Below w.heap.size w ((w.alloc (.cells (ccl c).toArray 41)).alloc (.cells #[.int .i64 0, .int .i64 0, .int .u8 0, .int .u8 0, .int .u8 0, .int .u8 0, .int .u8 0, .int .u8 0, .int .u8 0, .int .u8 0, .int .u8 0, .int .u8 0, .int .u8 0, .int .u8 0, .int .u8 0, .int .u8 0, .int .u8 0, .int .u8 0, .int .u8 0, .int .u8 0, .int .u8 0, .int .u8 0, .int .u8 0, .int .u8 0, .int .u8 0, .int .u8 0, .int .u8 0, .int .u8 0, .int .u8 0, .int .u8 0, .int .u8 0, .int .u8 0, .int .u8 0, .int .u8 0] 29)) := hb1.alloc (by simp) _
  have hx := Blk.new w 41 (ccl c).toArray
  have hy := zero_voteC (w.alloc (.cells (ccl c).toArray 41))
  rw [List.toList_toArray] at hx
  rw [show (w.alloc (.cells (ccl c).toArray 41)).heap.size = w.heap.size + 1 by simp] at hy
  have HX := Lib.hid (hx.alloc (.cells #[.int .i64 0, .int .i64 0, .int .u8 0, .int .u8 0, .int .u8 0, .int .u8 0, .int .u8 0, .int .u8 0, .int .u8 0, .int .u8 0, .int .u8 0, .int .u8 0, .int .u8 0, .int .u8 0, .int .u8 0, .int .u8 0, .int .u8 0, .int .u8 0, .int .u8 0, .int .u8 0, .int .u8 0, .int .u8 0, .int .u8 0, .int .u8 0, .int .u8 0, .int .u8 0, .int .u8 0, .int .u8 0, .int .u8 0, .int .u8 0, .int .u8 0, .int .u8 0, .int .u8 0, .int .u8 0] 29))
  have HY := Lib.hid hy
  have HB := Lib.hid hb2
  obtain ⟨X, hX⟩ : ∃ X, X = w.heap.size := ⟨_, rfl⟩
  obtain ⟨Y, hY⟩ : ∃ Y, Y = w.heap.size + 1 := ⟨_, rfl⟩
  have HYL := Lib.hid (show w.heap.size ≤ Y by omega)
  rw [← hX] at HX
  rw [← hY] at HY
  clear hb1 hb2 hx hy
  go_enter Try.func19, Try.ntmps19
  go_upto_region 1 with fail
  rw [← hY, ← hX]
  generalize (w.alloc (.cells (ccl c).toArray 41)).alloc (.cells #[.int .i64 0, .int .i64 0, .int .u8 0, .int .u8 0, .int .u8 0, .int .u8 0, .int .u8 0, .int .u8 0, .int .u8 0, .int .u8 0, .int .u8 0, .int .u8 0, .int .u8 0, .int .u8 0, .int .u8 0, .int .u8 0, .int .u8 0, .int .u8 0, .int .u8 0, .int .u8 0, .int .u8 0, .int .u8 0, .int .u8 0, .int .u8 0, .int .u8 0, .int .u8 0, .int .u8 0, .int .u8 0, .int .u8 0, .int .u8 0, .int .u8 0, .int .u8 0, .int .u8 0, .int .u8 0] 29) = w1 at HX HY HB ⊢
  clear hX hY
  refine wp_region_free (P := Try.prog) 8 (fun w' => Below w1.heap.size w1 w') (fun oq v w' => match oq with
      | 0 => v = .pointer (some ⟨X, 1, none⟩)
      | 1 => v = .int .i64 c.w
      | 2 => v = .pointer (some ⟨X, 2, none⟩)
      | 3 => v = .int .i64 c.s
      | 4 => v = .pointer (some ⟨X, 3, none⟩)
      | 5 => v = .int .i64 c.n
      | 6 => v = .agg (bv (nmN c.n)).toArray
      | 7 => v = .agg (vcl (ctv c)).toArray
      | _ => True) (by kernel_rfl) (by kernel_rfl) (Below.refl _ _).drew ?gb ?vb ?steps ?fin
  case gb => exact fun a b h1 h2 => h1.trans (h2.mono h1.size)
  case vb =>
    intro oq v a b h hb
    match oq with
    | 0 => exact h
    | 1 => exact h
    | 2 => exact h
    | 3 => exact h
    | 4 => exact h
    | 5 => exact h
    | 6 => exact h
    | 7 => exact h
    | _ + 8 => trivial
  case steps =>
    intro vals
    simp only [List.take_succ_cons, List.take_zero, freeSteps, Act.put, List.setIfInBounds_toArray, List.set_cons_zero, List.set_cons_succ, Nat.reduceAdd]
    refine ⟨fun w8 hG hW => ?_, fun w8 hG hW => ?_, fun w8 hG hW => ?_, fun w8 hG hW => ?_, fun w8 hG hW => ?_, fun w8 hG hW => ?_, fun w8 hG hW => ?_, fun w8 hG hW => ?_, trivial⟩
    · clear hW
      refine stepAt_value rfl rfl rfl (.pointer (some ⟨X, 1, none⟩)) w8 ?_ ⟨rfl, Below.refl _ _⟩
      go_simp
    · have q0 := hW 0 (by decide)
      simp only at q0
      rw [q0]
      clear hW
      refine stepAt_value rfl rfl rfl (.int .i64 c.w) w8 ?_ ⟨rfl, Below.refl _ _⟩
      have cc := (HX.out.below hG HX.out.lt).cell 1
      simp only [ccl, List.getElem?_cons_zero, List.getElem?_cons_succ] at cc
      go_simp
    · clear hW
      refine stepAt_value rfl rfl rfl (.pointer (some ⟨X, 2, none⟩)) w8 ?_ ⟨rfl, Below.refl _ _⟩
      go_simp
    · have q2 := hW 2 (by decide)
      simp only at q2
      rw [q2]
      clear hW
      refine stepAt_value rfl rfl rfl (.int .i64 c.s) w8 ?_ ⟨rfl, Below.refl _ _⟩
      have cc := (HX.out.below hG HX.out.lt).cell 2
      simp only [ccl, List.getElem?_cons_zero, List.getElem?_cons_succ] at cc
      go_simp
    · clear hW
      refine stepAt_value rfl rfl rfl (.pointer (some ⟨X, 3, none⟩)) w8 ?_ ⟨rfl, Below.refl _ _⟩
      go_simp
    · have q4 := hW 4 (by decide)
      simp only at q4
      rw [q4]
      clear hW
      refine stepAt_value rfl rfl rfl (.int .i64 c.n) w8 ?_ ⟨rfl, Below.refl _ _⟩
      have cc := (HX.out.below hG HX.out.lt).cell 3
      simp only [ccl, List.getElem?_cons_zero, List.getElem?_cons_succ] at cc
      go_simp
    · have q5 := hW 5 (by decide)
      simp only at q5
      rw [q5]
      clear hW
      refine stepAt_call rfl rfl rfl 26 #[.int .i64 c.n] (by go_simp) ((name_any w8 c.n).mono fun e w' ⟨h1, h2⟩ => ⟨_, h1, rfl, h2⟩)
    · have q1 := hW 1 (by decide)
      simp only at q1
      have q3 := hW 3 (by decide)
      simp only at q3
      have q6 := hW 6 (by decide)
      simp only at q6
      rw [q1, q3, q6]
      clear hW
      refine stepAt_build rfl rfl rfl 29 _ rfl (vcl (ctv c)).toArray ?_ ⟨rfl, Below.refl _ _⟩
      simp only [List.map_toArray, List.map_cons, List.map_nil]
      exact built_vt _ _ _ (nmN_len _)
  case fin =>
    intro vals w2 hG hV
    have q7 := hV 7 (by omega)
    simp only at q7
    simp only [List.take_succ_cons, List.take_zero, List.drop_succ_cons, List.drop_zero, putAll, Act.put, List.setIfInBounds_toArray, List.set_cons_zero, List.set_cons_succ, Nat.reduceAdd]
    rw [q7]
    clear hV q7
    generalize vals 0 = y0
    generalize vals 1 = y1
    generalize vals 2 = y2
    generalize vals 3 = y3
    generalize vals 4 = y4
    generalize vals 5 = y5
    generalize vals 6 = y6
    replace HX := Lib.hid (HX.out.below hG HX.out.lt)
    replace HY := Lib.hid (HY.out.below hG HY.out.lt)
    replace HB := Lib.hid (HB.out.trans (hG.mono HB.out.size))
    clear hG
    have HCL := Lib.hid (ctv_len c)
    go_wp2_with ((with_reducible refine wpList_store_vote (.tmp 2) (.tmp 10) ?_ ?_ Y vt0 (ctv c) ?_ ?_ HY.out vt0_len HCL.out ?_); rfl; rfl; rfl; rfl)
    exact ret_vote rfl rfl (HY.out.setRow (vcl (ctv c))) HCL.out rfl ⟨rfl, below_row HB.out HYL.out _⟩
end Go.Proofs.Ytoinigcfcjllcaa

/-
  What a nil table takes; the law's alive.
-/
namespace Go.Proofs.Ytoinigcfcjllcaa
open Go Go.RowKit
set_option maxRecDepth 10000

theorem take_nil (w : World) (vo : Vt) : Calls Try.prog 13 #[.pointer none, .agg (vcl vo).toArray] w fun e w' => e = .returned (.int .i64 5) ∧ Below w.heap.size w w' := by
  have HB := Lib.hid (show Below w.heap.size w (w.alloc (.cells (vcl vo).toArray 29)) from (Below.refl _ w).alloc (Nat.le_refl _) _)
  have hx := Blk.new w 29 (vcl vo).toArray
  rw [List.toList_toArray] at hx
  obtain ⟨X, hX⟩ : ∃ X, X = w.heap.size := ⟨_, rfl⟩
  rw [← hX] at hx
  go_enter Try.func13, Try.ntmps13
  go_upto_region 1 with fail
  rw [← hX]
  generalize w.alloc (.cells (vcl vo).toArray 29) = w1 at hx HB ⊢
  have c0 := hx.cell 0
  simp only [vcl, List.getElem?_cons_zero] at c0
  clear hX hx
  go_wp2_with fail
  refine (has_nil w1 vo.w).mono ?_
  rintro e w1 ⟨rfl, rfl⟩
  go_wp2_with fail
  go_ret
  exact ⟨rfl, HB.out⟩
def al1 : Cl := ⟨false, 1, 3, 5⟩
def al2 : Cl := ⟨false, 1, 2, 6⟩
def al3 : Cl := ⟨false, 0, 2, 6⟩
def alT0 : Tb := newT 2 4
def alT1 : Tb := (takeT alT0 (ctv al1)).2
def alT2 : Tb := (takeT alT1 (ctv al1)).2
def alT3 : Tb := (takeT alT2 (ctv al2)).2
def alT4 : Tb := (takeT alT3 (ctv al3)).2
theorem al_codes : (takeT alT0 (ctv al1)).1 = 0 ∧ (takeT alT1 (ctv al1)).1 = 1 ∧ (takeT alT2 (ctv al2)).1 = 2 ∧ (takeT alT3 (ctv al3)).1 = 0 ∧ cntA alT4 1 = false ∧ cntA alT4 0 = true ∧ alT4.fs.length = 2 := by decide +kernel
theorem takeT_fs (t : Tb) (v : Vt) : (takeT t v).2.fs.length ≤ t.fs.length + 1 := by
  rcases takeT_cases t v with ⟨_, e⟩ | ⟨_, _, e⟩ | ⟨_, _, _, _, _, e⟩ | ⟨_, _, _, _, _, e⟩ | ⟨_, _, _, _, _, e⟩ | ⟨_, _, _, _, e⟩ <;> rw [e] <;> simp [addF, setL, setO]
theorem forgetT_fs (t : Tb) (s : Int) : (forgetT t s).fs.length ≤ t.fs.length := List.length_filter_le _ _
set_option maxHeartbeats 8000000 in
theorem alive_any (w : World) : Calls Try.prog 10 #[] w fun e w' => e = .returned (.bool true) ∧ Below w.heap.size w w' := by
  go_enter Try.func10, Try.ntmps10
  go_wp2_with fail
  refine (new_any w 2 4).mono ?_
  rintro e w1 (⟨hn, _, _⟩ | ⟨_, _, _, _, b, m, g, rfl, hT, hHi, hB⟩)
  · exact absurd ⟨by decide, by decide, by decide, by decide⟩ hn
  have HT := Lib.hid (show TP w1 b m g alT0 from hT)
  have HH := Lib.hid hHi
  have HB := Lib.hid hB
  clear hT hHi hB
  have HX1 := Lib.hid (((zero_call w1).alloc (.cells #[.bool false, .int .i64 0, .int .i64 0, .int .i64 0] 41)).alloc (.cells #[.bool false, .int .i64 0, .int .i64 0, .int .i64 0] 41))
  have hy := (zero_call (w1.alloc (.cells #[.bool false, .int .i64 0, .int .i64 0, .int .i64 0] 41))).alloc (.cells #[.bool false, .int .i64 0, .int .i64 0, .int .i64 0] 41)
  have hz := zero_call ((w1.alloc (.cells #[.bool false, .int .i64 0, .int .i64 0, .int .i64 0] 41)).alloc (.cells #[.bool false, .int .i64 0, .int .i64 0, .int .i64 0] 41))
  rw [show (w1.alloc (.cells #[.bool false, .int .i64 0, .int .i64 0, .int .i64 0] 41)).heap.size = w1.heap.size + 1 by simp] at hy
  rw [show ((w1.alloc (.cells #[.bool false, .int .i64 0, .int .i64 0, .int .i64 0] 41)).alloc (.cells #[.bool false, .int .i64 0, .int .i64 0, .int .i64 0] 41)).heap.size = w1.heap.size + 2 by simp] at hz
  have hb3 : Below w1.heap.size w1 (((w1.alloc (.cells #[.bool false, .int .i64 0, .int .i64 0, .int .i64 0] 41)).alloc (.cells #[.bool false, .int .i64 0, .int .i64 0, .int .i64 0] 41)).alloc (.cells #[.bool false, .int .i64 0, .int .i64 0, .int .i64 0] 41)) := (((Below.refl _ w1).alloc (Nat.le_refl _) _).alloc (by simp) _).alloc (by simp; omega) _
  have HY1 := Lib.hid (hy.setRow_other (ccl al1).toArray (show w1.heap.size + 1 ≠ w1.heap.size by omega))
  have HZ1 := Lib.hid ((hz.setRow_other (ccl al1).toArray (show w1.heap.size + 2 ≠ w1.heap.size by omega)).setRow_other (ccl al2).toArray (show w1.heap.size + 2 ≠ w1.heap.size + 1 by omega))
  have HBX := Lib.hid (below_row (below_row (below_row hb3 (Nat.le_refl w1.heap.size) (ccl al1).toArray) (show w1.heap.size ≤ w1.heap.size + 1 by omega) (ccl al2).toArray) (show w1.heap.size ≤ w1.heap.size + 2 by omega) (ccl al3).toArray)
  clear hy hz hb3
  go_upto_region 3 with (first
    | ((with_reducible refine wpList_store_call (.tmp 2) (.tmp 6) ?_ ?_ w1.heap.size cl0 al1 ?_ ?_ HX1.out ?_); rfl; rfl; rfl; rfl)
    | ((with_reducible refine wpList_store_call (.tmp 3) (.tmp 7) ?_ ?_ (w1.heap.size + 1) cl0 al2 ?_ ?_ HY1.out ?_); rfl; rfl; rfl; rfl)
    | ((with_reducible refine wpList_store_call (.tmp 4) (.tmp 8) ?_ ?_ (w1.heap.size + 2) cl0 al3 ?_ ?_ HZ1.out ?_); rfl; rfl; rfl; rfl))
  try simp only [Act.put]
  have HX := Lib.hid (((HX1.out.setRow (ccl al1)).setRow_other (ccl al2).toArray (show w1.heap.size ≠ w1.heap.size + 1 by omega)).setRow_other (ccl al3).toArray (show w1.heap.size ≠ w1.heap.size + 2 by omega))
  have HY := Lib.hid ((HY1.out.setRow (ccl al2)).setRow_other (ccl al3).toArray (show w1.heap.size + 1 ≠ w1.heap.size + 2 by omega))
  have HZ := Lib.hid (HZ1.out.setRow (ccl al3))
  have HL0 := Lib.hid (HT.out.low)
  replace HT := Lib.hid (HT.out.below HBX.out)
  obtain ⟨X, hX⟩ : ∃ X, X = w1.heap.size := ⟨_, rfl⟩
  obtain ⟨Y, hY⟩ : ∃ Y, Y = w1.heap.size + 1 := ⟨_, rfl⟩
  obtain ⟨Z, hZ⟩ : ∃ Z, Z = w1.heap.size + 2 := ⟨_, rfl⟩
  replace HB := Lib.hid (HB.out.trans (HBX.out.mono HB.out.size))
  have HAX := Lib.hid (show X ∉ [b, m, g] from fun hm => by have := HL0.out X hm; omega)
  have HAY := Lib.hid (show Y ∉ [b, m, g] from fun hm => by have := HL0.out Y hm; omega)
  have HAZ := Lib.hid (show Z ∉ [b, m, g] from fun hm => by have := HL0.out Z hm; omega)
  rw [← hZ, ← hY, ← hX] at HX HY HZ HT HB ⊢
  generalize ((((w1.alloc (.cells #[.bool false, .int .i64 0, .int .i64 0, .int .i64 0] 41)).alloc (.cells #[.bool false, .int .i64 0, .int .i64 0, .int .i64 0] 41)).alloc (.cells #[.bool false, .int .i64 0, .int .i64 0, .int .i64 0] 41)).setRow X (ccl al1).toArray |>.setRow Y (ccl al2).toArray |>.setRow Z (ccl al3).toArray) = w2 at HX HY HZ HT HB ⊢
  clear HX1 HY1 HZ1 HBX HL0 hX hY hZ
  have HL1 := Lib.hid (show alT0.fs.length ≤ 1000 by decide)
  have HL2 := Lib.hid (show alT1.fs.length ≤ 1000 from Nat.le_trans (takeT_fs _ _) (by decide))
  have HL3 := Lib.hid (show alT2.fs.length ≤ 1000 from Nat.le_trans (takeT_fs _ _) (by have := takeT_fs alT0 (ctv al1); have : alT0.fs.length = 0 := rfl; have : alT1.fs.length ≤ alT0.fs.length + 1 := takeT_fs _ _; omega))
  have HL4 := Lib.hid (show alT3.fs.length ≤ 1000 from Nat.le_trans (takeT_fs _ _) (by have : alT0.fs.length = 0 := rfl; have : alT1.fs.length ≤ alT0.fs.length + 1 := takeT_fs _ _; have : alT2.fs.length ≤ alT1.fs.length + 1 := takeT_fs _ _; omega))
  go_wp2_with ((with_reducible refine wpList_load_call (.tmp 2) ?_ ?_ X 0 al1 ?_ HX.out.callAll ?_); rfl; rfl; rfl)
  refine (cvote_any _ al1).mono ?_
  rintro e wv ⟨rfl, hbv⟩
  replace HT := Lib.hid (HT.out.below hbv)
  replace HX := Lib.hid (HX.out.below hbv HX.out.lt)
  replace HY := Lib.hid (HY.out.below hbv HY.out.lt)
  replace HZ := Lib.hid (HZ.out.below hbv HZ.out.lt)
  replace HB := Lib.hid (HB.out.trans (hbv.mono HB.out.size))
  clear hbv
  go_wp2_with fail
  refine (take_any wv b m g alT0 (ctv al1) HT.out (ctv_len al1) (by show _ ≤ _; exact HL1.out)).mono ?_
  rintro e wt ⟨rfl, hT, hk⟩
  rw [al_codes.1]
  replace HT := Lib.hid (show TP wt b m g alT1 from hT)
  replace HX := Lib.hid (HX.out.kept hk HAX.out)
  replace HY := Lib.hid (HY.out.kept hk HAY.out)
  replace HZ := Lib.hid (HZ.out.kept hk HAZ.out)
  replace HB := Lib.hid (HB.out.trans (hk.below HB.out.size HH.out))
  clear hT hk
  go_wp2_with ((with_reducible refine wpList_load_call (.tmp 2) ?_ ?_ X 0 al1 ?_ HX.out.callAll ?_); rfl; rfl; rfl)
  refine (cvote_any _ al1).mono ?_
  rintro e wv ⟨rfl, hbv⟩
  replace HT := Lib.hid (HT.out.below hbv)
  replace HX := Lib.hid (HX.out.below hbv HX.out.lt)
  replace HY := Lib.hid (HY.out.below hbv HY.out.lt)
  replace HZ := Lib.hid (HZ.out.below hbv HZ.out.lt)
  replace HB := Lib.hid (HB.out.trans (hbv.mono HB.out.size))
  clear hbv
  go_wp2_with fail
  refine (take_any wv b m g alT1 (ctv al1) HT.out (ctv_len al1) (by show _ ≤ _; exact HL2.out)).mono ?_
  rintro e wt ⟨rfl, hT, hk⟩
  rw [al_codes.2.1]
  replace HT := Lib.hid (show TP wt b m g alT2 from hT)
  replace HX := Lib.hid (HX.out.kept hk HAX.out)
  replace HY := Lib.hid (HY.out.kept hk HAY.out)
  replace HZ := Lib.hid (HZ.out.kept hk HAZ.out)
  replace HB := Lib.hid (HB.out.trans (hk.below HB.out.size HH.out))
  clear hT hk
  go_wp2_with ((with_reducible refine wpList_load_call (.tmp 3) ?_ ?_ Y 0 al2 ?_ HY.out.callAll ?_); rfl; rfl; rfl)
  refine (cvote_any _ al2).mono ?_
  rintro e wv ⟨rfl, hbv⟩
  replace HT := Lib.hid (HT.out.below hbv)
  replace HX := Lib.hid (HX.out.below hbv HX.out.lt)
  replace HY := Lib.hid (HY.out.below hbv HY.out.lt)
  replace HZ := Lib.hid (HZ.out.below hbv HZ.out.lt)
  replace HB := Lib.hid (HB.out.trans (hbv.mono HB.out.size))
  clear hbv
  go_wp2_with fail
  refine (take_any wv b m g alT2 (ctv al2) HT.out (ctv_len al2) (by show _ ≤ _; exact HL3.out)).mono ?_
  rintro e wt ⟨rfl, hT, hk⟩
  rw [al_codes.2.2.1]
  replace HT := Lib.hid (show TP wt b m g alT3 from hT)
  replace HX := Lib.hid (HX.out.kept hk HAX.out)
  replace HY := Lib.hid (HY.out.kept hk HAY.out)
  replace HZ := Lib.hid (HZ.out.kept hk HAZ.out)
  replace HB := Lib.hid (HB.out.trans (hk.below HB.out.size HH.out))
  clear hT hk
  go_wp2_with ((with_reducible refine wpList_load_call (.tmp 4) ?_ ?_ Z 0 al3 ?_ HZ.out.callAll ?_); rfl; rfl; rfl)
  refine (cvote_any _ al3).mono ?_
  rintro e wv ⟨rfl, hbv⟩
  replace HT := Lib.hid (HT.out.below hbv)
  replace HX := Lib.hid (HX.out.below hbv HX.out.lt)
  replace HY := Lib.hid (HY.out.below hbv HY.out.lt)
  replace HZ := Lib.hid (HZ.out.below hbv HZ.out.lt)
  replace HB := Lib.hid (HB.out.trans (hbv.mono HB.out.size))
  clear hbv
  go_wp2_with fail
  refine (take_any wv b m g alT3 (ctv al3) HT.out (ctv_len al3) (by show _ ≤ _; exact HL4.out)).mono ?_
  rintro e wt ⟨rfl, hT, hk⟩
  rw [al_codes.2.2.2.1]
  replace HT := Lib.hid (show TP wt b m g alT4 from hT)
  replace HX := Lib.hid (HX.out.kept hk HAX.out)
  replace HY := Lib.hid (HY.out.kept hk HAY.out)
  replace HZ := Lib.hid (HZ.out.kept hk HAZ.out)
  replace HB := Lib.hid (HB.out.trans (hk.below HB.out.size HH.out))
  clear hT hk
  go_wp2_with fail
  refine (counts_any _ b m g alT4 1 HT.out).mono ?_
  rintro e wt ⟨rfl, rfl⟩
  rw [al_codes.2.2.2.2.1]
  go_wp2_with fail
  refine (counts_any _ b m g alT4 0 HT.out).mono ?_
  rintro e wt ⟨rfl, rfl⟩
  rw [al_codes.2.2.2.2.2.1]
  go_wp2_with fail
  refine (marks_any _ b m g alT4 HT.out).mono ?_
  rintro e wt ⟨rfl, rfl⟩
  rw [al_codes.2.2.2.2.2.2]
  go_wp2_with fail
  go_ret
  exact ⟨rfl, HB.out⟩
end Go.Proofs.Ytoinigcfcjllcaa

/-
  Tables side by side: one, two, one and the document's; what is done to one leaves the other.
-/
namespace Go.Proofs.Ytoinigcfcjllcaa
open Go Go.RowKit
set_option maxRecDepth 10000

/-- One table, made by this call. -/
structure T1 (w0 : World) (b m g : Nat) (t : Tb) (w : World) : Prop where
  p : TP w b m g t
  hp : High w0.heap.size [b, m, g]
  bl : Below w0.heap.size w0 w
section
variable {w0 w w' : World} {b m g b' m' g' : Nat} {t u t' u' : Tb}
theorem T1.below (h : T1 w0 b m g t w) (hb : Below w.heap.size w w') : T1 w0 b m g t w' := ⟨h.p.below hb, h.hp, h.bl.trans (hb.mono h.bl.size)⟩
theorem T1.set (h : T1 w0 b m g t w) (ht : TP w' b m g t') (hk : Kept [b, m, g] w w') : T1 w0 b m g t' w' := ⟨ht, h.hp, h.bl.trans (hk.below h.bl.size h.hp)⟩
theorem T1.away (h : T1 w0 b m g t w) {X : Nat} (hX : w.heap.size ≤ X) : X ∉ [b, m, g] := fun hm => by have := h.p.low X hm; omega
/-- Two tables. -/
structure T2 (w0 : World) (b m g b' m' g' : Nat) (t u : Tb) (w : World) : Prop where
  p : TP w b m g t
  q : TP w b' m' g' u
  hp : High w0.heap.size [b, m, g]
  hq : High w0.heap.size [b', m', g']
  aw : Away [b, m, g] [b', m', g']
  bl : Below w0.heap.size w0 w
theorem T2.below (h : T2 w0 b m g b' m' g' t u w) (hb : Below w.heap.size w w') : T2 w0 b m g b' m' g' t u w' := ⟨h.p.below hb, h.q.below hb, h.hp, h.hq, h.aw, h.bl.trans (hb.mono h.bl.size)⟩
theorem T2.setp (h : T2 w0 b m g b' m' g' t u w) (ht : TP w' b m g t') (hk : Kept [b, m, g] w w') : T2 w0 b m g b' m' g' t' u w' := ⟨ht, h.q.keep hk h.aw.symm, h.hp, h.hq, h.aw, h.bl.trans (hk.below h.bl.size h.hp)⟩
theorem T2.setq (h : T2 w0 b m g b' m' g' t u w) (ht : TP w' b' m' g' u') (hk : Kept [b', m', g'] w w') : T2 w0 b m g b' m' g' t u' w' := ⟨h.p.keep hk h.aw, ht, h.hp, h.hq, h.aw, h.bl.trans (hk.below h.bl.size h.hq)⟩
theorem T2.away (h : T2 w0 b m g b' m' g' t u w) {X : Nat} (hX : w.heap.size ≤ X) : X ∉ [b, m, g] ∧ X ∉ [b', m', g'] := ⟨fun hm => by have := h.p.low X hm; omega, fun hm => by have := h.q.low X hm; omega⟩
theorem T2.new (hB : Below w0.heap.size w0 w) (h1 : TP w b m g t) (hh : High w0.heap.size [b, m, g]) (h2 : TP w' b' m' g' u) (hH : High w.heap.size [b', m', g']) (hb : Below w.heap.size w w') : T2 w0 b m g b' m' g' t u w' :=
  ⟨h1.below hb, h2, hh, hH.mono hB.size, Away.high h1.low hH, hB.trans (hb.mono hB.size)⟩
/-- A table and the document's. -/
structure TR (w0 : World) (b m g : Nat) (t : Tb) (F : List Nat) (rb g1 g2 g3 : Nat) (v : Value) (u : Tb) (w : World) : Prop where
  p : TP w b m g t
  q : RP w F rb g1 g2 g3 v u
  hp : High w0.heap.size [b, m, g]
  hq : High w0.heap.size F
  aw : Away [b, m, g] F
  bl : Below w0.heap.size w0 w
variable {F F' : List Nat} {rb g1 g2 g3 : Nat} {v v' : Value}
theorem TR.below (h : TR w0 b m g t F rb g1 g2 g3 v u w) (hb : Below w.heap.size w w') : TR w0 b m g t F rb g1 g2 g3 v u w' := ⟨h.p.below hb, h.q.below hb, h.hp, h.hq, h.aw, h.bl.trans (hb.mono h.bl.size)⟩
theorem TR.setp (h : TR w0 b m g t F rb g1 g2 g3 v u w) (ht : TP w' b m g t') (hk : Kept [b, m, g] w w') : TR w0 b m g t' F rb g1 g2 g3 v u w' := ⟨ht, h.q.keep hk h.aw.symm, h.hp, h.hq, h.aw, h.bl.trans (hk.below h.bl.size h.hp)⟩
theorem TR.setq (h : TR w0 b m g t F rb g1 g2 g3 v u w) (ht : RP w' F' rb g1 g2 g3 v' u') (hk : Kept F w w') (hn : NewF w F F') : TR w0 b m g t F' rb g1 g2 g3 v' u' w' :=
  ⟨h.p.keep hk h.aw, ht, h.hp, h.hq.new hn h.bl.size, h.aw.new' hn h.p.low, h.bl.trans (hk.below h.bl.size h.hq)⟩
theorem TR.away (h : TR w0 b m g t F rb g1 g2 g3 v u w) {X : Nat} (hX : w.heap.size ≤ X) : X ∉ [b, m, g] ∧ X ∉ F := ⟨fun hm => by have := h.p.low X hm; omega, fun hm => by have := h.q.low X hm; omega⟩
theorem TR.new (hB : Below w0.heap.size w0 w) (h1 : TP w b m g t) (hh : High w0.heap.size [b, m, g]) (h2 : RP w' F rb g1 g2 g3 v u) (hH : High w.heap.size F) (hb : Below w.heap.size w w') : TR w0 b m g t F rb g1 g2 g3 v u w' :=
  ⟨h1.below hb, h2, hh, hH.mono hB.size, Away.high h1.low hH, hB.trans (hb.mono hB.size)⟩
end
end Go.Proofs.Ytoinigcfcjllcaa
