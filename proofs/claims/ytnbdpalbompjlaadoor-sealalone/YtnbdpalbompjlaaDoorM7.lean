/-
  The texts Ints, Bools, RefRoot, one behind the other.
-/
import Derived.Test.YtnbdpalbompjlaaDoorM4
import Derived.Laws.MakeOwn
import Derived.Deep.QuietTactic
import Derived.BigQuiet
import Derived.Test.YtnbdpalbompjlaaDoorM5
import Derived.Laws.Externs
/-
  Rows of numbers (int) that a call made, as cells; what a slice of them reads.
-/
namespace Go.Proofs.YtnbdpalbompjlaaDoor
open Go.RowKit
set_option maxRecDepth 10000

/-- Numbers as cells. -/
def iv (l : List Nat) : List Value := l.map fun (x : Nat) => Value.int .i64 (x : Int)
theorem iv_length (l : List Nat) : (iv l).length = l.length := by simp [iv]
theorem iv_at {l : List Nat} {j x : Nat} (h : l[j]? = some x) : (iv l)[j]? = some (.int .i64 (x : Int)) := by simp [iv, h]
theorem iv_append (a b : List Nat) : iv (a ++ b) = iv a ++ iv b := by simp [iv]
theorem iv_one (l : List Nat) : ∀ v ∈ iv l, v.oneCell' = true := by
  intro v hv; simp [iv] at hv; obtain ⟨a, _, rfl⟩ := hv; rfl
theorem Tryd.info3 : (Tryd.prog.info? 3).map (fun i => (i.zero, i.size, i.bytes)) = some (some (.int .i64 0), 1, 8) := by kernel_rfl

/-- One number that was just built, as append's source. -/
theorem src_int {P : Program} (w : World) (t : TypeId) (ht : P.underlying t = some (.slice 3)) (x : Nat) : Src P 1 t (.slice (some ⟨w.heap.size, 0, none⟩) 1 1) 1 (iv [x]) (w.alloc (.cells #[.int .i64 (x : Int)] 3)) := by
  refine Src.ofSlice _ ht _ 1 1 _ rfl ?_ (iv_one _)
  intro i y hi
  match i, hi with
  | 0, hi => simp [iv] at hi; subst hi; simp [Addr.add]

theorem src_intAt {P : Program} (w : World) (t : TypeId) (ht : P.underlying t = some (.slice 3)) (x g : Nat) (hg : g = w.heap.size) : Src P 1 t (.slice (some ⟨g, 0, none⟩) 1 1) 1 (iv [x]) (w.alloc (.cells #[.int .i64 (x : Int)] 3)) := by
  subst hg
  exact src_int w t ht x

/-- 'make' of one-cell elements, none of them in use yet. -/
theorem held_room (w : World) (z : Array Value) (m : Nat) (e : TypeId) (hm : m ≤ maxLen) : Held (w.alloc (.cells (madeCells z m) e)) w.heap.size (.slice (some ⟨w.heap.size, 0, none⟩) 0 m) [] := by
  have hs : (madeCells z m).size = m := size_madeCells _ _
  refine ⟨0, m, w.heap.size, 0, _, rfl, rfl, Nat.zero_le _, hm, fun _ => rfl, fun a ha => by cases ha; exact Nat.le_refl _, fun _ => by simp, fun j u hj => by simp at hj, fun j hj => ?_, fun j hj => ?_⟩
  · rw [Nat.zero_add, World.cell?_alloc_mark, Array.getElem?_eq_getElem (by omega)]; rfl
  · rw [Nat.zero_add]
    simp [World.frozen?_alloc_mark w (madeCells z m) e 0 0 j]

/-- What a slice that the call made reads. -/
theorem Held.lies {w : World} {base : Nat} {v : Value} {xs : List Value} (h : Held w base v xs) : ∃ ao cap b off, v = .slice ao xs.length cap ∧ Lies w w.heap.size ao b off xs := by
  obtain ⟨n, cap, g, off, ao, rfl, h⟩ := h
  have hl := h.len
  have hle := h.le
  exact ⟨ao, cap, g, off, by rw [hl], fun h0 => h.addr (by omega), fun h0 => h.lt (by omega), h.cells⟩

theorem Lies.int {w w' : World} {ao : Option Addr} {b off j x : Nat} {l : List Nat} (h : Lies w w.heap.size ao b off (iv l)) (hb : Below w.heap.size w w') (hx : l[j]? = some x) :
    ao = some ⟨b, off, none⟩ ∧ w'.cell? ⟨b, off + j, none⟩ = some (.int .i64 (x : Int)) := by
  have hl : 0 < (iv l).length := by have := (List.getElem?_eq_some_iff.1 hx).1; rw [iv_length]; omega
  have hlt := h.lt hl
  exact ⟨h.addr hl, (hb.cell (p := ⟨b, off + j, none⟩) hlt).trans (h.cells _ _ (iv_at hx))⟩

/-- A whole struct (or array) out of memory. -/
theorem run_loadAt_agg {P : Program} {w : World} {g off : Nat} {cs : List Value} (hc : ∀ j v, cs[j]? = some v → w.cell? ⟨g, off + j, none⟩ = some v) (ty : TypeId) (ha : ∀ w, (isAgg ty).run P w = .ok true w) (hi : (P.info? ty).map (·.size) = some cs.length) :
    (Instr.loadAt ty (.pointer (some ⟨g, off, none⟩))).run P w = .ok (.agg cs.toArray) w := by
  simp only [Instr.loadAt, Instr.sureAddr, Sem.run_bind, Sem.run_pure, Result.andThen]
  have hl := run_loadCells_list (P := P) w ⟨g, off, none⟩ cs (fun j v hv => by rw [Addr.add_lit]; exact hc j v hv)
  cases hq : P.info? ty with
  | none => simp [hq] at hi
  | some i =>
    have hs : i.size = cs.length := by simpa [hq] using hi
    simp [loadVar, Sem.run_bind, ha w, sizeOf, typeInfo, hq, hs, hl]

theorem wpList_load_agg {P : Program} {ops : Array Oper} {rest : List Oper} {o : Oper} {a : Act} {w : World} {Q : Exit → Act → World → Prop} (hgd : o.guard = none) (ty : TypeId) (x : Operand) (ho : o.op = .load ty x)
    (g off : Nat) (cs : List Value) (hx : a.eval x = .pointer (some ⟨g, off, none⟩))
    (hc : ∀ j v, cs[j]? = some v → w.cell? ⟨g, off + j, none⟩ = some v) (ha : ∀ w, (isAgg ty).run P w = .ok true w) (hi : (P.info? ty).map (·.size) = some cs.length)
    (h : wpList P ops Q rest (a.put o.dst (.agg cs.toArray)) w) : wpList P ops Q (o :: rest) a w := by
  refine wpList_plain hgd fun K hK => ?_
  unfold Oper.wp execOp
  simp only [ho, hx, Sem.run_bind, run_loadAt_agg hc ty ha hi, Result.andThen_ok]
  exact hK _ _ h
end Go.Proofs.YtnbdpalbompjlaaDoor

/-
  Rows of yes and no as cells; a row of no that was just made.
-/
namespace Go.Proofs.YtnbdpalbompjlaaDoor
open Go.RowKit
set_option maxRecDepth 10000

/-- Yes and no as cells. -/
def ov (l : List Bool) : List Value := l.map Value.bool
theorem ov_length (l : List Bool) : (ov l).length = l.length := by simp [ov]
theorem ov_at {l : List Bool} {j : Nat} {x : Bool} (h : l[j]? = some x) : (ov l)[j]? = some (.bool x) := by simp [ov, h]
theorem Lies.bool {w w' : World} {ao : Option Addr} {b off j : Nat} {x : Bool} {l : List Bool} (h : Lies w w.heap.size ao b off (ov l)) (hb : Below w.heap.size w w') (hx : l[j]? = some x) :
    ao = some ⟨b, off, none⟩ ∧ w'.cell? ⟨b, off + j, none⟩ = some (.bool x) := by
  have hl : 0 < (ov l).length := by have := (List.getElem?_eq_some_iff.1 hx).1; rw [ov_length]; omega
  have hlt := h.lt hl
  exact ⟨h.addr hl, (hb.cell (p := ⟨b, off + j, none⟩) hlt).trans (h.cells _ _ (ov_at hx))⟩
theorem Tryd.infoB : (Tryd.prog.info? 4).map (fun i => (i.zero, i.size, i.bytes)) = some (some (.bool false), 1, 1) := by kernel_rfl
theorem made_no (m : Nat) : (madeCells (Value.bool false).cells m).toList = ov (List.replicate m false) := by
  apply List.ext_getElem?
  intro i
  by_cases h : i < m
  · simp [madeCells, Value.cells, Nat.mod_one, ov, h]
  · rw [List.getElem?_eq_none (by rw [Array.length_toList, size_madeCells]; omega), List.getElem?_eq_none (by rw [ov_length]; simp; omega)]
theorem made_lies (w : World) (m : Nat) : Lies (w.alloc (.cells (madeCells (Value.bool false).cells m) 4)) (w.alloc (.cells (madeCells (Value.bool false).cells m) 4)).heap.size (some ⟨w.heap.size, 0, none⟩) w.heap.size 0 (ov (List.replicate m false)) := by
  have h := Blk.new w 4 (madeCells (Value.bool false).cells m)
  rw [made_no] at h
  exact ⟨fun _ => rfl, fun _ => h.lt, fun i u hi => by rw [Nat.zero_add]; exact (h.cell i).trans hi⟩
end Go.Proofs.YtnbdpalbompjlaaDoor

/-
  What the reference's functions on numbers answer: right, Mul64, above, root.
-/
namespace Go.Proofs.YtnbdpalbompjlaaDoor
open Go.RowKit
set_option maxRecDepth 10000

theorem orw_comm (x y : Nat) : orw x y = orw y x := by rw [orw, orw, Nat.or_comm]

theorem right_any (w : World) (x n : Nat) (h1 : 1 ≤ n) (h2 : n ≤ 31) :
    Calls Tryd.prog 71 #[.int .u32 x, .int .i64 n] w fun e w' => e = .returned (.int .u32 (rotr x n)) ∧ w' = w := by
  have e1 : IntKind.u64.wrap (n : Int) = (n : Int) := by simp [IntKind.wrap, IntKind.bits, IntKind.signed]; omega
  have e2 : (32 : Int) - (n : Int) = ((32 - n : Nat) : Int) := by omega
  have e3 : IntKind.u64.wrap ((32 - n : Nat) : Int) = ((32 - n : Nat) : Int) := by simp [IntKind.wrap, IntKind.bits, IntKind.signed]; omega
  have e4 : IntKind.u64.wrap (32 - (n : Int)) = ((32 - n : Nat) : Int) := by rw [e2]; exact e3
  have hf : bits .or .u32 ((x : Int) / 2 ^ n) ((x : Int) * 2 ^ (32 - n) % 4294967296) = ((rotr x n : Nat) : Int) := by
    have h := rule_or (shrw x n) (shlw x (32 - n))
    rw [orw_comm] at h
    simpa [shlw, shrw, rotr] using h
  go_enter Tryd.func71, Tryd.ntmps71
  go_wp2_with fail
  go_ret
  exact ⟨rfl, rfl⟩

def mul64 (x y : Nat) : Nat := x * y % 18446744073709551616
def low32 (x : Nat) : Nat := x % 4294967296
def high32 (x : Nat) : Nat := x / 4294967296
theorem rule_mul64 (x y : Nat) : IntKind.u64.wrap ((x : Int) * (y : Int)) = ((mul64 x y : Nat) : Int) := by
  simp [IntKind.wrap, IntKind.bits, IntKind.signed, mul64]
theorem rule_low32 (x : Nat) : bits .and .u64 (x : Int) 4294967295 = ((low32 x : Nat) : Int) := by
  have h := BitVec.toNat_and (BitVec.ofNat 64 x) (BitVec.ofNat 64 4294967295)
  rw [bits, show IntKind.u64.bits = 64 from rfl]
  have e1 : BitVec.ofInt 64 (x : Int) = BitVec.ofNat 64 x := by simp
  have e2 : BitVec.ofInt 64 (4294967295 : Int) = BitVec.ofNat 64 4294967295 := by decide
  rw [e1, e2]
  rw [h, BitVec.toNat_ofNat, BitVec.toNat_ofNat, show 4294967295 % 2 ^ 64 = 2 ^ 32 - 1 by decide, Nat.and_two_pow_sub_one_eq_mod]
  simp [IntKind.wrap, IntKind.bits, IntKind.signed, low32]
  omega
theorem rule_high32 (x : Nat) : (x : Int) / 4294967296 = ((high32 x : Nat) : Int) := by simp [high32]

/-- Mul64's own reckoning. -/
def mulHi (x y : Nat) : Nat :=
  let x0 := low32 x
  let x1 := high32 x
  let y0 := low32 y
  let y1 := high32 y
  let t := add64 (mul64 x1 y0) (high32 (mul64 x0 y0))
  let w1 := add64 (low32 t) (mul64 x0 y1)
  add64 (add64 (mul64 x1 y1) (high32 t)) (high32 w1)

theorem mul_any (w : World) (x y : Nat) :
    Calls Tryd.prog 81 #[.int .u64 x, .int .u64 y] w fun e w' => e = .returned (.tuple #[.int .u64 (mulHi x y), .int .u64 (mul64 x y)]) ∧ w' = w := by
  have r1 := rule_add64
  have r2 := rule_mul64
  have r3 := rule_low32
  have r4 := rule_high32
  go_enter Tryd.func81, Tryd.ntmps81
  go_wp2_with fail
  go_ret2
  exact ⟨rfl, rfl⟩

theorem add64_run (w : World) (x y : Nat) : (callFunc 82 #[.int .u64 x, .int .u64 y, .int .u64 0]).run Tryd.prog w = .ok (.value (.tuple #[.int .u64 ((add64 x y : Nat) : Int), .int .u64 (((x + y) / 18446744073709551616 : Nat) : Int)])) w := by
  rw [run_callFunc_extern Tryd.func82 (by kernel_rfl) (by kernel_rfl) (by kernel_rfl) (e := add64Entry) (by kernel_rfl), run_add64 (x : Int) (y : Int) 0 (by omega) (by omega) (by omega) (by omega) w]
  simp [Result.andThen, add64]

/-- Is x, to the power of 2, above p times 2^64? -/
def above2 (x p : Nat) : Bool := decide (p < mulHi x x) || (decide (mulHi x x = p) && decide (0 < mul64 x x))
def topOf (x : Nat) : Nat := add64 (mulHi (mulHi x x) x) ((mul64 (mulHi x x) x + mulHi (mul64 x x) x) / 18446744073709551616)
def midOf (x : Nat) : Nat := add64 (mul64 (mulHi x x) x) (mulHi (mul64 x x) x)
/-- Is x, to the power of 3, above p times 2^96? -/
def above3 (x p : Nat) : Bool :=
  if topOf x ≠ high32 p then decide (high32 p < topOf x)
  else if midOf x ≠ mul64 p 4294967296 then decide (mul64 p 4294967296 < midOf x)
  else decide (0 < mul64 (mul64 x x) x)

set_option maxHeartbeats 1000000 in
theorem above2_any (w : World) (x p : Nat) : Calls Tryd.prog 70 #[.int .u64 x, .int .u64 p, .int .i64 2] w fun e w' => e = .returned (.bool (above2 x p)) ∧ w' = w := by
  obtain ⟨a, ha⟩ : ∃ a, a = mulHi x x := ⟨_, rfl⟩
  obtain ⟨b, hb⟩ : ∃ b, b = mul64 x x := ⟨_, rfl⟩
  obtain ⟨R, hR⟩ : ∃ R, R = above2 x p := ⟨_, rfl⟩
  have HR := Lib.hid (show R = (decide (p < a) || (decide (a = p) && decide (0 < b))) by rw [hR, above2, ha, hb])
  rw [← hR]
  have HA := Lib.hid ha
  have HB := Lib.hid hb
  clear ha hb hR
  go_enter Tryd.func70, Tryd.ntmps70
  go_wp2_with fail
  refine (mul_any w x x).mono ?_
  rintro e w1 ⟨rfl, rfl⟩
  rw [← HA.out, ← HB.out]
  by_cases c1 : p < a
  · have d1 : (p : Int) < (a : Int) := by omega
    go_wp2_with fail
    go_ret
    refine ⟨?_, rfl⟩
    rw [HR.out]
    simp [c1]
  · have d1 : ¬ ((p : Int) < (a : Int)) := by omega
    by_cases c2 : a = p
    · have HP := Lib.hid c2
      have d2 : (a : Int) = (p : Int) := by omega
      clear c2
      go_wp2_with fail
      all_goals go_ret
      all_goals refine ⟨?_, rfl⟩
      all_goals rw [HR.out, HP.out]
      all_goals simp
    · have d2 : ¬ ((a : Int) = (p : Int)) := by omega
      go_wp2_with fail
      all_goals go_ret
      all_goals refine ⟨?_, rfl⟩
      all_goals rw [HR.out]
      all_goals simp [c1, c2]

set_option maxHeartbeats 1000000 in
theorem above3_any (w : World) (x p : Nat) : Calls Tryd.prog 70 #[.int .u64 x, .int .u64 p, .int .i64 3] w fun e w' => e = .returned (.bool (above3 x p)) ∧ w' = w := by
  obtain ⟨a, ha⟩ : ∃ a, a = mulHi x x := ⟨_, rfl⟩
  obtain ⟨b, hb⟩ : ∃ b, b = mul64 x x := ⟨_, rfl⟩
  obtain ⟨h1, hh1⟩ : ∃ y, y = mulHi a x := ⟨_, rfl⟩
  obtain ⟨l1, hl1⟩ : ∃ y, y = mul64 a x := ⟨_, rfl⟩
  obtain ⟨h0, hh0⟩ : ∃ y, y = mulHi b x := ⟨_, rfl⟩
  obtain ⟨l0, hl0⟩ : ∃ y, y = mul64 b x := ⟨_, rfl⟩
  obtain ⟨mid, hmid⟩ : ∃ y, y = add64 l1 h0 := ⟨_, rfl⟩
  obtain ⟨cy, hcy⟩ : ∃ y, y = (l1 + h0) / 18446744073709551616 := ⟨_, rfl⟩
  obtain ⟨top, htop⟩ : ∃ y, y = add64 h1 cy := ⟨_, rfl⟩
  obtain ⟨hp, hhp⟩ : ∃ y, y = high32 p := ⟨_, rfl⟩
  obtain ⟨wt, hwt⟩ : ∃ y, y = mul64 p 4294967296 := ⟨_, rfl⟩
  obtain ⟨R, hR⟩ : ∃ R, R = above3 x p := ⟨_, rfl⟩
  have HR := Lib.hid (show R = if top ≠ hp then decide (hp < top) else if mid ≠ wt then decide (wt < mid) else decide (0 < l0) by
    rw [hR, above3, topOf, midOf, hwt, hhp, htop, hcy, hmid, hl0, hh0, hl1, hh1, hb, ha])
  rw [← hR]
  have hadd := fun w => add64_run w l1 h0
  rw [← hmid, ← hcy] at hadd
  have r1 : IntKind.u64.wrap ((h1 : Int) + (cy : Int)) = (top : Int) := by rw [htop]; exact rule_add64 h1 cy
  have r2 : (p : Int) / 4294967296 = (hp : Int) := by rw [hhp]; exact rule_high32 p
  have r3 : IntKind.u64.wrap ((p : Int) * 4294967296) = (wt : Int) := by rw [hwt]; exact rule_mul64 p 4294967296
  have r4 : (p : Int) * 4294967296 % 18446744073709551616 = (wt : Int) := by rw [hwt]; simp [mul64]
  have HA := Lib.hid ha
  have HB := Lib.hid hb
  have HH1 := Lib.hid hh1
  have HL1 := Lib.hid hl1
  have HH0 := Lib.hid hh0
  have HL0 := Lib.hid hl0
  clear ha hb hh1 hl1 hh0 hl0 hmid hcy htop hhp hwt hR
  go_enter Tryd.func70, Tryd.ntmps70
  go_wp2_with fail
  refine (mul_any w x x).mono ?_
  rintro e w1 ⟨rfl, rfl⟩
  rw [← HA.out, ← HB.out]
  go_wp2_with fail
  refine (mul_any w1 a x).mono ?_
  rintro e w2 ⟨rfl, rfl⟩
  rw [← HH1.out, ← HL1.out]
  go_wp2_with fail
  refine (mul_any w2 b x).mono ?_
  rintro e w3 ⟨rfl, rfl⟩
  rw [← HH0.out, ← HL0.out]
  by_cases c1 : top ≠ hp
  · have d1 : ¬ ((top : Int) = (hp : Int)) := by omega
    go_wp2_with fail
    go_ret
    refine ⟨?_, rfl⟩
    rw [HR.out, if_pos c1]
    rfl
  · have c1' : top = hp := by omega
    subst c1'
    by_cases c2 : mid ≠ wt
    · have d2 : ¬ ((mid : Int) = (wt : Int)) := by omega
      go_wp2_with fail
      go_ret
      refine ⟨?_, rfl⟩
      rw [HR.out, if_neg c1, if_pos c2]
      rfl
    · have c2' : mid = wt := by omega
      subst c2'
      go_wp2_with fail
      go_ret
      refine ⟨?_, rfl⟩
      rw [HR.out, if_neg c1, if_neg c2]
      rfl
end Go.Proofs.YtnbdpalbompjlaaDoor
