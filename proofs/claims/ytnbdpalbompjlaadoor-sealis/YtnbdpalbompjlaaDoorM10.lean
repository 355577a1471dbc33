/-
  The texts LotsTk, RefPut, RefRoot, one behind the other.
-/
import Derived.Test.YtnbdpalbompjlaaDoorM9
import Derived.Test.YtnbdpalbompjlaaDoorM7
import Derived.Deep.RegionWith
import Derived.Deep.DeepCutAuto
import Derived.OpenShut
import Derived.IntWalk
import Derived.Test.YtnbdpalbompjlaaDoorM3
import Derived.Laws.Externs
/-
  The reference's way: the least of those that are left, one after the other: plain mathematics, and what its walk wants.
-/
namespace Go.Proofs.YtnbdpalbompjlaaDoor
open Go.RowKit
set_option maxRecDepth 10000

/-- The digests of the first j validators, as cells. -/
def rc (S j : Nat) : List Value := (List.range j).flatMap fun i => bv (lotD S i)
theorem rc_succ (S j : Nat) : rc S (j + 1) = rc S j ++ bv (lotD S j) := by simp [rc, List.range_succ]
theorem rc_length (S j : Nat) : (rc S j).length = j * 32 := by
  induction j with
  | zero => rfl
  | succ j ih => rw [rc_succ, List.length_append, ih, bv_length, lotD_length]; omega
theorem rc_at (S n i k : Nat) (hi : i < n) (hk : k < 32) : (rc S n)[i * 32 + k]? = (bv (lotD S i))[k]? := by
  induction n with
  | zero => omega
  | succ n ih =>
    rw [rc_succ]
    by_cases h : i < n
    · rw [List.getElem?_append_left (by rw [rc_length]; omega)]
      exact ih h
    · obtain rfl : i = n := by omega
      rw [List.getElem?_append_right (by rw [rc_length]; omega), rc_length, show i * 32 + k - i * 32 = k by omega]

/-- Who is taken already. -/
def tk (S n k : Nat) : List Bool := (List.range n).map fun i => decide (i ∈ (ranks S n).take k)
theorem tk_length (S n k : Nat) : (tk S n k).length = n := by simp [tk]
theorem tk_at (S n k i : Nat) (h : i < n) : (tk S n k)[i]? = some (decide (i ∈ (ranks S n).take k)) := by simp [tk, h]
theorem tk_zero (S n : Nat) : tk S n 0 = List.replicate n false := by
  apply List.ext_getElem?
  intro i
  by_cases h : i < n
  · rw [tk_at S n 0 i h]; simp [h]
  · rw [List.getElem?_eq_none (by rw [tk_length]; omega), List.getElem?_eq_none (by simp; omega)]
theorem tk_next (S n k m : Nat) (h : (ranks S n)[k]? = some m) : (tk S n k).set m true = tk S n (k + 1) := by
  apply List.ext_getElem?
  intro i
  by_cases hi : i < n
  · rw [List.getElem?_set, tk_at S n (k + 1) i hi, tk_length, List.take_add_one, h]
    by_cases hm : m = i
    · subst hm; simp [hi]
    · rw [if_neg hm, tk_at S n k i hi]
      simp only [Option.toList_some, List.mem_append, List.mem_singleton, show ¬ i = m from fun e => hm e.symm, or_false]
  · rw [List.getElem?_eq_none (by rw [List.length_set, tk_length]; omega), List.getElem?_eq_none (by rw [tk_length]; omega)]

/-- The best of the first j that aren't taken: -1, if there is none. -/
def Best (S n k j : Nat) (b : Int) : Prop :=
  (b = -1 ∧ ∀ i, i < j → i ∈ (ranks S n).take k) ∨ ∃ m : Nat, b = m ∧ m < j ∧ m ∉ (ranks S n).take k ∧ ∀ i, i < j → i ∉ (ranks S n).take k → i ≠ m → ltOf lotCmp (lotAt S m) (lotAt S i) = true
theorem best_taken {S n k j : Nat} {b : Int} (h : Best S n k j b) (ht : j ∈ (ranks S n).take k) : Best S n k (j + 1) b := by
  rcases h with ⟨h1, h2⟩ | ⟨m, h1, h2, h3, h4⟩
  · exact .inl ⟨h1, fun i hi => by
      rcases Nat.lt_or_ge i j with h | h
      · exact h2 i h
      · obtain rfl : i = j := by omega
        exact ht⟩
  · exact .inr ⟨m, h1, by omega, h3, fun i hi hn hne => by
      rcases Nat.lt_or_ge i j with h | h
      · exact h4 i h hn hne
      · obtain rfl : i = j := by omega
        exact absurd ht hn⟩
theorem best_first {S n k j : Nat} (h : ∀ i, i < j → i ∈ (ranks S n).take k) (ht : j ∉ (ranks S n).take k) : Best S n k (j + 1) (j : Int) :=
  .inr ⟨j, rfl, by omega, ht, fun i hi hn hne => absurd (h i (by omega)) hn⟩
theorem best_less {S n k j m : Nat} (h2 : m < j) (h4 : ∀ i, i < j → i ∉ (ranks S n).take k → i ≠ m → ltOf lotCmp (lotAt S m) (lotAt S i) = true) (ht : j ∉ (ranks S n).take k) (hl : lessB (lotD S j) (lotD S m) = true) : Best S n k (j + 1) (j : Int) := by
  have hjm : ltOf lotCmp (lotAt S j) (lotAt S m) = true := (lot_lt _ _).2 (.inl hl)
  refine .inr ⟨j, rfl, by omega, ht, fun i hi hn hne => ?_⟩
  by_cases him : i = m
  · subst him; exact hjm
  · exact lot_trans _ _ _ hjm (h4 i (by omega) hn him)
theorem best_keep {S n k j m : Nat} (h2 : m < j) (h3 : m ∉ (ranks S n).take k) (h4 : ∀ i, i < j → i ∉ (ranks S n).take k → i ≠ m → ltOf lotCmp (lotAt S m) (lotAt S i) = true) (hl : lessB (lotD S j) (lotD S m) = false) : Best S n k (j + 1) (m : Int) := by
  refine .inr ⟨m, rfl, by omega, h3, fun i hi hn hne => ?_⟩
  by_cases hij : i = j
  · subst hij
    by_cases he : lotD S m = lotD S i
    · exact (lot_lt _ _).2 (.inr ⟨he, h2⟩)
    · rcases less_tri (lotD S m) (lotD S i) (by rw [lotD_length, lotD_length]) he with ⟨h, _⟩ | ⟨_, h⟩
      · exact (lot_lt _ _).2 (.inl h)
      · rw [hl] at h; cases h
  · exact h4 i (by omega) hn hne
theorem best_end {S n k : Nat} {b : Int} (hk : k < n) (h : Best S n k n b) : ∃ m : Nat, b = m ∧ m < n ∧ (ranks S n)[k]? = some m := by
  rcases h with ⟨_, h2⟩ | ⟨m, h1, h2, h3, h4⟩
  · obtain ⟨i, hi, hn⟩ := ranks_left S n k hk
    exact absurd (h2 i hi) hn
  · exact ⟨m, h1, h2, ranks_next S n k m hk h2 h3 h4⟩

theorem wide_nil (k : Nat) (w : World) (base : Nat) : Wide k w base (.slice none 0 0) [] :=
  ⟨0, 0, 0, 0, none, rfl, by simp, Nat.le_refl _, Nat.zero_le _, fun h => absurd h (by omega), fun a' ha => (by cases ha), fun h => absurd h (by omega), fun j u h => by simp at h, fun j h => absurd h (by omega), fun j h => absurd h (by omega)⟩

/-- How long a slice is. -/
def lenOf : Value → Nat
  | .slice _ n _ => n
  | _ => 0

theorem Tryd.infoR : (Tryd.prog.info? 26).map (fun i => (i.zero, i.size, i.bytes)) = some (some (.agg (Array.replicate 32 (.int .u8 0))), 32, 32) := by kernel_rfl

theorem wpList_build_rows {P : Program} {ops : Array Oper} {rest : List Oper} {o : Oper} {a : Act} {w : World} {Q : Exit → Act → World → Prop} (hgd : o.guard = none) (t e : TypeId) (len : Nat) (parts : Array (Nat × Operand)) (ho : o.op = .buildSlice t len parts)
    (ie : TypeInfo) (z : Value) {s : Nat} (hs : 0 < s) (rows : List (List Value)) (hr : ∀ r ∈ rows, r.length = s)
    (hu : P.underlying t = some (.slice e)) (hie : P.info? e = some ie) (hz : ie.zero = some z) (hsz : ie.size = s) (hlen : len = rows.length) (hpos : 0 < len) (hsmall : len * s ≤ 2 ^ 24)
    (hp : (parts.toList.map fun x => (x.1, a.eval x.2)) = ((aggs rows).zipIdx 0).map fun x => (x.2, x.1))
    (h : wpList P ops Q rest (a.put o.dst (.slice (some ⟨w.heap.size, 0, none⟩) len len)) (w.alloc (.cells rows.flatten.toArray e))) : wpList P ops Q (o :: rest) a w := by
  refine wpList_plain hgd fun K hK => ?_
  unfold Oper.wp execOp
  simp only [ho, Sem.run_bind, run_build_rows w t e len _ ie z hs rows hr hu hie hz hsz hlen hpos hsmall (show (parts.map fun (i, x) => (i, a.eval x)).toList = _ by rw [Array.toList_map]; exact hp), Result.andThen_ok]
  exact hK _ _ h

/-- One row that was just built, as append's source. -/
theorem src_row {P : Program} (w : World) (k : Nat) (hk : 0 < k) (t e : TypeId) (ht : P.underlying t = some (.slice e)) (r : List Value) (hr : r.length = k) (h1 : ∀ u ∈ r, u.oneCell' = true) : Src P k t (.slice (some ⟨w.heap.size, 0, none⟩) 1 1) 1 r (w.alloc (.cells r.toArray e)) := by
  have hl : Lies (w.alloc (.cells r.toArray e)) (w.alloc (.cells r.toArray e)).heap.size (some ⟨w.heap.size, 0, none⟩) w.heap.size 0 r :=
    ⟨fun _ => rfl, fun _ => by simp, fun j u hj => by rw [Nat.zero_add]; exact ((Blk.new w e r.toArray).cell j).trans hj⟩
  exact hl.src 1 t e ht (by omega) h1 hk
end Go.Proofs.YtnbdpalbompjlaaDoor

/-
  What the document's own Put (tollerref01) does.
-/
namespace Go.Proofs.YtnbdpalbompjlaaDoor
open Go.RowKit
set_option maxRecDepth 10000

theorem bcell {W w1 : World} (hb : Below W.heap.size W w1) : (∀ b o, b < W.heap.size → w1.cell? ⟨b, o, none⟩ = W.cell? ⟨b, o, none⟩) ∧ (∀ b o, b < W.heap.size → w1.frozen? ⟨b, o, none⟩ = W.frozen? ⟨b, o, none⟩) :=
  ⟨fun b o h => hb.cell (p := ⟨b, o, none⟩) h, fun b o h => hb.frozen (p := ⟨b, o, none⟩) h⟩

theorem refput_zero (w : World) (n : Int) (width : Int) (h : width ≤ 0) :
    Calls Tryd.prog 46 #[.int .u64 n, .int .i64 width] w fun e w' => e = .returned (.string ByteArray.empty) ∧ Below w.heap.size w w' := by
  go_enter Tryd.func46, Tryd.ntmps46
  go_wp2
  go_ret
  exact ⟨rfl, Below.refl _ _⟩

theorem conv_one (W : World) (b : Nat) (c : UInt8) (h : W.cell? ⟨b, 0, none⟩ = some (.int .u8 (c.toNat : Int))) :
    Sem.run Tryd.prog (convert 86 9 (.slice (some ⟨b, 0, none⟩) 1 1)) W = .ok (.string ⟨#[c]⟩) W :=
  run_convert_bytes_back W 86 9 5 ⟨b, 0, none⟩ 1 [c] Tryd.underlying86 Tryd.underlying5 Tryd.underlying9 fun j hj => by
    obtain rfl : j = 0 := by simpa using hj
    simpa [Addr.add] using h

set_option maxHeartbeats 400000 in
theorem refput_step (w : World) (n : Nat) (q : Nat) (c : UInt8) (k : Nat) (hk : k + 1 ≤ 8) (e1 : ((n : Int).tmod 256) = (c.toNat : Int)) (e2 : IntKind.u8.wrap (c.toNat : Int) = (c.toNat : Int)) (e3 : IntKind.u64.wrap ((n : Int) / 256) = (q : Int)) (R : ByteArray) (hR : R.size ≤ 8)
    (ih : ∀ w, Calls Tryd.prog 46 #[.int .u64 (q : Int), .int .i64 (k : Int)] w fun e w' => e = .returned (.string R) ∧ Below w.heap.size w w') :
    Calls Tryd.prog 46 #[.int .u64 n, .int .i64 ((k : Int) + 1)] w fun e w' => e = .returned (.string (⟨#[c]⟩ ++ R)) ∧ Below w.heap.size w w' := by
  have h0 : ¬ ((k : Int) + 1 ≤ 0) := by omega
  have h8 : (k : Int) + 1 ≤ 8 := by omega
  have H := Lib.hid ih
  clear ih
  have e4 : IntKind.i64.wrap (k : Int) = (k : Int) := IntWalk.i64_in _ (by omega)
  have hcv := fun W b => conv_one W b c
  go_enter Tryd.func46, Tryd.ntmps46
  go_wp2_with fail
  go_region_with (go_at_call 46; ((with_reducible refine (H.out _).mono ?_); rintro e w2 ⟨rfl, hb⟩; obtain ⟨hc, hf⟩ := bcell hb))
  all_goals
    go_wp2
    go_ret
    first
      | exact ⟨rfl, ((Below.refl _ _).alloc (Nat.le_refl _) _).drew.trans (hb.mono (by simp))⟩
      | exact ⟨rfl, ((Below.refl _ _).drew.trans (hb.mono (Nat.le_refl _))).alloc (by exact hb.size) _⟩

set_option maxHeartbeats 400000 in
theorem refput_top (w : World) (n : Nat) (q : Nat) (c : UInt8) (width : Int) (hw : 8 < width) (e1 : ((n : Int).tmod 256) = (c.toNat : Int)) (e2 : IntKind.u8.wrap (c.toNat : Int) = (c.toNat : Int)) (e3 : IntKind.u64.wrap ((n : Int) / 256) = (q : Int)) (R : ByteArray) (hR : R.size ≤ 8)
    (ih : ∀ w, Calls Tryd.prog 46 #[.int .u64 (q : Int), .int .i64 7] w fun e w' => e = .returned (.string R) ∧ Below w.heap.size w w') :
    Calls Tryd.prog 46 #[.int .u64 n, .int .i64 width] w fun e w' => e = .returned (.string (⟨#[c]⟩ ++ R)) ∧ Below w.heap.size w w' := by
  have h0 : ¬ (width ≤ 0) := by omega
  have h8 : ¬ (width ≤ 8) := by omega
  have H := Lib.hid ih
  clear ih
  have e4 : IntKind.i64.wrap 7 = 7 := IntWalk.i64_in _ (by omega)
  have hcv := fun W b => conv_one W b c
  go_enter Tryd.func46, Tryd.ntmps46
  go_wp2_with fail
  go_region_with (go_at_call 46; ((with_reducible refine (H.out _).mono ?_); rintro e w2 ⟨rfl, hb⟩; obtain ⟨hc, hf⟩ := bcell hb))
  all_goals
    go_wp2
    go_ret
    first
      | exact ⟨rfl, ((Below.refl _ _).alloc (Nat.le_refl _) _).drew.trans (hb.mono (by simp))⟩
      | exact ⟨rfl, ((Below.refl _ _).drew.trans (hb.mono (Nat.le_refl _))).alloc (by exact hb.size) _⟩

theorem step_facts (n : Nat) (hn : n < 2 ^ 64) : ((n : Int).tmod 256) = ((UInt8.ofNat (n % 256)).toNat : Int) ∧ IntKind.u8.wrap ((UInt8.ofNat (n % 256)).toNat : Int) = ((UInt8.ofNat (n % 256)).toNat : Int) ∧
    IntKind.u64.wrap ((n : Int) / 256) = ((n / 256 : Nat) : Int) := by
  have h : (UInt8.ofNat (n % 256)).toNat = n % 256 := by simp
  rw [h]
  refine ⟨?_, ?_, ?_⟩
  · rw [Int.tmod_eq_emod_of_nonneg (by omega)]; omega
  · exact IntWalk.u8_in _ (by omega)
  · rw [IntKind.wrap_u64]; omega

theorem le_cons (n k : Nat) : (⟨#[UInt8.ofNat (n % 256)]⟩ : ByteArray) ++ ⟨(leB (n / 256) k).toArray⟩ = ⟨(leB n (k + 1)).toArray⟩ := by
  apply ByteArray.ext
  simp [leB]

theorem le_size (n k : Nat) : (⟨(leB n k).toArray⟩ : ByteArray).size = k := by simp [ByteArray.size, leB_length]

theorem refput_nat (k : Nat) : ∀ (n : Nat) (w : World), k ≤ 8 → n < 2 ^ 64 →
    Calls Tryd.prog 46 #[.int .u64 n, .int .i64 (k : Int)] w fun e w' => e = .returned (.string ⟨(leB n k).toArray⟩) ∧ Below w.heap.size w w' := by
  induction k with
  | zero => intro n w _ _; exact refput_zero w n 0 (by omega)
  | succ k ih =>
    intro n w hk hn
    obtain ⟨e1, e2, e3⟩ := step_facts n hn
    have := refput_step w n (n / 256) (UInt8.ofNat (n % 256)) k hk e1 e2 e3 ⟨(leB (n / 256) k).toArray⟩ (by rw [le_size]; omega) (fun w => ih (n / 256) w (by omega) (by omega))
    rw [le_cons] at this
    exact this

theorem refput_any (w : World) (n : Nat) (width : Int) (hn : n < 2 ^ 64) :
    Calls Tryd.prog 46 #[.int .u64 n, .int .i64 width] w fun e w' => e = .returned (.string ⟨(leB n (wid width)).toArray⟩) ∧ Below w.heap.size w w' := by
  by_cases h0 : width ≤ 0
  · rw [show wid width = 0 by unfold wid; omega]
    exact refput_zero w n width h0
  · by_cases h8 : 8 < width
    · rw [show wid width = 7 + 1 by unfold wid; omega]
      obtain ⟨e1, e2, e3⟩ := step_facts n hn
      have := refput_top w n (n / 256) (UInt8.ofNat (n % 256)) width h8 e1 e2 e3 ⟨(leB (n / 256) 7).toArray⟩ (by rw [le_size]; omega) (fun w => refput_nat 7 (n / 256) w (by omega) (by omega))
      rw [le_cons] at this
      exact this
    · obtain ⟨k, rfl⟩ : ∃ k : Nat, width = k := ⟨width.toNat, by omega⟩
      rw [show wid (k : Int) = k by unfold wid; omega]
      exact refput_nat k n w (by omega) hn

end Go.Proofs.YtnbdpalbompjlaaDoor

/-
  What the reference's functions on numbers answer: right, Mul64, above, root.
-/
namespace Go.Proofs.YtnbdpalbompjlaaDoor
open Go.RowKit
set_option maxRecDepth 10000

theorem orw_comm (x y : Nat) : orw x y = orw y x := by rw [orw, orw, Nat.or_comm]

theorem right_any (w : World) (x n : Nat) (h1 : 1 ≤ n) (h2 : n ≤ 31) :
    Calls Tryd.prog 71 #[.int .u32 x, .int .i64 n] w fun e w' => e = .returned (.int .u32 (rotr x n)) ∧ w' = w := by
  have e1 : IntKind.u64.wrap (n : Int) = (n : Int) := by simp [IntKind.wrap, IntKind.bits, IntKind.signed]; omega
  have e2 : (32 : Int) - (n : Int) = ((32 - n : Nat) : Int) := by omega
  have e3 : IntKind.u64.wrap ((32 - n : Nat) : Int) = ((32 - n : Nat) : Int) := by simp [IntKind.wrap, IntKind.bits, IntKind.signed]; omega
  have e4 : IntKind.u64.wrap (32 - (n : Int)) = ((32 - n : Nat) : Int) := by rw [e2]; exact e3
  have hf : bits .or .u32 ((x : Int) / 2 ^ n) ((x : Int) * 2 ^ (32 - n) % 4294967296) = ((rotr x n : Nat) : Int) := by
    have h := rule_or (shrw x n) (shlw x (32 - n))
    rw [orw_comm] at h
    simpa [shlw, shrw, rotr] using h
  go_enter Tryd.func71, Tryd.ntmps71
  go_wp2_with fail
  go_ret
  exact ⟨rfl, rfl⟩

def mul64 (x y : Nat) : Nat := x * y % 18446744073709551616
def low32 (x : Nat) : Nat := x % 4294967296
def high32 (x : Nat) : Nat := x / 4294967296
theorem rule_mul64 (x y : Nat) : IntKind.u64.wrap ((x : Int) * (y : Int)) = ((mul64 x y : Nat) : Int) := by
  simp [IntKind.wrap, IntKind.bits, IntKind.signed, mul64]
theorem rule_low32 (x : Nat) : bits .and .u64 (x : Int) 4294967295 = ((low32 x : Nat) : Int) := by
  have h := BitVec.toNat_and (BitVec.ofNat 64 x) (BitVec.ofNat 64 4294967295)
  rw [bits, show IntKind.u64.bits = 64 from rfl]
  have e1 : BitVec.ofInt 64 (x : Int) = BitVec.ofNat 64 x := by simp
  have e2 : BitVec.ofInt 64 (4294967295 : Int) = BitVec.ofNat 64 4294967295 := by decide
  rw [e1, e2]
  rw [h, BitVec.toNat_ofNat, BitVec.toNat_ofNat, show 4294967295 % 2 ^ 64 = 2 ^ 32 - 1 by decide, Nat.and_two_pow_sub_one_eq_mod]
  simp [IntKind.wrap, IntKind.bits, IntKind.signed, low32]
  omega
theorem rule_high32 (x : Nat) : (x : Int) / 4294967296 = ((high32 x : Nat) : Int) := by simp [high32]

/-- Mul64's own reckoning. -/
def mulHi (x y : Nat) : Nat :=
  let x0 := low32 x
  let x1 := high32 x
  let y0 := low32 y
  let y1 := high32 y
  let t := add64 (mul64 x1 y0) (high32 (mul64 x0 y0))
  let w1 := add64 (low32 t) (mul64 x0 y1)
  add64 (add64 (mul64 x1 y1) (high32 t)) (high32 w1)

theorem mul_any (w : World) (x y : Nat) :
    Calls Tryd.prog 81 #[.int .u64 x, .int .u64 y] w fun e w' => e = .returned (.tuple #[.int .u64 (mulHi x y), .int .u64 (mul64 x y)]) ∧ w' = w := by
  have r1 := rule_add64
  have r2 := rule_mul64
  have r3 := rule_low32
  have r4 := rule_high32
  go_enter Tryd.func81, Tryd.ntmps81
  go_wp2_with fail
  go_ret2
  exact ⟨rfl, rfl⟩

theorem add64_run (w : World) (x y : Nat) : (callFunc 82 #[.int .u64 x, .int .u64 y, .int .u64 0]).run Tryd.prog w = .ok (.value (.tuple #[.int .u64 ((add64 x y : Nat) : Int), .int .u64 (((x + y) / 18446744073709551616 : Nat) : Int)])) w := by
  rw [run_callFunc_extern Tryd.func82 (by kernel_rfl) (by kernel_rfl) (by kernel_rfl) (e := add64Entry) (by kernel_rfl), run_add64 (x : Int) (y : Int) 0 (by omega) (by omega) (by omega) (by omega) w]
  simp [Result.andThen, add64]

/-- Is x, to the power of 2, above p times 2^64? -/
def above2 (x p : Nat) : Bool := decide (p < mulHi x x) || (decide (mulHi x x = p) && decide (0 < mul64 x x))
def topOf (x : Nat) : Nat := add64 (mulHi (mulHi x x) x) ((mul64 (mulHi x x) x + mulHi (mul64 x x) x) / 18446744073709551616)
def midOf (x : Nat) : Nat := add64 (mul64 (mulHi x x) x) (mulHi (mul64 x x) x)
/-- Is x, to the power of 3, above p times 2^96? -/
def above3 (x p : Nat) : Bool :=
  if topOf x ≠ high32 p then decide (high32 p < topOf x)
  else if midOf x ≠ mul64 p 4294967296 then decide (mul64 p 4294967296 < midOf x)
  else decide (0 < mul64 (mul64 x x) x)

set_option maxHeartbeats 1000000 in
theorem above2_any (w : World) (x p : Nat) : Calls Tryd.prog 70 #[.int .u64 x, .int .u64 p, .int .i64 2] w fun e w' => e = .returned (.bool (above2 x p)) ∧ w' = w := by
  obtain ⟨a, ha⟩ : ∃ a, a = mulHi x x := ⟨_, rfl⟩
  obtain ⟨b, hb⟩ : ∃ b, b = mul64 x x := ⟨_, rfl⟩
  obtain ⟨R, hR⟩ : ∃ R, R = above2 x p := ⟨_, rfl⟩
  have HR := Lib.hid (show R = (decide (p < a) || (decide (a = p) && decide (0 < b))) by rw [hR, above2, ha, hb])
  rw [← hR]
  have HA := Lib.hid ha
  have HB := Lib.hid hb
  clear ha hb hR
  go_enter Tryd.func70, Tryd.ntmps70
  go_wp2_with fail
  refine (mul_any w x x).mono ?_
  rintro e w1 ⟨rfl, rfl⟩
  rw [← HA.out, ← HB.out]
  by_cases c1 : p < a
  · have d1 : (p : Int) < (a : Int) := by omega
    go_wp2_with fail
    go_ret
    refine ⟨?_, rfl⟩
    rw [HR.out]
    simp [c1]
  · have d1 : ¬ ((p : Int) < (a : Int)) := by omega
    by_cases c2 : a = p
    · have HP := Lib.hid c2
      have d2 : (a : Int) = (p : Int) := by omega
      clear c2
      go_wp2_with fail
      all_goals go_ret
      all_goals refine ⟨?_, rfl⟩
      all_goals rw [HR.out, HP.out]
      all_goals simp
    · have d2 : ¬ ((a : Int) = (p : Int)) := by omega
      go_wp2_with fail
      all_goals go_ret
      all_goals refine ⟨?_, rfl⟩
      all_goals rw [HR.out]
      all_goals simp [c1, c2]

set_option maxHeartbeats 1000000 in
theorem above3_any (w : World) (x p : Nat) : Calls Tryd.prog 70 #[.int .u64 x, .int .u64 p, .int .i64 3] w fun e w' => e = .returned (.bool (above3 x p)) ∧ w' = w := by
  obtain ⟨a, ha⟩ : ∃ a, a = mulHi x x := ⟨_, rfl⟩
  obtain ⟨b, hb⟩ : ∃ b, b = mul64 x x := ⟨_, rfl⟩
  obtain ⟨h1, hh1⟩ : ∃ y, y = mulHi a x := ⟨_, rfl⟩
  obtain ⟨l1, hl1⟩ : ∃ y, y = mul64 a x := ⟨_, rfl⟩
  obtain ⟨h0, hh0⟩ : ∃ y, y = mulHi b x := ⟨_, rfl⟩
  obtain ⟨l0, hl0⟩ : ∃ y, y = mul64 b x := ⟨_, rfl⟩
  obtain ⟨mid, hmid⟩ : ∃ y, y = add64 l1 h0 := ⟨_, rfl⟩
  obtain ⟨cy, hcy⟩ : ∃ y, y = (l1 + h0) / 18446744073709551616 := ⟨_, rfl⟩
  obtain ⟨top, htop⟩ : ∃ y, y = add64 h1 cy := ⟨_, rfl⟩
  obtain ⟨hp, hhp⟩ : ∃ y, y = high32 p := ⟨_, rfl⟩
  obtain ⟨wt, hwt⟩ : ∃ y, y = mul64 p 4294967296 := ⟨_, rfl⟩
  obtain ⟨R, hR⟩ : ∃ R, R = above3 x p := ⟨_, rfl⟩
  have HR := Lib.hid (show R = if top ≠ hp then decide (hp < top) else if mid ≠ wt then decide (wt < mid) else decide (0 < l0) by
    rw [hR, above3, topOf, midOf, hwt, hhp, htop, hcy, hmid, hl0, hh0, hl1, hh1, hb, ha])
  rw [← hR]
  have hadd := fun w => add64_run w l1 h0
  rw [← hmid, ← hcy] at hadd
  have r1 : IntKind.u64.wrap ((h1 : Int) + (cy : Int)) = (top : Int) := by rw [htop]; exact rule_add64 h1 cy
  have r2 : (p : Int) / 4294967296 = (hp : Int) := by rw [hhp]; exact rule_high32 p
  have r3 : IntKind.u64.wrap ((p : Int) * 4294967296) = (wt : Int) := by rw [hwt]; exact rule_mul64 p 4294967296
  have r4 : (p : Int) * 4294967296 % 18446744073709551616 = (wt : Int) := by rw [hwt]; simp [mul64]
  have HA := Lib.hid ha
  have HB := Lib.hid hb
  have HH1 := Lib.hid hh1
  have HL1 := Lib.hid hl1
  have HH0 := Lib.hid hh0
  have HL0 := Lib.hid hl0
  clear ha hb hh1 hl1 hh0 hl0 hmid hcy htop hhp hwt hR
  go_enter Tryd.func70, Tryd.ntmps70
  go_wp2_with fail
  refine (mul_any w x x).mono ?_
  rintro e w1 ⟨rfl, rfl⟩
  rw [← HA.out, ← HB.out]
  go_wp2_with fail
  refine (mul_any w1 a x).mono ?_
  rintro e w2 ⟨rfl, rfl⟩
  rw [← HH1.out, ← HL1.out]
  go_wp2_with fail
  refine (mul_any w2 b x).mono ?_
  rintro e w3 ⟨rfl, rfl⟩
  rw [← HH0.out, ← HL0.out]
  by_cases c1 : top ≠ hp
  · have d1 : ¬ ((top : Int) = (hp : Int)) := by omega
    go_wp2_with fail
    go_ret
    refine ⟨?_, rfl⟩
    rw [HR.out, if_pos c1]
    rfl
  · have c1' : top = hp := by omega
    subst c1'
    by_cases c2 : mid ≠ wt
    · have d2 : ¬ ((mid : Int) = (wt : Int)) := by omega
      go_wp2_with fail
      go_ret
      refine ⟨?_, rfl⟩
      rw [HR.out, if_neg c1, if_pos c2]
      rfl
    · have c2' : mid = wt := by omega
      subst c2'
      go_wp2_with fail
      go_ret
      refine ⟨?_, rfl⟩
      rw [HR.out, if_neg c1, if_neg c2]
      rfl
end Go.Proofs.YtnbdpalbompjlaaDoor
