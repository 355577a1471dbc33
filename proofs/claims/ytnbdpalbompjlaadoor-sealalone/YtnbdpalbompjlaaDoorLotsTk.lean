/-
  The reference's way: the least of those that are left, one after the other: plain mathematics, and what its walk wants.
-/
import Derived.Test.YtnbdpalbompjlaaDoorM17
import Derived.Test.YtnbdpalbompjlaaDoorBuildRows
namespace Go.Proofs.YtnbdpalbompjlaaDoor
open Go.RowKit
set_option maxRecDepth 10000

/-- The digests of the first j validators, as cells. -/
def rc (S j : Nat) : List Value := (List.range j).flatMap fun i => bv (lotD S i)
theorem rc_succ (S j : Nat) : rc S (j + 1) = rc S j ++ bv (lotD S j) := by simp [rc, List.range_succ]
theorem rc_length (S j : Nat) : (rc S j).length = j * 32 := by
  induction j with
  | zero => rfl
  | succ j ih => rw [rc_succ, List.length_append, ih, bv_length, lotD_length]; omega
theorem rc_at (S n i k : Nat) (hi : i < n) (hk : k < 32) : (rc S n)[i * 32 + k]? = (bv (lotD S i))[k]? := by
  induction n with
  | zero => omega
  | succ n ih =>
    rw [rc_succ]
    by_cases h : i < n
    · rw [List.getElem?_append_left (by rw [rc_length]; omega)]
      exact ih h
    · obtain rfl : i = n := by omega
      rw [List.getElem?_append_right (by rw [rc_length]; omega), rc_length, show i * 32 + k - i * 32 = k by omega]

/-- Who is taken already. -/
def tk (S n k : Nat) : List Bool := (List.range n).map fun i => decide (i ∈ (ranks S n).take k)
theorem tk_length (S n k : Nat) : (tk S n k).length = n := by simp [tk]
theorem tk_at (S n k i : Nat) (h : i < n) : (tk S n k)[i]? = some (decide (i ∈ (ranks S n).take k)) := by simp [tk, h]
theorem tk_zero (S n : Nat) : tk S n 0 = List.replicate n false := by
  apply List.ext_getElem?
  intro i
  by_cases h : i < n
  · rw [tk_at S n 0 i h]; simp [h]
  · rw [List.getElem?_eq_none (by rw [tk_length]; omega), List.getElem?_eq_none (by simp; omega)]
theorem tk_next (S n k m : Nat) (h : (ranks S n)[k]? = some m) : (tk S n k).set m true = tk S n (k + 1) := by
  apply List.ext_getElem?
  intro i
  by_cases hi : i < n
  · rw [List.getElem?_set, tk_at S n (k + 1) i hi, tk_length, List.take_add_one, h]
    by_cases hm : m = i
    · subst hm; simp [hi]
    · rw [if_neg hm, tk_at S n k i hi]
      simp only [Option.toList_some, List.mem_append, List.mem_singleton, show ¬ i = m from fun e => hm e.symm, or_false]
  · rw [List.getElem?_eq_none (by rw [List.length_set, tk_length]; omega), List.getElem?_eq_none (by rw [tk_length]; omega)]

/-- The best of the first j that aren't taken: -1, if there is none. -/
def Best (S n k j : Nat) (b : Int) : Prop :=
  (b = -1 ∧ ∀ i, i < j → i ∈ (ranks S n).take k) ∨ ∃ m : Nat, b = m ∧ m < j ∧ m ∉ (ranks S n).take k ∧ ∀ i, i < j → i ∉ (ranks S n).take k → i ≠ m → ltOf lotCmp (lotAt S m) (lotAt S i) = true
theorem best_taken {S n k j : Nat} {b : Int} (h : Best S n k j b) (ht : j ∈ (ranks S n).take k) : Best S n k (j + 1) b := by
  rcases h with ⟨h1, h2⟩ | ⟨m, h1, h2, h3, h4⟩
  · exact .inl ⟨h1, fun i hi => by
      rcases Nat.lt_or_ge i j with h | h
      · exact h2 i h
      · obtain rfl : i = j := by omega
        exact ht⟩
  · exact .inr ⟨m, h1, by omega, h3, fun i hi hn hne => by
      rcases Nat.lt_or_ge i j with h | h
      · exact h4 i h hn hne
      · obtain rfl : i = j := by omega
        exact absurd ht hn⟩
theorem best_first {S n k j : Nat} (h : ∀ i, i < j → i ∈ (ranks S n).take k) (ht : j ∉ (ranks S n).take k) : Best S n k (j + 1) (j : Int) :=
  .inr ⟨j, rfl, by omega, ht, fun i hi hn hne => absurd (h i (by omega)) hn⟩
theorem best_less {S n k j m : Nat} (h2 : m < j) (h4 : ∀ i, i < j → i ∉ (ranks S n).take k → i ≠ m → ltOf lotCmp (lotAt S m) (lotAt S i) = true) (ht : j ∉ (ranks S n).take k) (hl : lessB (lotD S j) (lotD S m) = true) : Best S n k (j + 1) (j : Int) := by
  have hjm : ltOf lotCmp (lotAt S j) (lotAt S m) = true := (lot_lt _ _).2 (.inl hl)
  refine .inr ⟨j, rfl, by omega, ht, fun i hi hn hne => ?_⟩
  by_cases him : i = m
  · subst him; exact hjm
  · exact lot_trans _ _ _ hjm (h4 i (by omega) hn him)
theorem best_keep {S n k j m : Nat} (h2 : m < j) (h3 : m ∉ (ranks S n).take k) (h4 : ∀ i, i < j → i ∉ (ranks S n).take k → i ≠ m → ltOf lotCmp (lotAt S m) (lotAt S i) = true) (hl : lessB (lotD S j) (lotD S m) = false) : Best S n k (j + 1) (m : Int) := by
  refine .inr ⟨m, rfl, by omega, h3, fun i hi hn hne => ?_⟩
  by_cases hij : i = j
  · subst hij
    by_cases he : lotD S m = lotD S i
    · exact (lot_lt _ _).2 (.inr ⟨he, h2⟩)
    · rcases less_tri (lotD S m) (lotD S i) (by rw [lotD_length, lotD_length]) he with ⟨h, _⟩ | ⟨_, h⟩
      · exact (lot_lt _ _).2 (.inl h)
      · rw [hl] at h; cases h
  · exact h4 i (by omega) hn hne
theorem best_end {S n k : Nat} {b : Int} (hk : k < n) (h : Best S n k n b) : ∃ m : Nat, b = m ∧ m < n ∧ (ranks S n)[k]? = some m := by
  rcases h with ⟨_, h2⟩ | ⟨m, h1, h2, h3, h4⟩
  · obtain ⟨i, hi, hn⟩ := ranks_left S n k hk
    exact absurd (h2 i hi) hn
  · exact ⟨m, h1, h2, ranks_next S n k m hk h2 h3 h4⟩

theorem wide_nil (k : Nat) (w : World) (base : Nat) : Wide k w base (.slice none 0 0) [] :=
  ⟨0, 0, 0, 0, none, rfl, by simp, Nat.le_refl _, Nat.zero_le _, fun h => absurd h (by omega), fun a' ha => (by cases ha), fun h => absurd h (by omega), fun j u h => by simp at h, fun j h => absurd h (by omega), fun j h => absurd h (by omega)⟩

/-- How long a slice is. -/
def lenOf : Value → Nat
  | .slice _ n _ => n
  | _ => 0

theorem Tryd.infoR : (Tryd.prog.info? 26).map (fun i => (i.zero, i.size, i.bytes)) = some (some (.agg (Array.replicate 32 (.int .u8 0))), 32, 32) := by kernel_rfl

theorem wpList_build_rows {P : Program} {ops : Array Oper} {rest : List Oper} {o : Oper} {a : Act} {w : World} {Q : Exit → Act → World → Prop} (hgd : o.guard = none) (t e : TypeId) (len : Nat) (parts : Array (Nat × Operand)) (ho : o.op = .buildSlice t len parts)
    (ie : TypeInfo) (z : Value) {s : Nat} (hs : 0 < s) (rows : List (List Value)) (hr : ∀ r ∈ rows, r.length = s)
    (hu : P.underlying t = some (.slice e)) (hie : P.info? e = some ie) (hz : ie.zero = some z) (hsz : ie.size = s) (hlen : len = rows.length) (hpos : 0 < len) (hsmall : len * s ≤ 2 ^ 24)
    (hp : (parts.toList.map fun x => (x.1, a.eval x.2)) = ((aggs rows).zipIdx 0).map fun x => (x.2, x.1))
    (h : wpList P ops Q rest (a.put o.dst (.slice (some ⟨w.heap.size, 0, none⟩) len len)) (w.alloc (.cells rows.flatten.toArray e))) : wpList P ops Q (o :: rest) a w := by
  refine wpList_plain hgd fun K hK => ?_
  unfold Oper.wp execOp
  simp only [ho, Sem.run_bind, run_build_rows w t e len _ ie z hs rows hr hu hie hz hsz hlen hpos hsmall (show (parts.map fun (i, x) => (i, a.eval x)).toList = _ by rw [Array.toList_map]; exact hp), Result.andThen_ok]
  exact hK _ _ h

/-- One row that was just built, as append's source. -/
theorem src_row {P : Program} (w : World) (k : Nat) (hk : 0 < k) (t e : TypeId) (ht : P.underlying t = some (.slice e)) (r : List Value) (hr : r.length = k) (h1 : ∀ u ∈ r, u.oneCell' = true) : Src P k t (.slice (some ⟨w.heap.size, 0, none⟩) 1 1) 1 r (w.alloc (.cells r.toArray e)) := by
  have hl : Lies (w.alloc (.cells r.toArray e)) (w.alloc (.cells r.toArray e)).heap.size (some ⟨w.heap.size, 0, none⟩) w.heap.size 0 r :=
    ⟨fun _ => rfl, fun _ => by simp, fun j u hj => by rw [Nat.zero_add]; exact ((Blk.new w e r.toArray).cell j).trans hj⟩
  exact hl.src 1 t e ht (by omega) h1 hk
end Go.Proofs.YtnbdpalbompjlaaDoor
