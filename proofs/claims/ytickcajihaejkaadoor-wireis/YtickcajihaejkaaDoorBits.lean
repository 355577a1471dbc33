/-
  Rows of yes and no as numbers and as bytes: plain mathematics, nothing of the program.
-/
import Derived.Test.YtickcajihaejkaaDoorPlain
namespace Go.Proofs.YtickcajihaejkaaDoor

/-- A row as a number, the first one lowest. -/
def packN : List Bool → Nat
  | [] => 0
  | b :: r => b.toNat + 2 * packN r

theorem bool_toNat_le (b : Bool) : b.toNat ≤ 1 := by cases b <;> simp

theorem packN_lt : ∀ l : List Bool, packN l < 2 ^ l.length
  | [] => by simp [packN]
  | b :: r => by
    have h := packN_lt r
    have := bool_toNat_le b
    rw [packN, List.length_cons, Nat.pow_succ]
    omega

theorem packN_append : ∀ l r : List Bool, packN (l ++ r) = packN l + 2 ^ l.length * packN r
  | [], r => by simp [packN]
  | b :: t, r => by
    rw [List.cons_append, packN, packN_append t r, packN, List.length_cons, Nat.pow_succ, Nat.mul_add, ← Nat.add_assoc, Nat.mul_comm (2 ^ t.length) 2, Nat.mul_assoc]

theorem packN_snoc (l : List Bool) (b : Bool) : packN (l ++ [b]) = packN l + 2 ^ l.length * b.toNat := by
  rw [packN_append]; simp [packN]

theorem packN_drop : ∀ (k : Nat) (l : List Bool), packN l / 2 ^ k = packN (l.drop k)
  | 0, l => by simp
  | k + 1, [] => by simp [packN]
  | k + 1, b :: r => by
    have := bool_toNat_le b
    rw [List.drop_succ_cons, ← packN_drop k r, packN, Nat.pow_succ, Nat.mul_comm (2 ^ k) 2, ← Nat.div_div_eq_div_mul]
    congr 1
    omega

theorem packN_take : ∀ (k : Nat) (l : List Bool), packN l % 2 ^ k = packN (l.take k)
  | 0, l => by simp [packN, Nat.mod_one]
  | k + 1, [] => by simp [packN]
  | k + 1, b :: r => by
    have := bool_toNat_le b
    rw [List.take_succ_cons, packN, packN, ← packN_take k r, Nat.pow_succ, Nat.mul_comm (2 ^ k) 2, Nat.mod_mul]
    have h1 : (b.toNat + 2 * packN r) % 2 = b.toNat := by omega
    have h2 : (b.toNat + 2 * packN r) / 2 = packN r := by omega
    rw [h1, h2]

theorem packN_bit : ∀ (l : List Bool) (i : Nat), (packN l).testBit i = l.getD i false
  | [], i => by simp [packN]
  | b :: r, 0 => by
    cases b <;> simp [packN, Nat.testBit_zero] <;> omega
  | b :: r, i + 1 => by
    have := bool_toNat_le b
    rw [Nat.testBit_succ, packN, show (b.toNat + 2 * packN r) / 2 = packN r by omega, packN_bit r i]
    simp

/-- A row's number, with the yes that says where it ends. -/
def rowN (l : List Bool) : Nat := packN (l ++ [true])

theorem rowN_eq (l : List Bool) : rowN l = packN l + 2 ^ l.length := by unfold rowN; rw [packN_snoc]; simp

theorem rowN_ge (l : List Bool) : 2 ^ l.length ≤ rowN l := by rw [rowN_eq]; omega
theorem rowN_lt (l : List Bool) : rowN l < 2 ^ (l.length + 1) := by
  have := packN_lt l
  rw [rowN_eq, Nat.pow_succ]; omega

/-- A row's bytes. -/
def encR (l : List Bool) : List UInt8 := leB (rowN l) (l.length / 8 + 1)

theorem encR_length (l : List Bool) : (encR l).length = l.length / 8 + 1 := leB_length _ _

theorem pow_bytes (j : Nat) : 256 ^ j = 2 ^ (8 * j) := by rw [Nat.pow_mul]

theorem rowN_step (l : List Bool) (j : Nat) (h : 8 * j + 8 ≤ l.length) : rowN l / 256 ^ j % 256 = packN ((l.drop (8 * j)).take 8) := by
  unfold rowN
  rw [pow_bytes, packN_drop, show 256 = 2 ^ 8 from rfl, packN_take, List.drop_append_of_le_length (by omega), List.take_append_of_le_length (by rw [List.length_drop]; omega)]

theorem rowN_last (l : List Bool) (j : Nat) (h1 : 8 * j ≤ l.length) (h2 : l.length < 8 * j + 8) : rowN l / 256 ^ j % 256 = packN (l.drop (8 * j)) + 2 ^ (l.length - 8 * j) := by
  unfold rowN
  have e : packN (List.drop (8 * j) l ++ [true]) = packN (l.drop (8 * j)) + 2 ^ (l.length - 8 * j) := by rw [packN_snoc, List.length_drop]; simp
  rw [pow_bytes, packN_drop, List.drop_append_of_le_length (by omega), e]
  have hlt := packN_lt (l.drop (8 * j))
  rw [List.length_drop] at hlt
  have hp : 2 ^ (l.length - 8 * j + 1) ≤ 2 ^ 8 := Nat.pow_le_pow_right (by omega) (by omega)
  rw [Nat.pow_succ] at hp
  exact Nat.mod_eq_of_lt (by omega)

/-- The first m bits of a number. -/
def decR (N m : Nat) : List Bool := (List.range m).map N.testBit

theorem dec_length (N m : Nat) : (decR N m).length = m := by simp [decR]
theorem dec_get (N m j : Nat) (h : j < m) : (decR N m)[j]? = some (N.testBit j) := by simp [decR, h]
theorem dec_succ (N m : Nat) : decR N (m + 1) = decR N m ++ [N.testBit m] := by simp [decR, List.range_succ]
theorem dec_take (N m k : Nat) (h : k ≤ m) : (decR N m).take k = decR N k := by
  unfold decR
  rw [← List.map_take, List.take_range, Nat.min_eq_left h]

/-- m is the length of the row whose bytes s are. -/
structure IsLen (s : List UInt8) (m : Nat) : Prop where
  lo : 2 ^ m ≤ leN s
  hi : leN s < 2 ^ (m + 1)
  size : m / 8 + 1 = s.length

theorem pow_unique {N m k : Nat} (h1 : 2 ^ m ≤ N) (h2 : N < 2 ^ (m + 1)) (h3 : 2 ^ k ≤ N) (h4 : N < 2 ^ (k + 1)) : m = k := by
  rcases Nat.lt_trichotomy m k with h | h | h
  · have : 2 ^ (m + 1) ≤ 2 ^ k := Nat.pow_le_pow_right (by omega) (by omega)
    omega
  · exact h
  · have : 2 ^ (k + 1) ≤ 2 ^ m := Nat.pow_le_pow_right (by omega) (by omega)
    omega

theorem IsLen.unique {s : List UInt8} {m k : Nat} (h : IsLen s m) (h' : IsLen s k) : m = k := pow_unique h.lo h.hi h'.lo h'.hi

theorem bit_top {N m : Nat} (h1 : 2 ^ m ≤ N) (h2 : N < 2 ^ (m + 1)) : N.testBit m = true := by
  rw [Nat.testBit_eq_decide_div_mod_eq]
  have : N / 2 ^ m = 1 := by
    rw [Nat.pow_succ] at h2
    exact Nat.div_eq_of_lt_le (by omega) (by omega)
  rw [this]; rfl

theorem bit_over {N m i : Nat} (h2 : N < 2 ^ (m + 1)) (h : m < i) : N.testBit i = false :=
  Nat.testBit_lt_two_pow (Nat.lt_of_lt_of_le h2 (Nat.pow_le_pow_right (by omega) (by omega)))

theorem rowN_dec {N m : Nat} (h1 : 2 ^ m ≤ N) (h2 : N < 2 ^ (m + 1)) : rowN (decR N m) = N := by
  apply Nat.eq_of_testBit_eq
  intro i
  unfold rowN
  rw [packN_bit]
  rcases Nat.lt_trichotomy i m with h | h | h
  · rw [List.getD_eq_getElem?_getD, List.getElem?_append_left (by rw [dec_length]; exact h), dec_get N m i h]; rfl
  · subst h
    rw [List.getD_eq_getElem?_getD, List.getElem?_append_right (by rw [dec_length]; omega), dec_length, bit_top h1 h2]; simp
  · rw [List.getD_eq_getElem?_getD, List.getElem?_append_right (by rw [dec_length]; omega), dec_length, bit_over h2 h]
    have : ∃ k, i - m = k + 1 := ⟨i - m - 1, by omega⟩
    obtain ⟨k, hk⟩ := this
    rw [hk]; rfl

theorem encR_dec {s : List UInt8} {m : Nat} (h : IsLen s m) : encR (decR (leN s) m) = s := by
  unfold encR
  rw [rowN_dec h.lo h.hi, dec_length, h.size, leB_leN]

theorem leN_encR (l : List Bool) : leN (encR l) = rowN l := by
  unfold encR
  rw [leN_leB]
  apply Nat.mod_eq_of_lt
  refine Nat.lt_of_lt_of_le (rowN_lt l) ?_
  rw [pow_bytes]
  exact Nat.pow_le_pow_right (by omega) (by omega)

theorem isLen_encR (l : List Bool) : IsLen (encR l) l.length :=
  ⟨by rw [leN_encR]; exact rowN_ge l, by rw [leN_encR]; exact rowN_lt l, (encR_length l).symm⟩

theorem dec_rowN (l : List Bool) : decR (rowN l) l.length = l := by
  apply List.ext_getElem?
  intro i
  by_cases h : i < l.length
  · rw [dec_get _ _ _ h]
    unfold rowN
    rw [packN_bit, List.getD_eq_getElem?_getD, List.getElem?_append_left h, List.getElem?_eq_getElem h]; rfl
  · rw [List.getElem?_eq_none (by rw [dec_length]; omega), List.getElem?_eq_none (by omega)]

theorem dec_encR (l : List Bool) : decR (leN (encR l)) l.length = l := by rw [leN_encR, dec_rowN]

theorem encR_inj {l r : List Bool} (h : encR l = encR r) : l = r := by
  have h1 := isLen_encR l
  rw [h] at h1
  have := h1.unique (isLen_encR r)
  rw [← dec_encR l, ← dec_encR r, h, this]

/-- The bits of a row of bytes. -/
theorem leN_drop : ∀ (k : Nat) (s : List UInt8), leN s / 256 ^ k = leN (s.drop k)
  | 0, s => by simp
  | k + 1, [] => by simp [leN]
  | k + 1, b :: r => by
    have := b.toNat_lt
    rw [List.drop_succ_cons, ← leN_drop k r, leN, Nat.pow_succ, Nat.mul_comm (256 ^ k) 256, ← Nat.div_div_eq_div_mul]
    congr 1
    omega

theorem leN_byte (s : List UInt8) (k : Nat) (h : k < s.length) : leN s / 256 ^ k % 256 = s[k].toNat := by
  rw [leN_drop, List.drop_eq_getElem_cons h, leN]
  have := s[k].toNat_lt
  omega

theorem leN_bit (s : List UInt8) (i : Nat) (h : i / 8 < s.length) : (leN s).testBit i = decide (s[i / 8].toNat / 2 ^ (i % 8) % 2 = 1) := by
  rw [Nat.testBit_eq_decide_div_mod_eq, ← leN_byte s (i / 8) h, pow_bytes]
  have e1 : leN s / 2 ^ i = leN s / 2 ^ (8 * (i / 8)) / 2 ^ (i % 8) := by
    rw [Nat.div_div_eq_div_mul, ← Nat.pow_add, show 8 * (i / 8) + i % 8 = i by omega]
  have e2 : (leN s / 2 ^ (8 * (i / 8)) % 256) / 2 ^ (i % 8) % 2 = leN s / 2 ^ (8 * (i / 8)) / 2 ^ (i % 8) % 2 := by
    generalize leN s / 2 ^ (8 * (i / 8)) = M
    have h8 : i % 8 < 8 := Nat.mod_lt _ (by omega)
    generalize i % 8 = k at h8
    match k, h8 with
    | 0, _ => omega
    | 1, _ => omega
    | 2, _ => omega
    | 3, _ => omega
    | 4, _ => omega
    | 5, _ => omega
    | 6, _ => omega
    | 7, _ => omega
  rw [e1, e2]

theorem isLen_snoc (t : List UInt8) (c : UInt8) (hc : c.toNat ≠ 0) : IsLen (t ++ [c]) (8 * t.length + Nat.log2 c.toNat) := by
  have h1 : 2 ^ Nat.log2 c.toNat ≤ c.toNat := Nat.log2_self_le hc
  have h2 : c.toNat < 2 ^ (Nat.log2 c.toNat + 1) := Nat.lt_log2_self
  have h3 : Nat.log2 c.toNat < 8 := (Nat.log2_lt hc).2 c.toNat_lt
  have ht := leN_lt t
  refine ⟨?_, ?_, ?_⟩
  · rw [leN_snoc, Nat.pow_add, pow_bytes]
    exact Nat.le_trans (Nat.mul_le_mul_left _ h1) (by omega)
  · rw [leN_snoc, pow_bytes, Nat.add_assoc, Nat.pow_add]
    rw [pow_bytes] at ht
    calc leN t + 2 ^ (8 * t.length) * c.toNat < 2 ^ (8 * t.length) + 2 ^ (8 * t.length) * c.toNat := by omega
      _ = 2 ^ (8 * t.length) * (c.toNat + 1) := by rw [Nat.mul_succ, Nat.add_comm]
      _ ≤ _ := Nat.mul_le_mul_left _ h2
  · rw [List.length_append, List.length_singleton]; omega

end Go.Proofs.YtickcajihaejkaaDoor
