/-
  The texts Plain, Bits, Msg, Words, Base, one behind the other.
-/
import Derived.Test.YtnbdpalbompjlaaDoorRows
import Derived.WalkKit
import Derived.WalkSpells
import Derived.WalkLawsBesides
import Derived.Deep.QuietTactic
import Derived.BigQuiet
import Derived.Deep.AppendSrc
import Derived.Laws.IdiomStrings
import Derived.Below
import Derived.Laws.BytesArg
import Derived.Deep.Upon
import Derived.Deep.MidRow
import Derived.RegionTactic
/-
  Numbers as bytes, the lowest first: plain mathematics, nothing of the program.
-/
namespace Go.Proofs.YtnbdpalbompjlaaDoor

/-- The lowest k bytes of n, the lowest first. -/
def leB (n : Nat) : Nat → List UInt8
  | 0 => []
  | k + 1 => UInt8.ofNat (n % 256) :: leB (n / 256) k

theorem leB_length (k : Nat) : ∀ n, (leB n k).length = k := by
  induction k with
  | zero => intro n; rfl
  | succ k ih => intro n; simp [leB, ih]

theorem leB_snoc (k : Nat) : ∀ n, leB n (k + 1) = leB n k ++ [UInt8.ofNat (n / 256 ^ k % 256)] := by
  induction k with
  | zero => intro n; simp [leB]
  | succ k ih =>
    intro n
    rw [leB, ih, leB, List.cons_append, Nat.div_div_eq_div_mul, show 256 * 256 ^ k = 256 ^ (k + 1) by rw [Nat.pow_succ, Nat.mul_comm]]

/-- How many bytes a width means. -/
def wid (width : Int) : Nat := (min (max width 0) 8).toNat

theorem wid_le (width : Int) : wid width ≤ 8 := by unfold wid; omega

/-- A row of bytes as a number, the lowest first. -/
def leN : List UInt8 → Nat
  | [] => 0
  | b :: r => b.toNat + 256 * leN r

theorem leN_lt : ∀ l : List UInt8, leN l < 256 ^ l.length
  | [] => by simp [leN]
  | b :: r => by
    have h := leN_lt r
    have hb := b.toNat_lt
    rw [leN, List.length_cons, Nat.pow_succ]
    omega

theorem leN_snoc : ∀ (l : List UInt8) (b : UInt8), leN (l ++ [b]) = leN l + 256 ^ l.length * b.toNat
  | [], b => by simp [leN]
  | a :: r, b => by
    rw [List.cons_append, leN, leN_snoc r b, leN, List.length_cons, Nat.pow_succ, Nat.mul_add, ← Nat.add_assoc, Nat.mul_comm (256 ^ r.length) 256, Nat.mul_assoc]

theorem leN_leB (k : Nat) : ∀ n, leN (leB n k) = n % 256 ^ k := by
  induction k with
  | zero => intro n; simp [leB, leN, Nat.mod_one]
  | succ k ih =>
    intro n
    have h : (UInt8.ofNat (n % 256)).toNat = n % 256 := by simp
    rw [leB, leN, ih, h, Nat.pow_succ, Nat.mul_comm (256 ^ k) 256, Nat.mod_mul]

theorem leB_leN : ∀ l : List UInt8, leB (leN l) l.length = l
  | [] => rfl
  | b :: r => by
    have hb := b.toNat_lt
    have h1 : (b.toNat + 256 * leN r) % 256 = b.toNat := by omega
    have h2 : (b.toNat + 256 * leN r) / 256 = leN r := by omega
    rw [List.length_cons, leN, leB, h1, h2, leB_leN r]
    simp

end Go.Proofs.YtnbdpalbompjlaaDoor

/-
  Rows of yes and no as numbers and as bytes: plain mathematics, nothing of the program.
-/
namespace Go.Proofs.YtnbdpalbompjlaaDoor

/-- A row as a number, the first one lowest. -/
def packN : List Bool → Nat
  | [] => 0
  | b :: r => b.toNat + 2 * packN r

theorem bool_toNat_le (b : Bool) : b.toNat ≤ 1 := by cases b <;> simp

theorem packN_lt : ∀ l : List Bool, packN l < 2 ^ l.length
  | [] => by simp [packN]
  | b :: r => by
    have h := packN_lt r
    have := bool_toNat_le b
    rw [packN, List.length_cons, Nat.pow_succ]
    omega

theorem packN_append : ∀ l r : List Bool, packN (l ++ r) = packN l + 2 ^ l.length * packN r
  | [], r => by simp [packN]
  | b :: t, r => by
    rw [List.cons_append, packN, packN_append t r, packN, List.length_cons, Nat.pow_succ, Nat.mul_add, ← Nat.add_assoc, Nat.mul_comm (2 ^ t.length) 2, Nat.mul_assoc]

theorem packN_snoc (l : List Bool) (b : Bool) : packN (l ++ [b]) = packN l + 2 ^ l.length * b.toNat := by
  rw [packN_append]; simp [packN]

theorem packN_drop : ∀ (k : Nat) (l : List Bool), packN l / 2 ^ k = packN (l.drop k)
  | 0, l => by simp
  | k + 1, [] => by simp [packN]
  | k + 1, b :: r => by
    have := bool_toNat_le b
    rw [List.drop_succ_cons, ← packN_drop k r, packN, Nat.pow_succ, Nat.mul_comm (2 ^ k) 2, ← Nat.div_div_eq_div_mul]
    congr 1
    omega

theorem packN_take : ∀ (k : Nat) (l : List Bool), packN l % 2 ^ k = packN (l.take k)
  | 0, l => by simp [packN, Nat.mod_one]
  | k + 1, [] => by simp [packN]
  | k + 1, b :: r => by
    have := bool_toNat_le b
    rw [List.take_succ_cons, packN, packN, ← packN_take k r, Nat.pow_succ, Nat.mul_comm (2 ^ k) 2, Nat.mod_mul]
    have h1 : (b.toNat + 2 * packN r) % 2 = b.toNat := by omega
    have h2 : (b.toNat + 2 * packN r) / 2 = packN r := by omega
    rw [h1, h2]

theorem packN_bit : ∀ (l : List Bool) (i : Nat), (packN l).testBit i = l.getD i false
  | [], i => by simp [packN]
  | b :: r, 0 => by
    cases b <;> simp [packN, Nat.testBit_zero] <;> omega
  | b :: r, i + 1 => by
    have := bool_toNat_le b
    rw [Nat.testBit_succ, packN, show (b.toNat + 2 * packN r) / 2 = packN r by omega, packN_bit r i]
    simp

/-- A row's number, with the yes that says where it ends. -/
def rowN (l : List Bool) : Nat := packN (l ++ [true])

theorem rowN_eq (l : List Bool) : rowN l = packN l + 2 ^ l.length := by unfold rowN; rw [packN_snoc]; simp

theorem rowN_ge (l : List Bool) : 2 ^ l.length ≤ rowN l := by rw [rowN_eq]; omega
theorem rowN_lt (l : List Bool) : rowN l < 2 ^ (l.length + 1) := by
  have := packN_lt l
  rw [rowN_eq, Nat.pow_succ]; omega

/-- A row's bytes. -/
def encR (l : List Bool) : List UInt8 := leB (rowN l) (l.length / 8 + 1)

theorem encR_length (l : List Bool) : (encR l).length = l.length / 8 + 1 := leB_length _ _

theorem pow_bytes (j : Nat) : 256 ^ j = 2 ^ (8 * j) := by rw [Nat.pow_mul]

theorem rowN_step (l : List Bool) (j : Nat) (h : 8 * j + 8 ≤ l.length) : rowN l / 256 ^ j % 256 = packN ((l.drop (8 * j)).take 8) := by
  unfold rowN
  rw [pow_bytes, packN_drop, show 256 = 2 ^ 8 from rfl, packN_take, List.drop_append_of_le_length (by omega), List.take_append_of_le_length (by rw [List.length_drop]; omega)]

theorem rowN_last (l : List Bool) (j : Nat) (h1 : 8 * j ≤ l.length) (h2 : l.length < 8 * j + 8) : rowN l / 256 ^ j % 256 = packN (l.drop (8 * j)) + 2 ^ (l.length - 8 * j) := by
  unfold rowN
  have e : packN (List.drop (8 * j) l ++ [true]) = packN (l.drop (8 * j)) + 2 ^ (l.length - 8 * j) := by rw [packN_snoc, List.length_drop]; simp
  rw [pow_bytes, packN_drop, List.drop_append_of_le_length (by omega), e]
  have hlt := packN_lt (l.drop (8 * j))
  rw [List.length_drop] at hlt
  have hp : 2 ^ (l.length - 8 * j + 1) ≤ 2 ^ 8 := Nat.pow_le_pow_right (by omega) (by omega)
  rw [Nat.pow_succ] at hp
  exact Nat.mod_eq_of_lt (by omega)

/-- The first m bits of a number. -/
def decR (N m : Nat) : List Bool := (List.range m).map N.testBit

theorem dec_length (N m : Nat) : (decR N m).length = m := by simp [decR]
theorem dec_get (N m j : Nat) (h : j < m) : (decR N m)[j]? = some (N.testBit j) := by simp [decR, h]
theorem dec_succ (N m : Nat) : decR N (m + 1) = decR N m ++ [N.testBit m] := by simp [decR, List.range_succ]
theorem dec_take (N m k : Nat) (h : k ≤ m) : (decR N m).take k = decR N k := by
  unfold decR
  rw [← List.map_take, List.take_range, Nat.min_eq_left h]

/-- m is the length of the row whose bytes s are. -/
structure IsLen (s : List UInt8) (m : Nat) : Prop where
  lo : 2 ^ m ≤ leN s
  hi : leN s < 2 ^ (m + 1)
  size : m / 8 + 1 = s.length

theorem pow_unique {N m k : Nat} (h1 : 2 ^ m ≤ N) (h2 : N < 2 ^ (m + 1)) (h3 : 2 ^ k ≤ N) (h4 : N < 2 ^ (k + 1)) : m = k := by
  rcases Nat.lt_trichotomy m k with h | h | h
  · have : 2 ^ (m + 1) ≤ 2 ^ k := Nat.pow_le_pow_right (by omega) (by omega)
    omega
  · exact h
  · have : 2 ^ (k + 1) ≤ 2 ^ m := Nat.pow_le_pow_right (by omega) (by omega)
    omega

theorem IsLen.unique {s : List UInt8} {m k : Nat} (h : IsLen s m) (h' : IsLen s k) : m = k := pow_unique h.lo h.hi h'.lo h'.hi

theorem bit_top {N m : Nat} (h1 : 2 ^ m ≤ N) (h2 : N < 2 ^ (m + 1)) : N.testBit m = true := by
  rw [Nat.testBit_eq_decide_div_mod_eq]
  have : N / 2 ^ m = 1 := by
    rw [Nat.pow_succ] at h2
    exact Nat.div_eq_of_lt_le (by omega) (by omega)
  rw [this]; rfl

theorem bit_over {N m i : Nat} (h2 : N < 2 ^ (m + 1)) (h : m < i) : N.testBit i = false :=
  Nat.testBit_lt_two_pow (Nat.lt_of_lt_of_le h2 (Nat.pow_le_pow_right (by omega) (by omega)))

theorem rowN_dec {N m : Nat} (h1 : 2 ^ m ≤ N) (h2 : N < 2 ^ (m + 1)) : rowN (decR N m) = N := by
  apply Nat.eq_of_testBit_eq
  intro i
  unfold rowN
  rw [packN_bit]
  rcases Nat.lt_trichotomy i m with h | h | h
  · rw [List.getD_eq_getElem?_getD, List.getElem?_append_left (by rw [dec_length]; exact h), dec_get N m i h]; rfl
  · subst h
    rw [List.getD_eq_getElem?_getD, List.getElem?_append_right (by rw [dec_length]; omega), dec_length, bit_top h1 h2]; simp
  · rw [List.getD_eq_getElem?_getD, List.getElem?_append_right (by rw [dec_length]; omega), dec_length, bit_over h2 h]
    have : ∃ k, i - m = k + 1 := ⟨i - m - 1, by omega⟩
    obtain ⟨k, hk⟩ := this
    rw [hk]; rfl

theorem encR_dec {s : List UInt8} {m : Nat} (h : IsLen s m) : encR (decR (leN s) m) = s := by
  unfold encR
  rw [rowN_dec h.lo h.hi, dec_length, h.size, leB_leN]

theorem leN_encR (l : List Bool) : leN (encR l) = rowN l := by
  unfold encR
  rw [leN_leB]
  apply Nat.mod_eq_of_lt
  refine Nat.lt_of_lt_of_le (rowN_lt l) ?_
  rw [pow_bytes]
  exact Nat.pow_le_pow_right (by omega) (by omega)

theorem isLen_encR (l : List Bool) : IsLen (encR l) l.length :=
  ⟨by rw [leN_encR]; exact rowN_ge l, by rw [leN_encR]; exact rowN_lt l, (encR_length l).symm⟩

theorem dec_rowN (l : List Bool) : decR (rowN l) l.length = l := by
  apply List.ext_getElem?
  intro i
  by_cases h : i < l.length
  · rw [dec_get _ _ _ h]
    unfold rowN
    rw [packN_bit, List.getD_eq_getElem?_getD, List.getElem?_append_left h, List.getElem?_eq_getElem h]; rfl
  · rw [List.getElem?_eq_none (by rw [dec_length]; omega), List.getElem?_eq_none (by omega)]

theorem dec_encR (l : List Bool) : decR (leN (encR l)) l.length = l := by rw [leN_encR, dec_rowN]

theorem encR_inj {l r : List Bool} (h : encR l = encR r) : l = r := by
  have h1 := isLen_encR l
  rw [h] at h1
  have := h1.unique (isLen_encR r)
  rw [← dec_encR l, ← dec_encR r, h, this]

/-- The bits of a row of bytes. -/
theorem leN_drop : ∀ (k : Nat) (s : List UInt8), leN s / 256 ^ k = leN (s.drop k)
  | 0, s => by simp
  | k + 1, [] => by simp [leN]
  | k + 1, b :: r => by
    have := b.toNat_lt
    rw [List.drop_succ_cons, ← leN_drop k r, leN, Nat.pow_succ, Nat.mul_comm (256 ^ k) 256, ← Nat.div_div_eq_div_mul]
    congr 1
    omega

theorem leN_byte (s : List UInt8) (k : Nat) (h : k < s.length) : leN s / 256 ^ k % 256 = s[k].toNat := by
  rw [leN_drop, List.drop_eq_getElem_cons h, leN]
  have := s[k].toNat_lt
  omega

theorem leN_bit (s : List UInt8) (i : Nat) (h : i / 8 < s.length) : (leN s).testBit i = decide (s[i / 8].toNat / 2 ^ (i % 8) % 2 = 1) := by
  rw [Nat.testBit_eq_decide_div_mod_eq, ← leN_byte s (i / 8) h, pow_bytes]
  have e1 : leN s / 2 ^ i = leN s / 2 ^ (8 * (i / 8)) / 2 ^ (i % 8) := by
    rw [Nat.div_div_eq_div_mul, ← Nat.pow_add, show 8 * (i / 8) + i % 8 = i by omega]
  have e2 : (leN s / 2 ^ (8 * (i / 8)) % 256) / 2 ^ (i % 8) % 2 = leN s / 2 ^ (8 * (i / 8)) / 2 ^ (i % 8) % 2 := by
    generalize leN s / 2 ^ (8 * (i / 8)) = M
    have h8 : i % 8 < 8 := Nat.mod_lt _ (by omega)
    generalize i % 8 = k at h8
    match k, h8 with
    | 0, _ => omega
    | 1, _ => omega
    | 2, _ => omega
    | 3, _ => omega
    | 4, _ => omega
    | 5, _ => omega
    | 6, _ => omega
    | 7, _ => omega
  rw [e1, e2]

theorem isLen_snoc (t : List UInt8) (c : UInt8) (hc : c.toNat ≠ 0) : IsLen (t ++ [c]) (8 * t.length + Nat.log2 c.toNat) := by
  have h1 : 2 ^ Nat.log2 c.toNat ≤ c.toNat := Nat.log2_self_le hc
  have h2 : c.toNat < 2 ^ (Nat.log2 c.toNat + 1) := Nat.lt_log2_self
  have h3 : Nat.log2 c.toNat < 8 := (Nat.log2_lt hc).2 c.toNat_lt
  have ht := leN_lt t
  refine ⟨?_, ?_, ?_⟩
  · rw [leN_snoc, Nat.pow_add, pow_bytes]
    exact Nat.le_trans (Nat.mul_le_mul_left _ h1) (by omega)
  · rw [leN_snoc, pow_bytes, Nat.add_assoc, Nat.pow_add]
    rw [pow_bytes] at ht
    calc leN t + 2 ^ (8 * t.length) * c.toNat < 2 ^ (8 * t.length) + 2 ^ (8 * t.length) * c.toNat := by omega
      _ = 2 ^ (8 * t.length) * (c.toNat + 1) := by rw [Nat.mul_succ, Nat.add_comm]
      _ ≤ _ := Nat.mul_le_mul_left _ h2
  · rw [List.length_append, List.length_singleton]; omega

end Go.Proofs.YtnbdpalbompjlaaDoor

/-
  Messages and their bytes: plain mathematics, nothing of the program.
-/
namespace Go.Proofs.YtnbdpalbompjlaaDoor

/-- A message. -/
structure Msg where
  k : Int
  s : Int
  T : List UInt8
  m : Int
  b : Nat
  l : List Bool
  G : List UInt8

/-- Its parts are as long as they are. -/
structure Msg.Fits (M : Msg) : Prop where
  T : M.T.length = 32
  G : M.G.length = 16
  b : M.b < 2 ^ 64

def zeroMsg : Msg := ⟨0, 0, List.replicate 32 0, 0, 0, [], List.replicate 16 0⟩
theorem zeroMsg_fits : zeroMsg.Fits := ⟨by simp [zeroMsg], by simp [zeroMsg], by simp [zeroMsg]⟩

/-- It can be. -/
def msgGood (M : Msg) : Bool :=
  decide (0 ≤ M.s ∧ M.s ≤ 1073741824 ∧ 0 ≤ M.m ∧ M.m ≤ 65535) &&
    (if M.k = 1 then decide (M.l.length = 0) else if M.k = 2 then decide (M.l.length = 0) && decide (M.b = 0) else if M.k = 3 then decide (M.m = 0) && decide (M.b = 0) && (decide (M.l.length ≤ 16) && M.l.any id) else false)

/-- What stands behind Target. -/
def msgR (M : Msg) : List UInt8 :=
  if M.k = 1 then leB M.m.toNat 2 ++ leB M.b 8 else if M.k = 2 then leB M.m.toNat 2 else if M.k = 3 then encR M.l else []

def msgP (M : Msg) : List UInt8 := leB M.k.toNat 1 ++ (leB M.s.toNat 4 ++ (M.T ++ msgR M))
def msgB (M : Msg) : List UInt8 := msgP M ++ M.G

/-- What its bytes tell again. -/
structure Msg.Ranged (M : Msg) : Prop where
  fits : M.Fits
  k : M.k = 1 ∨ M.k = 2 ∨ M.k = 3
  s : 0 ≤ M.s ∧ M.s < 4294967296
  m : 0 ≤ M.m ∧ M.m < 65536
  l : M.k ≠ 3 → M.l = []
  b : M.k ≠ 1 → M.b = 0
  m3 : M.k = 3 → M.m = 0

theorem msg_ranged {M : Msg} (h : msgGood M = true) (hf : M.Fits) : M.Ranged := by
  unfold msgGood at h
  rw [Bool.and_eq_true, decide_eq_true_eq] at h
  obtain ⟨⟨h1, h2, h3, h4⟩, h5⟩ := h
  by_cases k1 : M.k = 1
  · rw [if_pos k1] at h5
    simp only [decide_eq_true_eq] at h5
    exact ⟨hf, .inl k1, ⟨h1, by omega⟩, ⟨h3, by omega⟩, fun _ => List.eq_nil_of_length_eq_zero h5, fun h => absurd k1 h, fun h => by omega⟩
  · rw [if_neg k1] at h5
    by_cases k2 : M.k = 2
    · rw [if_pos k2] at h5
      simp only [Bool.and_eq_true, decide_eq_true_eq] at h5
      exact ⟨hf, .inr (.inl k2), ⟨h1, by omega⟩, ⟨h3, by omega⟩, fun _ => List.eq_nil_of_length_eq_zero h5.1, fun _ => h5.2, fun h => by omega⟩
    · rw [if_neg k2] at h5
      by_cases k3 : M.k = 3
      · rw [if_pos k3] at h5
        simp only [Bool.and_eq_true, decide_eq_true_eq] at h5
        exact ⟨hf, .inr (.inr k3), ⟨h1, by omega⟩, ⟨h3, by omega⟩, fun h => absurd k3 h, fun _ => h5.1.2, fun _ => h5.1.1⟩
      · rw [if_neg k3] at h5; cases h5

theorem msg_bits {M : Msg} (h : msgGood M = true) : M.l.length ≤ 16 := by
  unfold msgGood at h
  rw [Bool.and_eq_true] at h
  have h5 := h.2
  split at h5
  · simp only [decide_eq_true_eq] at h5; omega
  · split at h5
    · simp only [Bool.and_eq_true, decide_eq_true_eq] at h5; omega
    · split at h5
      · simp only [Bool.and_eq_true, decide_eq_true_eq] at h5; omega
      · cases h5

theorem msgR_length {M : Msg} (h : M.Ranged) : (msgR M).length = if M.k = 1 then 10 else if M.k = 2 then 2 else M.l.length / 8 + 1 := by
  unfold msgR
  rcases h.k with k | k | k <;> simp [k, leB_length, encR_length]

theorem msgP_length {M : Msg} (h : M.Ranged) : (msgP M).length = 37 + if M.k = 1 then 10 else if M.k = 2 then 2 else M.l.length / 8 + 1 := by
  unfold msgP
  rw [List.length_append, List.length_append, List.length_append, leB_length, leB_length, h.fits.T, msgR_length h]; omega

theorem msgB_length {M : Msg} (h : M.Ranged) : (msgB M).length = 53 + if M.k = 1 then 10 else if M.k = 2 then 2 else M.l.length / 8 + 1 := by
  unfold msgB
  rw [List.length_append, msgP_length h, h.fits.G]; omega

theorem leB_low {n k : Nat} (h : n < 256 ^ k) : leN (leB n k) = n := by rw [leN_leB, Nat.mod_eq_of_lt h]
theorem leB_inj {a b k : Nat} (ha : a < 256 ^ k) (hb : b < 256 ^ k) (h : leB a k = leB b k) : a = b := by rw [← leB_low ha, ← leB_low hb, h]

theorem msgP_inj {M M' : Msg} (h : M.Ranged) (h' : M'.Ranged) (e : msgP M = msgP M') (hG : M.G = M'.G) : M = M' := by
  unfold msgP at e
  obtain ⟨e1, e⟩ := List.append_inj e (by rw [leB_length, leB_length])
  obtain ⟨e2, e⟩ := List.append_inj e (by rw [leB_length, leB_length])
  obtain ⟨e3, e⟩ := List.append_inj e (by rw [h.fits.T, h'.fits.T])
  have hk : M.k = M'.k := by
    have := leB_inj (k := 1) (by rcases h.k with q | q | q <;> rw [q] <;> decide) (by rcases h'.k with q | q | q <;> rw [q] <;> decide) e1
    rcases h.k with q | q | q <;> rcases h'.k with q' | q' | q' <;> rw [q, q'] at this <;> first | omega | (exact absurd this (by decide))
  have hs : M.s = M'.s := by
    have a := h.s; have b := h'.s
    have := leB_inj (k := 4) (by show _ < 4294967296; omega) (by show _ < 4294967296; omega) e2
    omega
  have hr : M.m = M'.m ∧ M.b = M'.b ∧ M.l = M'.l := by
    have a := h.m; have b := h'.m
    unfold msgR at e
    rcases h.k with q | q | q
    · have q' : M'.k = 1 := by rw [← hk]; exact q
      simp only [q, q', if_true] at e
      obtain ⟨e4, e5⟩ := List.append_inj e (by rw [leB_length, leB_length])
      have f4 := leB_inj (k := 2) (by show _ < 65536; omega) (by show _ < 65536; omega) e4
      have f5 := leB_inj (k := 8) (Nat.lt_of_lt_of_le h.fits.b (by decide)) (Nat.lt_of_lt_of_le h'.fits.b (by decide)) e5
      exact ⟨by omega, f5, by rw [h.l (by omega), h'.l (by omega)]⟩
    · have q' : M'.k = 2 := by rw [← hk]; exact q
      simp [q, q'] at e
      have f4 := leB_inj (k := 2) (by show _ < 65536; omega) (by show _ < 65536; omega) e
      exact ⟨by omega, by rw [h.b (by omega), h'.b (by omega)], by rw [h.l (by omega), h'.l (by omega)]⟩
    · have q' : M'.k = 3 := by rw [← hk]; exact q
      simp [q, q'] at e
      exact ⟨by rw [h.m3 q, h'.m3 q'], by rw [h.b (by omega), h'.b (by omega)], encR_inj e⟩
  obtain ⟨k, s, T, m, b, l, G⟩ := M
  obtain ⟨k', s', T', m', b', l', G'⟩ := M'
  simp only at hk hs hr e3 hG
  obtain ⟨r1, r2, r3⟩ := hr
  subst hk hs r1 r2 r3 e3 hG
  rfl

theorem msgB_split {M M' : Msg} (h : M.Fits) (h' : M'.Fits) (e : msgB M = msgB M') : msgP M = msgP M' ∧ M.G = M'.G := by
  unfold msgB at e
  have hl : (msgP M).length = (msgP M').length := by
    have := congrArg List.length e
    rw [List.length_append, List.length_append, h.G, h'.G] at this
    omega
  exact List.append_inj e hl

theorem msgB_inj {M M' : Msg} (h : M.Ranged) (h' : M'.Ranged) (e : msgB M = msgB M') : M = M' :=
  msgP_inj h h' (msgB_split h.fits h'.fits e).1 (msgB_split h.fits h'.fits e).2

/-- The message of bytes, if there is one. -/
def Reads (s : List UInt8) : Option Msg → Prop
  | some M => msgGood M = true ∧ M.Fits ∧ msgB M = s
  | none => ∀ M : Msg, msgGood M = true → M.Fits → msgB M ≠ s

theorem Reads.unique {s : List UInt8} {o o' : Option Msg} (h : Reads s o) (h' : Reads s o') : o = o' := by
  cases o with
  | none =>
    cases o' with
    | none => rfl
    | some M => exact absurd h'.2.2 (h M h'.1 h'.2.1)
  | some M =>
    cases o' with
    | none => exact absurd h.2.2 (h' M h.1 h.2.1)
    | some M' => rw [msgB_inj (msg_ranged h.1 h.2.1) (msg_ranged h'.1 h'.2.1) (h.2.2.trans h'.2.2.symm)]

theorem Reads.own {M : Msg} (h : msgGood M = true) (hf : M.Fits) : Reads (msgB M) (some M) := ⟨h, hf, rfl⟩

/-- A kind's first byte. -/
theorem msgB_head {M : Msg} (h : M.Ranged) : leN ((msgB M).take 1) = M.k.toNat := by
  unfold msgB msgP
  rw [List.append_assoc, List.take_append_of_le_length (by rw [leB_length]; omega), List.take_of_length_le (by rw [leB_length]; omega), leB_low]
  rcases h.k with q | q | q <;> rw [q] <;> decide

/-- Of a block, and a vote, no other length is one's. -/
theorem reads_len {M M' : Msg} (h : M.Ranged) (h' : M'.Ranged) (hk : M.k ≠ 3) (e : (msgB M).take 1 = (msgB M').take 1) : (msgB M).length = (msgB M').length := by
  have e1 := msgB_head h
  rw [e, msgB_head h'] at e1
  rw [msgB_length h, msgB_length h']
  have hkk : M'.k = M.k := by
    rcases h.k with q | q | q <;> rcases h'.k with q' | q' | q' <;> rw [q, q'] at e1 <;> first | omega | (exact absurd e1 (by decide))
  rw [hkk]
  rcases h.k with q | q | q
  · simp [q]
  · simp [q]
  · exact absurd q hk
end Go.Proofs.YtnbdpalbompjlaaDoor

/-
  Words of 32 bits: the operations on them under names of their own, each for all numbers, and what the functions on one word answer.
-/
namespace Go.Proofs.YtnbdpalbompjlaaDoor
open Go.RowKit
set_option maxRecDepth 10000

def addw (x y : Nat) : Nat := (x + y) % 4294967296
def xorw (x y : Nat) : Nat := (x ^^^ y) % 4294967296
def andw (x y : Nat) : Nat := (x &&& y) % 4294967296
def orw (x y : Nat) : Nat := (x ||| y) % 4294967296
def notw (x : Nat) : Nat := 4294967295 - x % 4294967296
def shlw (x k : Nat) : Nat := x * 2 ^ k % 4294967296
def shrw (x k : Nat) : Nat := x / 2 ^ k
/-- A word turned right. -/
def rotr (x n : Nat) : Nat := orw (shlw x (32 - n)) (shrw x n)

theorem rule_add (x y : Nat) : IntKind.u32.wrap ((x : Int) + (y : Int)) = ((addw x y : Nat) : Int) := by rw [IntKind.wrap_u32']; rfl
theorem ofInt32 (a : Nat) : BitVec.ofInt 32 (a : Int) = BitVec.ofNat 32 a := by simp
theorem rule_xor (x y : Nat) : bits .xor .u32 (x : Int) (y : Int) = ((xorw x y : Nat) : Int) := by
  rw [bits, IntKind.wrap_u32', show IntKind.u32.bits = 32 from rfl, ofInt32, ofInt32]
  simp only [BitVec.toNat_xor, BitVec.toNat_ofNat, xorw]
  rw [← Nat.xor_mod_two_pow]
  omega
theorem rule_and (x y : Nat) : bits .and .u32 (x : Int) (y : Int) = ((andw x y : Nat) : Int) := by
  rw [bits, IntKind.wrap_u32', show IntKind.u32.bits = 32 from rfl, ofInt32, ofInt32]
  simp only [BitVec.toNat_and, BitVec.toNat_ofNat, andw]
  rw [← Nat.and_mod_two_pow]
  omega
theorem rule_not (x : Nat) : bits .xor .u32 IntKind.u32.max (x : Int) = ((notw x : Nat) : Int) := by
  rw [bits, IntKind.wrap_u32', show IntKind.u32.bits = 32 from rfl, ofInt32, show BitVec.ofInt 32 IntKind.u32.max = BitVec.allOnes 32 by decide]
  simp only [BitVec.allOnes_xor, BitVec.toNat_not, BitVec.toNat_ofNat, notw]
  omega
theorem rule_or (x y : Nat) : bits .or .u32 (x : Int) (y : Int) = ((orw x y : Nat) : Int) := by
  rw [bits, IntKind.wrap_u32', show IntKind.u32.bits = 32 from rfl, ofInt32, ofInt32]
  simp only [BitVec.toNat_or, BitVec.toNat_ofNat, orw]
  rw [← Nat.or_mod_two_pow]
  omega

theorem shl32 (x k : Nat) (hk : k ≤ 32) : IntKind.u32.wrap ((x : Int) * 2 ^ min (k : Int).toNat 32) = ((shlw x k : Nat) : Int) := by
  rw [IntKind.wrap_u32', Int.toNat_natCast, Nat.min_eq_left hk]
  simp [shlw]

theorem shr32 (x k : Nat) (hk : k ≤ 32) : (x : Int) / 2 ^ min (k : Int).toNat 32 = ((shrw x k : Nat) : Int) := by
  rw [Int.toNat_natCast, Nat.min_eq_left hk]
  simp [shrw]

theorem count_neg (n : Nat) (h1 : 1 ≤ n) (h2 : n ≤ 31) : bits .and .u64 (IntKind.u64.wrap (-(n : Int))) 31 = ((32 - n : Nat) : Int) := by
  have h : ∀ n : Nat, n < 32 → 1 ≤ n → bits .and .u64 (IntKind.u64.wrap (-(n : Int))) 31 = ((32 - n : Nat) : Int) := by decide +kernel
  exact h n (by omega) h1

theorem run_shl32 (P : Program) (w : World) (x k : Nat) (yk : IntKind) (hk : k ≤ 32) : (Op.shift .shl .u32 (x : Int) yk (k : Int)).run P w = .ok (.int .u32 ((shlw x k : Nat) : Int)) w := by
  rw [shift_shl_any _ _ _ _ (by omega), show IntKind.u32.bits = 32 from rfl, shl32 x k hk]
  rfl
theorem run_shr32 (P : Program) (w : World) (x k : Nat) (yk : IntKind) (hk : k ≤ 32) : (Op.shift .shr .u32 (x : Int) yk (k : Int)).run P w = .ok (.int .u32 ((shrw x k : Nat) : Int)) w := by
  rw [shift_shr_any _ _ _ _ (by omega), show IntKind.u32.bits = 32 from rfl, shr32 x k hk]
  rfl

theorem rot_any (w : World) (x n : Nat) (h1 : 1 ≤ n) (h2 : n ≤ 31) :
    Calls Tryd.prog 108 #[.int .u32 x, .int .i64 (-(n : Int))] w fun e w' => e = .returned (.int .u32 (rotr x n)) ∧ w' = w := by
  have e1 := count_neg n h1 h2
  have e2 := fun w => run_shl32 Tryd.prog w x (32 - n) .u64 (by omega)
  have e3 := fun w => run_shr32 Tryd.prog w x n .u64 (by omega)
  have e4 : IntKind.u64.wrap (32 - ((32 - n : Nat) : Int)) = (n : Int) := by simp [IntKind.wrap, IntKind.bits, IntKind.signed]; omega
  have hf : bits .or .u32 ((x : Int) * 2 ^ (32 - n) % 4294967296) ((x : Int) / 2 ^ n) = ((rotr x n : Nat) : Int) := by
    have h := rule_or (shlw x (32 - n)) (shrw x n)
    simpa [shlw, shrw, rotr] using h
  go_enter Tryd.func108, Tryd.ntmps108
  go_wp2_with fail
  go_ret
  exact ⟨rfl, rfl⟩

theorem turned_any (w : World) (x n : Nat) (h1 : 1 ≤ n) (h2 : n ≤ 31) :
    Calls Tryd.prog 106 #[.int .u32 x, .int .i64 n] w fun e w' => e = .returned (.int .u32 (rotr x n)) ∧ w' = w := by
  go_enter Tryd.func106, Tryd.ntmps106
  go_wp2_with fail
  refine (rot_any w x n h1 h2).mono ?_
  rintro e w' ⟨rfl, rfl⟩
  go_wp2_with fail
  go_ret
  exact ⟨rfl, rfl⟩

def great (x a b c : Nat) : Nat := xorw (xorw (rotr x a) (rotr x b)) (rotr x c)
def small (x a b c : Nat) : Nat := xorw (xorw (rotr x a) (rotr x b)) (shrw x c)
def choice (x y z : Nat) : Nat := xorw (andw x y) (andw (notw x) z)
def majority (x y z : Nat) : Nat := xorw (xorw (andw x y) (andw x z)) (andw y z)

theorem great_any (w : World) (x a b c : Nat) (h1 : 1 ≤ a) (h2 : a ≤ 31) (h3 : 1 ≤ b) (h4 : b ≤ 31) (h5 : 1 ≤ c) (h6 : c ≤ 31) :
    Calls Tryd.prog 95 #[.int .u32 x, .int .i64 a, .int .i64 b, .int .i64 c] w fun e w' => e = .returned (.int .u32 (great x a b c)) ∧ w' = w := by
  have r1 := rule_xor
  go_enter Tryd.func95, Tryd.ntmps95
  go_wp2_with fail
  refine (turned_any w x a h1 h2).mono ?_
  rintro e w' ⟨rfl, rfl⟩
  go_wp2_with fail
  refine (turned_any _ x b h3 h4).mono ?_
  rintro e w2 ⟨rfl, rfl⟩
  go_wp2_with fail
  refine (turned_any _ x c h5 h6).mono ?_
  rintro e w3 ⟨rfl, rfl⟩
  go_wp2_with fail
  go_ret
  exact ⟨rfl, rfl⟩

theorem choice_any (w : World) (x y z : Nat) :
    Calls Tryd.prog 96 #[.int .u32 x, .int .u32 y, .int .u32 z] w fun e w' => e = .returned (.int .u32 (choice x y z)) ∧ w' = w := by
  have r1 := rule_xor
  have r2 := rule_and
  have r3 := rule_not
  have hs : IntKind.u32.signed = false := rfl
  go_enter Tryd.func96, Tryd.ntmps96
  go_wp2_with fail
  go_ret
  exact ⟨rfl, rfl⟩

theorem majority_any (w : World) (x y z : Nat) :
    Calls Tryd.prog 97 #[.int .u32 x, .int .u32 y, .int .u32 z] w fun e w' => e = .returned (.int .u32 (majority x y z)) ∧ w' = w := by
  have r1 := rule_xor
  have r2 := rule_and
  go_enter Tryd.func97, Tryd.ntmps97
  go_wp2_with fail
  go_ret
  exact ⟨rfl, rfl⟩

set_option maxHeartbeats 1000000 in
theorem small_any (w : World) (x a b c : Nat) (h1 : 1 ≤ a) (h2 : a ≤ 31) (h3 : 1 ≤ b) (h4 : b ≤ 31) (h5 : 1 ≤ c) (h6 : c ≤ 31) :
    Calls Tryd.prog 99 #[.int .u32 x, .int .i64 a, .int .i64 b, .int .i64 c] w fun e w' => e = .returned (.int .u32 (small x a b c)) ∧ ∃ m, w' = w.drewN m := by
  have r1 := rule_xor
  have e3 := fun w => run_shr32 Tryd.prog w x c .i64 (by omega)
  have hf : bits .xor .u32 ((xorw (rotr x a) (rotr x b) : Nat) : Int) ((x : Int) / 2 ^ c) = ((small x a b c : Nat) : Int) := by
    have h := rule_xor (xorw (rotr x a) (rotr x b)) (shrw x c)
    simpa [shrw, small] using h
  go_enter Tryd.func99, Tryd.ntmps99
  go_wp2_with fail
  go_quiet (first | (go_at_call 106; refine Calls.quiet_of_same (turned_any _ x a h1 h2)) | (go_at_call 106; refine Calls.quiet_of_same (turned_any _ x b h3 h4)))
  go_wp2_with fail
  go_ret
  exact ⟨rfl, _, rfl⟩

theorem great_e (w : World) (x : Nat) : Calls Tryd.prog 95 #[.int .u32 x, .int .i64 6, .int .i64 11, .int .i64 25] w fun e w' => e = .returned (.int .u32 (great x 6 11 25)) ∧ w' = w :=
  great_any w x 6 11 25 (by decide) (by decide) (by decide) (by decide) (by decide) (by decide)
theorem great_a (w : World) (x : Nat) : Calls Tryd.prog 95 #[.int .u32 x, .int .i64 2, .int .i64 13, .int .i64 22] w fun e w' => e = .returned (.int .u32 (great x 2 13 22)) ∧ w' = w :=
  great_any w x 2 13 22 (by decide) (by decide) (by decide) (by decide) (by decide) (by decide)
theorem small_0 (w : World) (x : Nat) : Calls Tryd.prog 99 #[.int .u32 x, .int .i64 7, .int .i64 18, .int .i64 3] w fun e w' => e = .returned (.int .u32 (small x 7 18 3)) ∧ ∃ m, w' = w.drewN m :=
  small_any w x 7 18 3 (by decide) (by decide) (by decide) (by decide) (by decide) (by decide)
theorem small_1 (w : World) (x : Nat) : Calls Tryd.prog 99 #[.int .u32 x, .int .i64 17, .int .i64 19, .int .i64 10] w fun e w' => e = .returned (.int .u32 (small x 17 19 10)) ∧ ∃ m, w' = w.drewN m :=
  small_any w x 17 19 10 (by decide) (by decide) (by decide) (by decide) (by decide) (by decide)
end Go.Proofs.YtnbdpalbompjlaaDoor

/-
  Slices that a call has made itself: 'Held w base v xs' says that the slice v holds the one-cell values xs, in a block from base on, with room that may be written; what append, []byte(s) and string(b) make of such a slice. It holds of every program.
-/
namespace Go.Proofs.YtnbdpalbompjlaaDoor
open Go.RowKit
set_option maxRecDepth 10000

structure HeldAt (w : World) (base : Nat) (n cap g off : Nat) (ao : Option Addr) (xs : List Value) : Prop where
  len : n = xs.length
  le : n ≤ cap
  max : cap ≤ maxLen
  addr : 0 < cap → ao = some ⟨g, off, none⟩
  own : ∀ a, ao = some a → base ≤ a.block
  lt : 0 < cap → g < w.heap.size
  cells : ∀ j u, xs[j]? = some u → w.cell? ⟨g, off + j, none⟩ = some u
  room : ∀ j, j < cap → (w.cell? ⟨g, off + j, none⟩).isSome = true
  free : ∀ j, j < cap → w.frozen? ⟨g, off + j, none⟩ = false

def Held (w : World) (base : Nat) (v : Value) (xs : List Value) : Prop := ∃ n cap g off ao, v = .slice ao n cap ∧ HeldAt w base n cap g off ao xs

theorem Held.nil (w : World) (base : Nat) : Held w base (.slice none 0 0) [] :=
  ⟨0, 0, 0, 0, none, rfl, rfl, Nat.le_refl _, Nat.zero_le _, fun h => absurd h (by omega), fun a h => by simp at h, fun h => absurd h (by omega), fun j u h => by simp at h, fun j h => absurd h (by omega), fun j h => absurd h (by omega)⟩

theorem Held.mono {w : World} {base base' : Nat} {v : Value} {xs : List Value} (h : Held w base v xs) (hb : base' ≤ base) : Held w base' v xs := by
  obtain ⟨n, cap, g, off, ao, rfl, h⟩ := h
  exact ⟨n, cap, g, off, ao, rfl, h.len, h.le, h.max, h.addr, fun a ha => Nat.le_trans hb (h.own a ha), h.lt, h.cells, h.room, h.free⟩

theorem HeldAt.carry {w w' : World} {base n cap g off : Nat} {ao : Option Addr} {xs : List Value} (h : HeldAt w base n cap g off ao xs) (hs : w.heap.size ≤ w'.heap.size)
    (hb : 0 < cap → w'.heap[g]? = w.heap[g]?) : HeldAt w' base n cap g off ao xs :=
  ⟨h.len, h.le, h.max, h.addr, h.own, fun hc => Nat.lt_of_lt_of_le (h.lt hc) hs,
    fun j u hj => by
      have hjl : j < xs.length := (List.getElem?_eq_some_iff.1 hj).1
      have hc : 0 < cap := by have := h.len; have := h.le; omega
      exact (World.cell?_of_block (a := ⟨g, off + j, none⟩) (hb hc)).trans (h.cells j u hj),
    fun j hj => by rw [World.cell?_of_block (a := ⟨g, off + j, none⟩) (hb (by omega))]; exact h.room j hj,
    fun j hj => by rw [World.frozen?_of_block (a := ⟨g, off + j, none⟩) (hb (by omega))]; exact h.free j hj⟩

theorem Held.grown {w w' : World} {base : Nat} {v : Value} {xs : List Value} {row : Option Nat} (h : Held w base v xs) (hg : w.grownBy w' row) (hne : ∀ k, v.ownBlock = some k → row ≠ some k) : Held w' base v xs := by
  obtain ⟨n, cap, g, off, ao, rfl, h⟩ := h
  refine ⟨n, cap, g, off, ao, rfl, h.carry hg.size fun hc => ?_⟩
  refine hg.block g (h.lt hc) fun e => ?_
  exact hne g (by rw [h.addr hc]; rfl) e.symm

theorem Held.below {w w' : World} {base : Nat} {v : Value} {xs : List Value} (h : Held w base v xs) (hb : Below w.heap.size w w') : Held w' base v xs := by
  obtain ⟨n, cap, g, off, ao, rfl, h⟩ := h
  exact ⟨n, cap, g, off, ao, rfl, h.carry hb.size fun hc => hb.block g (h.lt hc)⟩

theorem Held.alloc {w : World} {base : Nat} {v : Value} {xs : List Value} (h : Held w base v xs) (o : Obj) : Held (w.alloc o) base v xs :=
  h.below ((Below.refl _ _).alloc (Nat.le_refl _) o)

theorem Held.drew {w : World} {base : Nat} {v : Value} {xs : List Value} (h : Held w base v xs) : Held w.drew base v xs :=
  h.below (Below.refl _ _).drew

/-- What one or more appends have made of v: its own block alone has turned, and it lies there still or in a new one. -/
structure Grew (w : World) (v : Value) (w' : World) (v' : Value) : Prop where
  grown : w.grownBy w' v.ownBlock
  own : v'.ownBlock = v.ownBlock ∨ ∃ k, v'.ownBlock = some k ∧ w.heap.size ≤ k

theorem Grew.refl (w : World) (v : Value) : Grew w v w v := ⟨⟨rfl, rfl, rfl, Nat.le_refl _, fun _ _ _ => rfl⟩, .inl rfl⟩

theorem Grew.trans {w w1 w2 : World} {v v1 v2 : Value} (a : Grew w v w1 v1) (b : Grew w1 v1 w2 v2) : Grew w v w2 v2 := by
  refine ⟨⟨b.grown.os.trans a.grown.os, b.grown.tape.trans a.grown.tape, b.grown.output.trans a.grown.output, Nat.le_trans a.grown.size b.grown.size, fun k hk hne => ?_⟩, ?_⟩
  · refine (b.grown.block k (Nat.lt_of_lt_of_le hk a.grown.size) fun e => ?_).trans (a.grown.block k hk hne)
    rcases a.own with h | ⟨j, h, hj⟩
    · exact hne (by rw [e, h])
    · rw [h] at e; cases e; omega
  · rcases b.own with h | ⟨j, h, hj⟩
    · rcases a.own with h' | ⟨j', h', hj'⟩
      · exact .inl (h.trans h')
      · exact .inr ⟨j', h.trans h', hj'⟩
    · exact .inr ⟨j, h, Nat.le_trans a.grown.size hj⟩

theorem Grew.before {w w1 w2 : World} {v v2 : Value} (b : Grew w1 v w2 v2) (a : Below w.heap.size w w1) : Grew w v w2 v2 := by
  refine ⟨⟨b.grown.os.trans a.os, b.grown.tape.trans a.tape, b.grown.output.trans a.output, Nat.le_trans a.size b.grown.size, fun k hk hne => ?_⟩, ?_⟩
  · exact (b.grown.block k (Nat.lt_of_lt_of_le hk a.size) hne).trans (a.block k hk)
  · rcases b.own with h | ⟨j, h, hj⟩
    · exact .inl h
    · exact .inr ⟨j, h, Nat.le_trans a.size hj⟩

theorem Grew.after {w w1 w2 : World} {v v1 : Value} (a : Grew w v w1 v1) (b : Below w1.heap.size w1 w2) : Grew w v w2 v1 :=
  ⟨⟨b.os.trans a.grown.os, b.tape.trans a.grown.tape, b.output.trans a.grown.output, Nat.le_trans a.grown.size b.size, fun k hk hne => (b.block k (Nat.lt_of_lt_of_le hk a.grown.size)).trans (a.grown.block k hk hne)⟩, a.own⟩

theorem Held.own {w : World} {base : Nat} {v : Value} {xs : List Value} (h : Held w base v xs) : ∀ k, v.ownBlock = some k → base ≤ k := by
  obtain ⟨n, cap, g, off, ao, rfl, h⟩ := h
  intro k hk
  cases ao with
  | none => simp [Value.ownBlock] at hk
  | some a =>
    simp [Value.ownBlock] at hk
    subst hk
    exact h.own a rfl

/-- What stands below 'base' is as it was. -/
theorem Grew.below {w w' : World} {base : Nat} {v v' : Value} {xs : List Value} (g : Grew w v w' v') (h : Held w base v xs) (hb : base ≤ w.heap.size) : Below base w w' :=
  (Below.refl _ _).grown g.grown hb h.own

theorem setCells_tape (b : Nat) : ∀ (vs : List Value) (o : Nat) (w : World), (w.setCells b o vs).tape = w.tape
  | [], _, _ => rfl
  | v :: r, o, w => by rw [World.setCells, setCells_tape b r]; rfl

theorem setCells_size (b : Nat) : ∀ (vs : List Value) (o : Nat) (w : World), (w.setCells b o vs).heap.size = w.heap.size
  | [], _, _ => rfl
  | v :: r, o, w => by rw [World.setCells, setCells_size b r]; simp [World.setCell]

theorem setCells_grown (w : World) (g o : Nat) (vs : List Value) : w.grownBy (w.setCells g o vs) (some g) :=
  ⟨World.os_setCells w g o vs, setCells_tape g vs o w, World.output_setCells w g o vs, Nat.le_of_eq (setCells_size g vs o w).symm, fun k hk hne => World.heap_setCells_other w g o vs hk fun e => hne (by rw [e])⟩

/-- append, whatever is appended. -/
theorem Held.append {P : Program} {w : World} {base : Nat} {v : Value} {xs : List Value} (h : Held w base v xs) (t tx ty e : TypeId) (i : TypeInfo) (z : Value) (bytes : Nat)
    (ht : P.underlying t = some (.slice e)) (hi : P.info? e = some i) (hz : i.zero = some z) (hsize : i.size = 1) (hby : i.bytes = bytes) (hzs : z.cells.size = 1)
    (x : Value) (n : Nat) (news : List Value) (hs : Src P 1 tx x n news w) (hfit : xs.length + n ≤ maxLen) (hbytes : (xs.length + n) * bytes ≤ 140737488355328) (hbase : base ≤ w.heap.size) :
    ∃ v' w', (Builtin.append_ #[t, tx] ty #[v, x]).run P w = .ok v' w' ∧ Held w' base v' (xs ++ news) ∧ Grew w v w' v' := by
  obtain ⟨len, cap, g, off, ao, rfl, h⟩ := h
  have hlen := h.len
  have hle := h.le
  have hmax := h.max
  have hn : news.length = n := by simpa using hs.newsLen
  by_cases hroom : len + n ≤ cap
  · by_cases hc : 0 < cap
    · have hrun := run_append_room_src (P := P) w t tx ty e i ht hi g off len cap x n news (by rw [hsize]; exact hs) hroom
        (fun j hj => by rw [hsize, Nat.mul_one, Nat.add_assoc]; exact h.room _ (by omega)) (fun j hj => by rw [hsize, Nat.mul_one, Nat.add_assoc]; exact h.free _ (by omega))
      rw [hsize, Nat.mul_one] at hrun
      have hao := h.addr hc
      subst hao
      refine ⟨_, _, hrun, ⟨len + n, cap, g, off, _, rfl, by simp; omega, hroom, hmax, fun _ => rfl, h.own, fun hc => by rw [setCells_size]; exact h.lt hc, fun j u hj => ?_, fun j hj => ?_, fun j hj => ?_⟩, setCells_grown w g _ news, .inl rfl⟩
      · by_cases hjl : j < xs.length
        · rw [List.getElem?_append_left hjl] at hj
          rw [World.cell?_setCells_out g news _ w _ fun _ _ => .inl (by simp; omega)]
          exact h.cells j u hj
        · rw [List.getElem?_append_right (by omega)] at hj
          have hjn : j - xs.length < news.length := (List.getElem?_eq_some_iff.1 hj).1
          have hin := World.cell?_setCells_in g news (off + len) w (fun j' hj' => by rw [Nat.add_assoc]; exact h.room _ (by omega)) (j - xs.length) hjn
          rw [show off + len + (j - xs.length) = off + j by omega] at hin
          rw [hin, ← hj, List.getElem?_eq_getElem hjn]
      · exact World.isSome_setCells g news _ w _ (h.room j hj)
      · rw [World.frozen?_setCells]
        exact h.free j hj
    · obtain rfl : n = 0 := by omega
      obtain rfl : news = [] := List.eq_nil_of_length_eq_zero hn
      have hrun := run_append_nothing (P := P) w t tx ty e i ht hi ao len cap hle x (by rw [hsize]; exact hs)
      exact ⟨_, _, hrun, by rw [List.append_nil]; exact ⟨len, cap, g, off, ao, rfl, h⟩, Grew.refl _ _⟩
  · have hold : (Builtin.firstCells i.size len (.slice ao len cap)).run P w.drew = .ok xs.toArray w.drew := by
      rw [hsize]
      rcases Nat.eq_zero_or_pos cap with h0 | h0
      · obtain rfl : len = 0 := by omega
        obtain rfl : xs = [] := List.eq_nil_of_length_eq_zero hlen.symm
        cases ao with
        | none => exact run_firstCells_none w.drew 1 0 0 cap
        | some a => exact run_firstCells_some w.drew 1 0 a 0 cap [] (by simp) (fun j u hj => by simp at hj)
      · rw [h.addr h0]
        exact run_firstCells_some w.drew 1 len ⟨g, off, none⟩ len cap xs (by omega) (fun j u hj => by
          rw [Addr.add_lit]
          exact h.cells j u hj)
    have h63 : ((len + n : Nat) : Int) ≤ 9223372036854775807 := by unfold maxLen at hfit; omega
    have hrun := run_append_grow_src (P := P) w t tx ty e i z ht hi hz ao len cap xs hold x n news (by rw [hsize]; exact hs) (by omega) h63
      (growslice_fits (by omega) (by rw [hby, hlen]; exact hbytes))
    have hge := grownCap_ge w (len + n) cap e
    have hcm : grownCap w (len + n) cap e ≤ maxLen := grownCap_le_maxLen w (len + n) cap e (by rw [hlen]; exact hfit)
    generalize hC : (xs ++ news).toArray ++ Builtin.zeroCells z.cells (grownCap w (len + n) cap e - (len + n)) = C at hrun
    have hCs : C.size = grownCap w (len + n) cap e := by
      rw [← hC]
      simp only [Array.size_append, List.size_toArray, size_zeroCells, hzs, List.length_append]
      omega
    have hcell : ∀ j, (w.drew.alloc (.cells C e)).cell? ⟨w.heap.size, 0 + j, none⟩ = C[j]? := fun j => by
      rw [Nat.zero_add]; exact World.cell?_alloc_mark w.drew C e (0, 0) j
    refine ⟨_, _, hrun, ⟨len + n, _, w.heap.size, 0, _, rfl, by simp; omega, hge, hcm, fun _ => rfl, fun a ha => by cases ha; exact hbase, fun _ => by simp, fun j u hj => ?_, fun j hj => ?_, fun j hj => ?_⟩,
      ⟨rfl, rfl, rfl, by simp, fun k hk _ => by first | exact heap_alloc_old w.drew _ k hk | exact heap_alloc_old w.drew _ hk⟩, .inr ⟨w.heap.size, rfl, Nat.le_refl _⟩⟩
    · rw [hcell, ← hC]
      have hjl : j < (xs ++ news).length := (List.getElem?_eq_some_iff.1 hj).1
      rw [Array.getElem?_append_left (by simpa using hjl)]
      simpa using hj
    · rw [hcell, Array.getElem?_eq_getElem (by omega)]
      rfl
    · rw [Nat.zero_add]
      have := World.frozen?_alloc_mark w.drew C e 0 0 j
      simpa using this

/-- .. for the walk, at one operation: 'go_wp2_with (at_builtin; refine wpList_append_held ..)'. -/
theorem wpList_append_held {P : Program} {w : World} {ops : Array Oper} {rest : List Oper} {o : Oper} {a : Act} {Q : Exit → Act → World → Prop} (hgd : o.guard = none) (s x : Operand) (t tx : TypeId)
    (ho : o.op = .call { callee := .builtin .append, args := #[s, x], argTypes := #[t, tx] })
    {base : Nat} {v : Value} {xs : List Value} (hs : a.eval s = v) (h : Held w base v xs) (e : TypeId) (i : TypeInfo) (z : Value) (bytes : Nat)
    (ht : P.underlying t = some (.slice e)) (hi : P.info? e = some i) (hz : i.zero = some z) (hsize : i.size = 1) (hby : i.bytes = bytes) (hzs : z.cells.size = 1)
    (u : Value) (hx : a.eval x = u) (n : Nat) (news : List Value) (hsrc : Src P 1 tx u n news w) (hfit : xs.length + n ≤ maxLen) (hbytes : (xs.length + n) * bytes ≤ 140737488355328) (hbase : base ≤ w.heap.size)
    (hK : ∀ v' w', Held w' base v' (xs ++ news) → Grew w v w' v' → wpList P ops Q rest (a.put o.dst v') w') : wpList P ops Q (o :: rest) a w := by
  refine wpList_plain hgd fun K hK' => ?_
  obtain ⟨v', w', hrun, r1, r2⟩ := h.append (P := P) t tx o.type e i z bytes ht hi hz hsize hby hzs u n news hsrc hfit hbytes hbase
  unfold Oper.wp
  simp [execOp, ho, resolve, invoke, builtin, hs, hx, hrun, Result.andThen]
  exact hK' _ _ (hK v' w' r1 r2)

/-- .. for one step of a region that draws its order. -/
theorem step_append_held {P : Program} {w : World} {ops : Array Oper} {o : Oper} {a : Act} {K : Act → World → Prop} {Q : Exit → Act → World → Prop} {E : Prop} (hgd : o.guard = none) (s x : Operand) (t tx : TypeId)
    (ho : o.op = .call { callee := .builtin .append, args := #[s, x], argTypes := #[t, tx] })
    {base : Nat} {v : Value} {xs : List Value} (hs : a.eval s = v) (h : Held w base v xs) (e : TypeId) (i : TypeInfo) (z : Value) (bytes : Nat)
    (ht : P.underlying t = some (.slice e)) (hi : P.info? e = some i) (hz : i.zero = some z) (hsize : i.size = 1) (hby : i.bytes = bytes) (hzs : z.cells.size = 1)
    (u : Value) (hx : a.eval x = u) (n : Nat) (news : List Value) (hsrc : Src P 1 tx u n news w) (hfit : xs.length + n ≤ maxLen) (hbytes : (xs.length + n) * bytes ≤ 140737488355328) (hbase : base ≤ w.heap.size)
    (hK : ∀ v' w', Held w' base v' (xs ++ news) → Grew w v w' v' → K (a.put o.dst v') w') : if Region.wanted o (yielded ops a.tmps) = true then Oper.wp P o a w K Q else E := by
  have hw : Region.wanted o (yielded ops a.tmps) = true := by simp [Region.wanted, hgd]
  rw [if_pos hw]
  obtain ⟨v', w', hrun, r1, r2⟩ := h.append (P := P) t tx o.type e i z bytes ht hi hz hsize hby hzs u n news hsrc hfit hbytes hbase
  unfold Oper.wp
  simp [execOp, ho, resolve, invoke, builtin, hs, hx, hrun, Result.andThen]
  exact hK v' w' r1 r2

/-- Bytes as cells. -/
def bv (l : List UInt8) : List Value := l.map fun b => Value.int .u8 b.toNat

theorem bv_length (l : List UInt8) : (bv l).length = l.length := by simp [bv]
theorem bv_append (l r : List UInt8) : bv (l ++ r) = bv l ++ bv r := by simp [bv]
theorem bv_at {l : List UInt8} {j : Nat} (h : j < l.length) : (bv l)[j]? = some (.int .u8 (l[j].toNat : Int)) := by simp [bv, h]

/-- '[]byte(s)'. -/
theorem held_bytes {P : Program} (w : World) (src dst e : TypeId) (s : ByteArray) (hs : P.underlying src = some .string) (hd : P.underlying dst = some (.slice e)) (he : P.underlying e = some (.int .u8)) (hm : s.size ≤ maxLen) :
    ∃ v w', (convert src dst (.string s)).run P w = .ok v w' ∧ Held w' w.heap.size v (bv s.data.toList) ∧ Below w.heap.size w w' := by
  have hrun := run_bytes_of_string (P := P) w src dst e s hs hd he
  have hge := grownCap_ge w s.size 0 e
  have hcm := grownCap_le_maxLen w s.size 0 e hm
  have hsz : s.data.toList.length = s.size := Array.length_toList
  have hds : s.data.size = s.size := rfl
  have hC : (bytesRow s (grownCap w s.size 0 e)).size = grownCap w s.size 0 e := by
    unfold bytesRow
    rw [Array.size_append, Array.size_map, Array.size_replicate, hds]
    omega
  refine ⟨_, _, hrun, ⟨s.size, _, w.heap.size, 0, _, rfl, by rw [bv_length, hsz], hge, hcm, fun _ => rfl, fun a ha => by cases ha; exact Nat.le_refl _, fun _ => by simp, fun j u hj => ?_, fun j hj => ?_, fun j hj => ?_⟩,
    (Below.refl _ _).drew.alloc (Nat.le_refl _) _⟩
  · rw [Nat.zero_add, show w.heap.size = w.drew.heap.size from rfl, World.cell?_alloc_mark w.drew]
    have hjl : j < s.data.toList.length := by
      have := (List.getElem?_eq_some_iff.1 hj).1
      rwa [bv_length] at this
    rw [bytesRow_at s _ j (by simpa using hjl), ← hj, bv_at hjl]
    simp
  · rw [Nat.zero_add, show w.heap.size = w.drew.heap.size from rfl, World.cell?_alloc_mark w.drew, Array.getElem?_eq_getElem (by omega)]
    rfl
  · rw [Nat.zero_add, show w.heap.size = w.drew.heap.size from rfl, World.frozen?_alloc_mark w.drew, hC]
    simp
    omega

/-- 'string(b)'. -/
theorem Held.string {P : Program} {w : World} {base : Nat} {v : Value} {l : List UInt8} (h : Held w base v (bv l)) (src dst e : TypeId) (hs : P.underlying src = some (.slice e)) (he : P.underlying e = some (.int .u8)) (hd : P.underlying dst = some .string) :
    (convert src dst v).run P w = .ok (.string ⟨l.toArray⟩) w := by
  obtain ⟨n, cap, g, off, ao, rfl, h⟩ := h
  have hlen := h.len
  rw [bv_length] at hlen
  subst hlen
  have hle := h.le
  cases ao with
  | none =>
    rcases Nat.eq_zero_or_pos cap with h0 | h0
    · obtain rfl : l = [] := List.eq_nil_of_length_eq_zero (by omega)
      exact run_convert_bytes_nil w src e hs he _ _ dst hd
    · exact absurd (h.addr h0) (by simp)
  | some a =>
    refine run_convert_bytes_back w src dst e a cap l hs he hd fun j hj => ?_
    have h0 : 0 < cap := by omega
    have ha := h.addr h0
    cases ha
    rw [Addr.add_lit]
    exact h.cells j _ (bv_at hj)

/-- The slice's shape and length. -/
theorem Held.shape {w : World} {base : Nat} {v : Value} {xs : List Value} (h : Held w base v xs) : ∃ ao cap, v = .slice ao xs.length cap := by
  obtain ⟨n, cap, g, off, ao, rfl, h⟩ := h
  exact ⟨ao, cap, by rw [h.len]⟩

end Go.Proofs.YtnbdpalbompjlaaDoor
