/-
  The texts Plain, Bits, Msg, one behind the other.
-/
/-
  Numbers as bytes, the lowest first: plain mathematics, nothing of the program.
-/
namespace Go.Proofs.YtnbdpalbompjlaaDoor

/-- The lowest k bytes of n, the lowest first. -/
def leB (n : Nat) : Nat → List UInt8
  | 0 => []
  | k + 1 => UInt8.ofNat (n % 256) :: leB (n / 256) k

theorem leB_length (k : Nat) : ∀ n, (leB n k).length = k := by
  induction k with
  | zero => intro n; rfl
  | succ k ih => intro n; simp [leB, ih]

theorem leB_snoc (k : Nat) : ∀ n, leB n (k + 1) = leB n k ++ [UInt8.ofNat (n / 256 ^ k % 256)] := by
  induction k with
  | zero => intro n; simp [leB]
  | succ k ih =>
    intro n
    rw [leB, ih, leB, List.cons_append, Nat.div_div_eq_div_mul, show 256 * 256 ^ k = 256 ^ (k + 1) by rw [Nat.pow_succ, Nat.mul_comm]]

/-- How many bytes a width means. -/
def wid (width : Int) : Nat := (min (max width 0) 8).toNat

theorem wid_le (width : Int) : wid width ≤ 8 := by unfold wid; omega

/-- A row of bytes as a number, the lowest first. -/
def leN : List UInt8 → Nat
  | [] => 0
  | b :: r => b.toNat + 256 * leN r

theorem leN_lt : ∀ l : List UInt8, leN l < 256 ^ l.length
  | [] => by simp [leN]
  | b :: r => by
    have h := leN_lt r
    have hb := b.toNat_lt
    rw [leN, List.length_cons, Nat.pow_succ]
    omega

theorem leN_snoc : ∀ (l : List UInt8) (b : UInt8), leN (l ++ [b]) = leN l + 256 ^ l.length * b.toNat
  | [], b => by simp [leN]
  | a :: r, b => by
    rw [List.cons_append, leN, leN_snoc r b, leN, List.length_cons, Nat.pow_succ, Nat.mul_add, ← Nat.add_assoc, Nat.mul_comm (256 ^ r.length) 256, Nat.mul_assoc]

theorem leN_leB (k : Nat) : ∀ n, leN (leB n k) = n % 256 ^ k := by
  induction k with
  | zero => intro n; simp [leB, leN, Nat.mod_one]
  | succ k ih =>
    intro n
    have h : (UInt8.ofNat (n % 256)).toNat = n % 256 := by simp
    rw [leB, leN, ih, h, Nat.pow_succ, Nat.mul_comm (256 ^ k) 256, Nat.mod_mul]

theorem leB_leN : ∀ l : List UInt8, leB (leN l) l.length = l
  | [] => rfl
  | b :: r => by
    have hb := b.toNat_lt
    have h1 : (b.toNat + 256 * leN r) % 256 = b.toNat := by omega
    have h2 : (b.toNat + 256 * leN r) / 256 = leN r := by omega
    rw [List.length_cons, leN, leB, h1, h2, leB_leN r]
    simp

end Go.Proofs.YtnbdpalbompjlaaDoor

/-
  Rows of yes and no as numbers and as bytes: plain mathematics, nothing of the program.
-/
namespace Go.Proofs.YtnbdpalbompjlaaDoor

/-- A row as a number, the first one lowest. -/
def packN : List Bool → Nat
  | [] => 0
  | b :: r => b.toNat + 2 * packN r

theorem bool_toNat_le (b : Bool) : b.toNat ≤ 1 := by cases b <;> simp

theorem packN_lt : ∀ l : List Bool, packN l < 2 ^ l.length
  | [] => by simp [packN]
  | b :: r => by
    have h := packN_lt r
    have := bool_toNat_le b
    rw [packN, List.length_cons, Nat.pow_succ]
    omega

theorem packN_append : ∀ l r : List Bool, packN (l ++ r) = packN l + 2 ^ l.length * packN r
  | [], r => by simp [packN]
  | b :: t, r => by
    rw [List.cons_append, packN, packN_append t r, packN, List.length_cons, Nat.pow_succ, Nat.mul_add, ← Nat.add_assoc, Nat.mul_comm (2 ^ t.length) 2, Nat.mul_assoc]

theorem packN_snoc (l : List Bool) (b : Bool) : packN (l ++ [b]) = packN l + 2 ^ l.length * b.toNat := by
  rw [packN_append]; simp [packN]

theorem packN_drop : ∀ (k : Nat) (l : List Bool), packN l / 2 ^ k = packN (l.drop k)
  | 0, l => by simp
  | k + 1, [] => by simp [packN]
  | k + 1, b :: r => by
    have := bool_toNat_le b
    rw [List.drop_succ_cons, ← packN_drop k r, packN, Nat.pow_succ, Nat.mul_comm (2 ^ k) 2, ← Nat.div_div_eq_div_mul]
    congr 1
    omega

theorem packN_take : ∀ (k : Nat) (l : List Bool), packN l % 2 ^ k = packN (l.take k)
  | 0, l => by simp [packN, Nat.mod_one]
  | k + 1, [] => by simp [packN]
  | k + 1, b :: r => by
    have := bool_toNat_le b
    rw [List.take_succ_cons, packN, packN, ← packN_take k r, Nat.pow_succ, Nat.mul_comm (2 ^ k) 2, Nat.mod_mul]
    have h1 : (b.toNat + 2 * packN r) % 2 = b.toNat := by omega
    have h2 : (b.toNat + 2 * packN r) / 2 = packN r := by omega
    rw [h1, h2]

theorem packN_bit : ∀ (l : List Bool) (i : Nat), (packN l).testBit i = l.getD i false
  | [], i => by simp [packN]
  | b :: r, 0 => by
    cases b <;> simp [packN, Nat.testBit_zero] <;> omega
  | b :: r, i + 1 => by
    have := bool_toNat_le b
    rw [Nat.testBit_succ, packN, show (b.toNat + 2 * packN r) / 2 = packN r by omega, packN_bit r i]
    simp

/-- A row's number, with the yes that says where it ends. -/
def rowN (l : List Bool) : Nat := packN (l ++ [true])

theorem rowN_eq (l : List Bool) : rowN l = packN l + 2 ^ l.length := by unfold rowN; rw [packN_snoc]; simp

theorem rowN_ge (l : List Bool) : 2 ^ l.length ≤ rowN l := by rw [rowN_eq]; omega
theorem rowN_lt (l : List Bool) : rowN l < 2 ^ (l.length + 1) := by
  have := packN_lt l
  rw [rowN_eq, Nat.pow_succ]; omega

/-- A row's bytes. -/
def encR (l : List Bool) : List UInt8 := leB (rowN l) (l.length / 8 + 1)

theorem encR_length (l : List Bool) : (encR l).length = l.length / 8 + 1 := leB_length _ _

theorem pow_bytes (j : Nat) : 256 ^ j = 2 ^ (8 * j) := by rw [Nat.pow_mul]

theorem rowN_step (l : List Bool) (j : Nat) (h : 8 * j + 8 ≤ l.length) : rowN l / 256 ^ j % 256 = packN ((l.drop (8 * j)).take 8) := by
  unfold rowN
  rw [pow_bytes, packN_drop, show 256 = 2 ^ 8 from rfl, packN_take, List.drop_append_of_le_length (by omega), List.take_append_of_le_length (by rw [List.length_drop]; omega)]

theorem rowN_last (l : List Bool) (j : Nat) (h1 : 8 * j ≤ l.length) (h2 : l.length < 8 * j + 8) : rowN l / 256 ^ j % 256 = packN (l.drop (8 * j)) + 2 ^ (l.length - 8 * j) := by
  unfold rowN
  have e : packN (List.drop (8 * j) l ++ [true]) = packN (l.drop (8 * j)) + 2 ^ (l.length - 8 * j) := by rw [packN_snoc, List.length_drop]; simp
  rw [pow_bytes, packN_drop, List.drop_append_of_le_length (by omega), e]
  have hlt := packN_lt (l.drop (8 * j))
  rw [List.length_drop] at hlt
  have hp : 2 ^ (l.length - 8 * j + 1) ≤ 2 ^ 8 := Nat.pow_le_pow_right (by omega) (by omega)
  rw [Nat.pow_succ] at hp
  exact Nat.mod_eq_of_lt (by omega)

/-- The first m bits of a number. -/
def decR (N m : Nat) : List Bool := (List.range m).map N.testBit

theorem dec_length (N m : Nat) : (decR N m).length = m := by simp [decR]
theorem dec_get (N m j : Nat) (h : j < m) : (decR N m)[j]? = some (N.testBit j) := by simp [decR, h]
theorem dec_succ (N m : Nat) : decR N (m + 1) = decR N m ++ [N.testBit m] := by simp [decR, List.range_succ]
theorem dec_take (N m k : Nat) (h : k ≤ m) : (decR N m).take k = decR N k := by
  unfold decR
  rw [← List.map_take, List.take_range, Nat.min_eq_left h]

/-- m is the length of the row whose bytes s are. -/
structure IsLen (s : List UInt8) (m : Nat) : Prop where
  lo : 2 ^ m ≤ leN s
  hi : leN s < 2 ^ (m + 1)
  size : m / 8 + 1 = s.length

theorem pow_unique {N m k : Nat} (h1 : 2 ^ m ≤ N) (h2 : N < 2 ^ (m + 1)) (h3 : 2 ^ k ≤ N) (h4 : N < 2 ^ (k + 1)) : m = k := by
  rcases Nat.lt_trichotomy m k with h | h | h
  · have : 2 ^ (m + 1) ≤ 2 ^ k := Nat.pow_le_pow_right (by omega) (by omega)
    omega
  · exact h
  · have : 2 ^ (k + 1) ≤ 2 ^ m := Nat.pow_le_pow_right (by omega) (by omega)
    omega

theorem IsLen.unique {s : List UInt8} {m k : Nat} (h : IsLen s m) (h' : IsLen s k) : m = k := pow_unique h.lo h.hi h'.lo h'.hi

theorem bit_top {N m : Nat} (h1 : 2 ^ m ≤ N) (h2 : N < 2 ^ (m + 1)) : N.testBit m = true := by
  rw [Nat.testBit_eq_decide_div_mod_eq]
  have : N / 2 ^ m = 1 := by
    rw [Nat.pow_succ] at h2
    exact Nat.div_eq_of_lt_le (by omega) (by omega)
  rw [this]; rfl

theorem bit_over {N m i : Nat} (h2 : N < 2 ^ (m + 1)) (h : m < i) : N.testBit i = false :=
  Nat.testBit_lt_two_pow (Nat.lt_of_lt_of_le h2 (Nat.pow_le_pow_right (by omega) (by omega)))

theorem rowN_dec {N m : Nat} (h1 : 2 ^ m ≤ N) (h2 : N < 2 ^ (m + 1)) : rowN (decR N m) = N := by
  apply Nat.eq_of_testBit_eq
  intro i
  unfold rowN
  rw [packN_bit]
  rcases Nat.lt_trichotomy i m with h | h | h
  · rw [List.getD_eq_getElem?_getD, List.getElem?_append_left (by rw [dec_length]; exact h), dec_get N m i h]; rfl
  · subst h
    rw [List.getD_eq_getElem?_getD, List.getElem?_append_right (by rw [dec_length]; omega), dec_length, bit_top h1 h2]; simp
  · rw [List.getD_eq_getElem?_getD, List.getElem?_append_right (by rw [dec_length]; omega), dec_length, bit_over h2 h]
    have : ∃ k, i - m = k + 1 := ⟨i - m - 1, by omega⟩
    obtain ⟨k, hk⟩ := this
    rw [hk]; rfl

theorem encR_dec {s : List UInt8} {m : Nat} (h : IsLen s m) : encR (decR (leN s) m) = s := by
  unfold encR
  rw [rowN_dec h.lo h.hi, dec_length, h.size, leB_leN]

theorem leN_encR (l : List Bool) : leN (encR l) = rowN l := by
  unfold encR
  rw [leN_leB]
  apply Nat.mod_eq_of_lt
  refine Nat.lt_of_lt_of_le (rowN_lt l) ?_
  rw [pow_bytes]
  exact Nat.pow_le_pow_right (by omega) (by omega)

theorem isLen_encR (l : List Bool) : IsLen (encR l) l.length :=
  ⟨by rw [leN_encR]; exact rowN_ge l, by rw [leN_encR]; exact rowN_lt l, (encR_length l).symm⟩

theorem dec_rowN (l : List Bool) : decR (rowN l) l.length = l := by
  apply List.ext_getElem?
  intro i
  by_cases h : i < l.length
  · rw [dec_get _ _ _ h]
    unfold rowN
    rw [packN_bit, List.getD_eq_getElem?_getD, List.getElem?_append_left h, List.getElem?_eq_getElem h]; rfl
  · rw [List.getElem?_eq_none (by rw [dec_length]; omega), List.getElem?_eq_none (by omega)]

theorem dec_encR (l : List Bool) : decR (leN (encR l)) l.length = l := by rw [leN_encR, dec_rowN]

theorem encR_inj {l r : List Bool} (h : encR l = encR r) : l = r := by
  have h1 := isLen_encR l
  rw [h] at h1
  have := h1.unique (isLen_encR r)
  rw [← dec_encR l, ← dec_encR r, h, this]

/-- The bits of a row of bytes. -/
theorem leN_drop : ∀ (k : Nat) (s : List UInt8), leN s / 256 ^ k = leN (s.drop k)
  | 0, s => by simp
  | k + 1, [] => by simp [leN]
  | k + 1, b :: r => by
    have := b.toNat_lt
    rw [List.drop_succ_cons, ← leN_drop k r, leN, Nat.pow_succ, Nat.mul_comm (256 ^ k) 256, ← Nat.div_div_eq_div_mul]
    congr 1
    omega

theorem leN_byte (s : List UInt8) (k : Nat) (h : k < s.length) : leN s / 256 ^ k % 256 = s[k].toNat := by
  rw [leN_drop, List.drop_eq_getElem_cons h, leN]
  have := s[k].toNat_lt
  omega

theorem leN_bit (s : List UInt8) (i : Nat) (h : i / 8 < s.length) : (leN s).testBit i = decide (s[i / 8].toNat / 2 ^ (i % 8) % 2 = 1) := by
  rw [Nat.testBit_eq_decide_div_mod_eq, ← leN_byte s (i / 8) h, pow_bytes]
  have e1 : leN s / 2 ^ i = leN s / 2 ^ (8 * (i / 8)) / 2 ^ (i % 8) := by
    rw [Nat.div_div_eq_div_mul, ← Nat.pow_add, show 8 * (i / 8) + i % 8 = i by omega]
  have e2 : (leN s / 2 ^ (8 * (i / 8)) % 256) / 2 ^ (i % 8) % 2 = leN s / 2 ^ (8 * (i / 8)) / 2 ^ (i % 8) % 2 := by
    generalize leN s / 2 ^ (8 * (i / 8)) = M
    have h8 : i % 8 < 8 := Nat.mod_lt _ (by omega)
    generalize i % 8 = k at h8
    match k, h8 with
    | 0, _ => omega
    | 1, _ => omega
    | 2, _ => omega
    | 3, _ => omega
    | 4, _ => omega
    | 5, _ => omega
    | 6, _ => omega
    | 7, _ => omega
  rw [e1, e2]

theorem isLen_snoc (t : List UInt8) (c : UInt8) (hc : c.toNat ≠ 0) : IsLen (t ++ [c]) (8 * t.length + Nat.log2 c.toNat) := by
  have h1 : 2 ^ Nat.log2 c.toNat ≤ c.toNat := Nat.log2_self_le hc
  have h2 : c.toNat < 2 ^ (Nat.log2 c.toNat + 1) := Nat.lt_log2_self
  have h3 : Nat.log2 c.toNat < 8 := (Nat.log2_lt hc).2 c.toNat_lt
  have ht := leN_lt t
  refine ⟨?_, ?_, ?_⟩
  · rw [leN_snoc, Nat.pow_add, pow_bytes]
    exact Nat.le_trans (Nat.mul_le_mul_left _ h1) (by omega)
  · rw [leN_snoc, pow_bytes, Nat.add_assoc, Nat.pow_add]
    rw [pow_bytes] at ht
    calc leN t + 2 ^ (8 * t.length) * c.toNat < 2 ^ (8 * t.length) + 2 ^ (8 * t.length) * c.toNat := by omega
      _ = 2 ^ (8 * t.length) * (c.toNat + 1) := by rw [Nat.mul_succ, Nat.add_comm]
      _ ≤ _ := Nat.mul_le_mul_left _ h2
  · rw [List.length_append, List.length_singleton]; omega

end Go.Proofs.YtnbdpalbompjlaaDoor

/-
  Messages and their bytes: plain mathematics, nothing of the program.
-/
namespace Go.Proofs.YtnbdpalbompjlaaDoor

/-- A message. -/
structure Msg where
  k : Int
  s : Int
  T : List UInt8
  m : Int
  b : Nat
  l : List Bool
  G : List UInt8

/-- Its parts are as long as they are. -/
structure Msg.Fits (M : Msg) : Prop where
  T : M.T.length = 32
  G : M.G.length = 16
  b : M.b < 2 ^ 64

def zeroMsg : Msg := ⟨0, 0, List.replicate 32 0, 0, 0, [], List.replicate 16 0⟩
theorem zeroMsg_fits : zeroMsg.Fits := ⟨by simp [zeroMsg], by simp [zeroMsg], by simp [zeroMsg]⟩

/-- It can be. -/
def msgGood (M : Msg) : Bool :=
  decide (0 ≤ M.s ∧ M.s ≤ 1073741824 ∧ 0 ≤ M.m ∧ M.m ≤ 65535) &&
    (if M.k = 1 then decide (M.l.length = 0) else if M.k = 2 then decide (M.l.length = 0) && decide (M.b = 0) else if M.k = 3 then decide (M.m = 0) && decide (M.b = 0) && (decide (M.l.length ≤ 16) && M.l.any id) else false)

/-- What stands behind Target. -/
def msgR (M : Msg) : List UInt8 :=
  if M.k = 1 then leB M.m.toNat 2 ++ leB M.b 8 else if M.k = 2 then leB M.m.toNat 2 else if M.k = 3 then encR M.l else []

def msgP (M : Msg) : List UInt8 := leB M.k.toNat 1 ++ (leB M.s.toNat 4 ++ (M.T ++ msgR M))
def msgB (M : Msg) : List UInt8 := msgP M ++ M.G

/-- What its bytes tell again. -/
structure Msg.Ranged (M : Msg) : Prop where
  fits : M.Fits
  k : M.k = 1 ∨ M.k = 2 ∨ M.k = 3
  s : 0 ≤ M.s ∧ M.s < 4294967296
  m : 0 ≤ M.m ∧ M.m < 65536
  l : M.k ≠ 3 → M.l = []
  b : M.k ≠ 1 → M.b = 0
  m3 : M.k = 3 → M.m = 0

theorem msg_ranged {M : Msg} (h : msgGood M = true) (hf : M.Fits) : M.Ranged := by
  unfold msgGood at h
  rw [Bool.and_eq_true, decide_eq_true_eq] at h
  obtain ⟨⟨h1, h2, h3, h4⟩, h5⟩ := h
  by_cases k1 : M.k = 1
  · rw [if_pos k1] at h5
    simp only [decide_eq_true_eq] at h5
    exact ⟨hf, .inl k1, ⟨h1, by omega⟩, ⟨h3, by omega⟩, fun _ => List.eq_nil_of_length_eq_zero h5, fun h => absurd k1 h, fun h => by omega⟩
  · rw [if_neg k1] at h5
    by_cases k2 : M.k = 2
    · rw [if_pos k2] at h5
      simp only [Bool.and_eq_true, decide_eq_true_eq] at h5
      exact ⟨hf, .inr (.inl k2), ⟨h1, by omega⟩, ⟨h3, by omega⟩, fun _ => List.eq_nil_of_length_eq_zero h5.1, fun _ => h5.2, fun h => by omega⟩
    · rw [if_neg k2] at h5
      by_cases k3 : M.k = 3
      · rw [if_pos k3] at h5
        simp only [Bool.and_eq_true, decide_eq_true_eq] at h5
        exact ⟨hf, .inr (.inr k3), ⟨h1, by omega⟩, ⟨h3, by omega⟩, fun h => absurd k3 h, fun _ => h5.1.2, fun _ => h5.1.1⟩
      · rw [if_neg k3] at h5; cases h5

theorem msg_bits {M : Msg} (h : msgGood M = true) : M.l.length ≤ 16 := by
  unfold msgGood at h
  rw [Bool.and_eq_true] at h
  have h5 := h.2
  split at h5
  · simp only [decide_eq_true_eq] at h5; omega
  · split at h5
    · simp only [Bool.and_eq_true, decide_eq_true_eq] at h5; omega
    · split at h5
      · simp only [Bool.and_eq_true, decide_eq_true_eq] at h5; omega
      · cases h5

theorem msgR_length {M : Msg} (h : M.Ranged) : (msgR M).length = if M.k = 1 then 10 else if M.k = 2 then 2 else M.l.length / 8 + 1 := by
  unfold msgR
  rcases h.k with k | k | k <;> simp [k, leB_length, encR_length]

theorem msgP_length {M : Msg} (h : M.Ranged) : (msgP M).length = 37 + if M.k = 1 then 10 else if M.k = 2 then 2 else M.l.length / 8 + 1 := by
  unfold msgP
  rw [List.length_append, List.length_append, List.length_append, leB_length, leB_length, h.fits.T, msgR_length h]; omega

theorem msgB_length {M : Msg} (h : M.Ranged) : (msgB M).length = 53 + if M.k = 1 then 10 else if M.k = 2 then 2 else M.l.length / 8 + 1 := by
  unfold msgB
  rw [List.length_append, msgP_length h, h.fits.G]; omega

theorem leB_low {n k : Nat} (h : n < 256 ^ k) : leN (leB n k) = n := by rw [leN_leB, Nat.mod_eq_of_lt h]
theorem leB_inj {a b k : Nat} (ha : a < 256 ^ k) (hb : b < 256 ^ k) (h : leB a k = leB b k) : a = b := by rw [← leB_low ha, ← leB_low hb, h]

theorem msgP_inj {M M' : Msg} (h : M.Ranged) (h' : M'.Ranged) (e : msgP M = msgP M') (hG : M.G = M'.G) : M = M' := by
  unfold msgP at e
  obtain ⟨e1, e⟩ := List.append_inj e (by rw [leB_length, leB_length])
  obtain ⟨e2, e⟩ := List.append_inj e (by rw [leB_length, leB_length])
  obtain ⟨e3, e⟩ := List.append_inj e (by rw [h.fits.T, h'.fits.T])
  have hk : M.k = M'.k := by
    have := leB_inj (k := 1) (by rcases h.k with q | q | q <;> rw [q] <;> decide) (by rcases h'.k with q | q | q <;> rw [q] <;> decide) e1
    rcases h.k with q | q | q <;> rcases h'.k with q' | q' | q' <;> rw [q, q'] at this <;> first | omega | (exact absurd this (by decide))
  have hs : M.s = M'.s := by
    have a := h.s; have b := h'.s
    have := leB_inj (k := 4) (by show _ < 4294967296; omega) (by show _ < 4294967296; omega) e2
    omega
  have hr : M.m = M'.m ∧ M.b = M'.b ∧ M.l = M'.l := by
    have a := h.m; have b := h'.m
    unfold msgR at e
    rcases h.k with q | q | q
    · have q' : M'.k = 1 := by rw [← hk]; exact q
      simp only [q, q', if_true] at e
      obtain ⟨e4, e5⟩ := List.append_inj e (by rw [leB_length, leB_length])
      have f4 := leB_inj (k := 2) (by show _ < 65536; omega) (by show _ < 65536; omega) e4
      have f5 := leB_inj (k := 8) (Nat.lt_of_lt_of_le h.fits.b (by decide)) (Nat.lt_of_lt_of_le h'.fits.b (by decide)) e5
      exact ⟨by omega, f5, by rw [h.l (by omega), h'.l (by omega)]⟩
    · have q' : M'.k = 2 := by rw [← hk]; exact q
      simp [q, q'] at e
      have f4 := leB_inj (k := 2) (by show _ < 65536; omega) (by show _ < 65536; omega) e
      exact ⟨by omega, by rw [h.b (by omega), h'.b (by omega)], by rw [h.l (by omega), h'.l (by omega)]⟩
    · have q' : M'.k = 3 := by rw [← hk]; exact q
      simp [q, q'] at e
      exact ⟨by rw [h.m3 q, h'.m3 q'], by rw [h.b (by omega), h'.b (by omega)], encR_inj e⟩
  obtain ⟨k, s, T, m, b, l, G⟩ := M
  obtain ⟨k', s', T', m', b', l', G'⟩ := M'
  simp only at hk hs hr e3 hG
  obtain ⟨r1, r2, r3⟩ := hr
  subst hk hs r1 r2 r3 e3 hG
  rfl

theorem msgB_split {M M' : Msg} (h : M.Fits) (h' : M'.Fits) (e : msgB M = msgB M') : msgP M = msgP M' ∧ M.G = M'.G := by
  unfold msgB at e
  have hl : (msgP M).length = (msgP M').length := by
    have := congrArg List.length e
    rw [List.length_append, List.length_append, h.G, h'.G] at this
    omega
  exact List.append_inj e hl

theorem msgB_inj {M M' : Msg} (h : M.Ranged) (h' : M'.Ranged) (e : msgB M = msgB M') : M = M' :=
  msgP_inj h h' (msgB_split h.fits h'.fits e).1 (msgB_split h.fits h'.fits e).2

/-- The message of bytes, if there is one. -/
def Reads (s : List UInt8) : Option Msg → Prop
  | some M => msgGood M = true ∧ M.Fits ∧ msgB M = s
  | none => ∀ M : Msg, msgGood M = true → M.Fits → msgB M ≠ s

theorem Reads.unique {s : List UInt8} {o o' : Option Msg} (h : Reads s o) (h' : Reads s o') : o = o' := by
  cases o with
  | none =>
    cases o' with
    | none => rfl
    | some M => exact absurd h'.2.2 (h M h'.1 h'.2.1)
  | some M =>
    cases o' with
    | none => exact absurd h.2.2 (h' M h.1 h.2.1)
    | some M' => rw [msgB_inj (msg_ranged h.1 h.2.1) (msg_ranged h'.1 h'.2.1) (h.2.2.trans h'.2.2.symm)]

theorem Reads.own {M : Msg} (h : msgGood M = true) (hf : M.Fits) : Reads (msgB M) (some M) := ⟨h, hf, rfl⟩

/-- A kind's first byte. -/
theorem msgB_head {M : Msg} (h : M.Ranged) : leN ((msgB M).take 1) = M.k.toNat := by
  unfold msgB msgP
  rw [List.append_assoc, List.take_append_of_le_length (by rw [leB_length]; omega), List.take_of_length_le (by rw [leB_length]; omega), leB_low]
  rcases h.k with q | q | q <;> rw [q] <;> decide

/-- Of a block, and a vote, no other length is one's. -/
theorem reads_len {M M' : Msg} (h : M.Ranged) (h' : M'.Ranged) (hk : M.k ≠ 3) (e : (msgB M).take 1 = (msgB M').take 1) : (msgB M).length = (msgB M').length := by
  have e1 := msgB_head h
  rw [e, msgB_head h'] at e1
  rw [msgB_length h, msgB_length h']
  have hkk : M'.k = M.k := by
    rcases h.k with q | q | q <;> rcases h'.k with q' | q' | q' <;> rw [q, q'] at e1 <;> first | omega | (exact absurd e1 (by decide))
  rw [hkk]
  rcases h.k with q | q | q
  · simp [q]
  · simp [q]
  · exact absurd q hk
end Go.Proofs.YtnbdpalbompjlaaDoor
