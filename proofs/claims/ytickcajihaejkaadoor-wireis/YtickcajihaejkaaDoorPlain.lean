/-
  Numbers as bytes, the lowest first: plain mathematics, nothing of the program.
-/
namespace Go.Proofs.YtickcajihaejkaaDoor

/-- The lowest k bytes of n, the lowest first. -/
def leB (n : Nat) : Nat → List UInt8
  | 0 => []
  | k + 1 => UInt8.ofNat (n % 256) :: leB (n / 256) k

theorem leB_length (k : Nat) : ∀ n, (leB n k).length = k := by
  induction k with
  | zero => intro n; rfl
  | succ k ih => intro n; simp [leB, ih]

theorem leB_snoc (k : Nat) : ∀ n, leB n (k + 1) = leB n k ++ [UInt8.ofNat (n / 256 ^ k % 256)] := by
  induction k with
  | zero => intro n; simp [leB]
  | succ k ih =>
    intro n
    rw [leB, ih, leB, List.cons_append, Nat.div_div_eq_div_mul, show 256 * 256 ^ k = 256 ^ (k + 1) by rw [Nat.pow_succ, Nat.mul_comm]]

/-- How many bytes a width means. -/
def wid (width : Int) : Nat := (min (max width 0) 8).toNat

theorem wid_le (width : Int) : wid width ≤ 8 := by unfold wid; omega

/-- A row of bytes as a number, the lowest first. -/
def leN : List UInt8 → Nat
  | [] => 0
  | b :: r => b.toNat + 256 * leN r

theorem leN_lt : ∀ l : List UInt8, leN l < 256 ^ l.length
  | [] => by simp [leN]
  | b :: r => by
    have h := leN_lt r
    have hb := b.toNat_lt
    rw [leN, List.length_cons, Nat.pow_succ]
    omega

theorem leN_snoc : ∀ (l : List UInt8) (b : UInt8), leN (l ++ [b]) = leN l + 256 ^ l.length * b.toNat
  | [], b => by simp [leN]
  | a :: r, b => by
    rw [List.cons_append, leN, leN_snoc r b, leN, List.length_cons, Nat.pow_succ, Nat.mul_add, ← Nat.add_assoc, Nat.mul_comm (256 ^ r.length) 256, Nat.mul_assoc]

theorem leN_leB (k : Nat) : ∀ n, leN (leB n k) = n % 256 ^ k := by
  induction k with
  | zero => intro n; simp [leB, leN, Nat.mod_one]
  | succ k ih =>
    intro n
    have h : (UInt8.ofNat (n % 256)).toNat = n % 256 := by simp
    rw [leB, leN, ih, h, Nat.pow_succ, Nat.mul_comm (256 ^ k) 256, Nat.mod_mul]

theorem leB_leN : ∀ l : List UInt8, leB (leN l) l.length = l
  | [] => rfl
  | b :: r => by
    have hb := b.toNat_lt
    have h1 : (b.toNat + 256 * leN r) % 256 = b.toNat := by omega
    have h2 : (b.toNat + 256 * leN r) / 256 = leN r := by omega
    rw [List.length_cons, leN, leB, h1, h2, leB_leN r]
    simp

end Go.Proofs.YtickcajihaejkaaDoor
