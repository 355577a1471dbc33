/-
  A row of numbers as bytes, each in k of them: plain mathematics.
-/
import Derived.Test.YtnggmfjcfjplfaaPlain
namespace Go.Proofs.Ytnggmfjcfjplfaa

def enc (k : Nat) : List Nat → List UInt8
  | [] => []
  | n :: r => leB n k ++ enc k r

theorem enc_length (k : Nat) : ∀ l : List Nat, (enc k l).length = l.length * k
  | [] => by simp [enc]
  | n :: r => by simp [enc, leB_length, enc_length k r, Nat.add_mul]; omega

theorem enc_append (k : Nat) : ∀ l r : List Nat, enc k (l ++ r) = enc k l ++ enc k r
  | [], r => by simp [enc]
  | n :: l, r => by simp [enc, enc_append k l r]

theorem enc_take_succ (k : Nat) (l : List Nat) (j : Nat) (h : j < l.length) : enc k (l.take (j + 1)) = enc k (l.take j) ++ leB (l.getD j 0) k := by
  rw [List.take_succ_eq_append_getElem h, enc_append]
  simp [enc, h]

theorem enc_drop (k : Nat) (l : List Nat) (j : Nat) (h : j < l.length) : enc k (l.drop j) = leB (l.getD j 0) k ++ enc k (l.drop (j + 1)) := by
  rw [List.drop_eq_getElem_cons h]
  simp [enc, h]

theorem leB_mod (k : Nat) : ∀ n, leB (n % 256 ^ k) k = leB n k := by
  induction k with
  | zero => intro n; rfl
  | succ k ih =>
    intro n
    have e1 : n % 256 ^ (k + 1) % 256 = n % 256 := by
      rw [Nat.pow_succ, Nat.mod_mul_left_mod]
    have e2 : n % 256 ^ (k + 1) / 256 = n / 256 % 256 ^ k := by
      rw [Nat.pow_succ, Nat.mul_comm, Nat.mod_mul_right_div_self]
    rw [leB, leB, e1, e2, ih]

end Go.Proofs.Ytnggmfjcfjplfaa
