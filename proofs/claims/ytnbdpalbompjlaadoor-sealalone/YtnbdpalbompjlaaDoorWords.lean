/-
  Words of 32 bits: the operations on them under names of their own, each for all numbers, and what the functions on one word answer.
-/
import Derived.Test.YtnbdpalbompjlaaDoorRows
import Derived.WalkKit
import Derived.WalkSpells
import Derived.WalkLawsBesides
import Derived.Deep.QuietTactic
import Derived.BigQuiet
namespace Go.Proofs.YtnbdpalbompjlaaDoor
open Go.RowKit
set_option maxRecDepth 10000

def addw (x y : Nat) : Nat := (x + y) % 4294967296
def xorw (x y : Nat) : Nat := (x ^^^ y) % 4294967296
def andw (x y : Nat) : Nat := (x &&& y) % 4294967296
def orw (x y : Nat) : Nat := (x ||| y) % 4294967296
def notw (x : Nat) : Nat := 4294967295 - x % 4294967296
def shlw (x k : Nat) : Nat := x * 2 ^ k % 4294967296
def shrw (x k : Nat) : Nat := x / 2 ^ k
/-- A word turned right. -/
def rotr (x n : Nat) : Nat := orw (shlw x (32 - n)) (shrw x n)

theorem rule_add (x y : Nat) : IntKind.u32.wrap ((x : Int) + (y : Int)) = ((addw x y : Nat) : Int) := by rw [IntKind.wrap_u32']; rfl
theorem ofInt32 (a : Nat) : BitVec.ofInt 32 (a : Int) = BitVec.ofNat 32 a := by simp
theorem rule_xor (x y : Nat) : bits .xor .u32 (x : Int) (y : Int) = ((xorw x y : Nat) : Int) := by
  rw [bits, IntKind.wrap_u32', show IntKind.u32.bits = 32 from rfl, ofInt32, ofInt32]
  simp only [BitVec.toNat_xor, BitVec.toNat_ofNat, xorw]
  rw [← Nat.xor_mod_two_pow]
  omega
theorem rule_and (x y : Nat) : bits .and .u32 (x : Int) (y : Int) = ((andw x y : Nat) : Int) := by
  rw [bits, IntKind.wrap_u32', show IntKind.u32.bits = 32 from rfl, ofInt32, ofInt32]
  simp only [BitVec.toNat_and, BitVec.toNat_ofNat, andw]
  rw [← Nat.and_mod_two_pow]
  omega
theorem rule_not (x : Nat) : bits .xor .u32 IntKind.u32.max (x : Int) = ((notw x : Nat) : Int) := by
  rw [bits, IntKind.wrap_u32', show IntKind.u32.bits = 32 from rfl, ofInt32, show BitVec.ofInt 32 IntKind.u32.max = BitVec.allOnes 32 by decide]
  simp only [BitVec.allOnes_xor, BitVec.toNat_not, BitVec.toNat_ofNat, notw]
  omega
theorem rule_or (x y : Nat) : bits .or .u32 (x : Int) (y : Int) = ((orw x y : Nat) : Int) := by
  rw [bits, IntKind.wrap_u32', show IntKind.u32.bits = 32 from rfl, ofInt32, ofInt32]
  simp only [BitVec.toNat_or, BitVec.toNat_ofNat, orw]
  rw [← Nat.or_mod_two_pow]
  omega

theorem shl32 (x k : Nat) (hk : k ≤ 32) : IntKind.u32.wrap ((x : Int) * 2 ^ min (k : Int).toNat 32) = ((shlw x k : Nat) : Int) := by
  rw [IntKind.wrap_u32', Int.toNat_natCast, Nat.min_eq_left hk]
  simp [shlw]

theorem shr32 (x k : Nat) (hk : k ≤ 32) : (x : Int) / 2 ^ min (k : Int).toNat 32 = ((shrw x k : Nat) : Int) := by
  rw [Int.toNat_natCast, Nat.min_eq_left hk]
  simp [shrw]

theorem count_neg (n : Nat) (h1 : 1 ≤ n) (h2 : n ≤ 31) : bits .and .u64 (IntKind.u64.wrap (-(n : Int))) 31 = ((32 - n : Nat) : Int) := by
  have h : ∀ n : Nat, n < 32 → 1 ≤ n → bits .and .u64 (IntKind.u64.wrap (-(n : Int))) 31 = ((32 - n : Nat) : Int) := by decide +kernel
  exact h n (by omega) h1

theorem run_shl32 (P : Program) (w : World) (x k : Nat) (yk : IntKind) (hk : k ≤ 32) : (Op.shift .shl .u32 (x : Int) yk (k : Int)).run P w = .ok (.int .u32 ((shlw x k : Nat) : Int)) w := by
  rw [shift_shl_any _ _ _ _ (by omega), show IntKind.u32.bits = 32 from rfl, shl32 x k hk]
  rfl
theorem run_shr32 (P : Program) (w : World) (x k : Nat) (yk : IntKind) (hk : k ≤ 32) : (Op.shift .shr .u32 (x : Int) yk (k : Int)).run P w = .ok (.int .u32 ((shrw x k : Nat) : Int)) w := by
  rw [shift_shr_any _ _ _ _ (by omega), show IntKind.u32.bits = 32 from rfl, shr32 x k hk]
  rfl

theorem rot_any (w : World) (x n : Nat) (h1 : 1 ≤ n) (h2 : n ≤ 31) :
    Calls Tryd.prog 108 #[.int .u32 x, .int .i64 (-(n : Int))] w fun e w' => e = .returned (.int .u32 (rotr x n)) ∧ w' = w := by
  have e1 := count_neg n h1 h2
  have e2 := fun w => run_shl32 Tryd.prog w x (32 - n) .u64 (by omega)
  have e3 := fun w => run_shr32 Tryd.prog w x n .u64 (by omega)
  have e4 : IntKind.u64.wrap (32 - ((32 - n : Nat) : Int)) = (n : Int) := by simp [IntKind.wrap, IntKind.bits, IntKind.signed]; omega
  have hf : bits .or .u32 ((x : Int) * 2 ^ (32 - n) % 4294967296) ((x : Int) / 2 ^ n) = ((rotr x n : Nat) : Int) := by
    have h := rule_or (shlw x (32 - n)) (shrw x n)
    simpa [shlw, shrw, rotr] using h
  go_enter Tryd.func108, Tryd.ntmps108
  go_wp2_with fail
  go_ret
  exact ⟨rfl, rfl⟩

theorem turned_any (w : World) (x n : Nat) (h1 : 1 ≤ n) (h2 : n ≤ 31) :
    Calls Tryd.prog 106 #[.int .u32 x, .int .i64 n] w fun e w' => e = .returned (.int .u32 (rotr x n)) ∧ w' = w := by
  go_enter Tryd.func106, Tryd.ntmps106
  go_wp2_with fail
  refine (rot_any w x n h1 h2).mono ?_
  rintro e w' ⟨rfl, rfl⟩
  go_wp2_with fail
  go_ret
  exact ⟨rfl, rfl⟩

def great (x a b c : Nat) : Nat := xorw (xorw (rotr x a) (rotr x b)) (rotr x c)
def small (x a b c : Nat) : Nat := xorw (xorw (rotr x a) (rotr x b)) (shrw x c)
def choice (x y z : Nat) : Nat := xorw (andw x y) (andw (notw x) z)
def majority (x y z : Nat) : Nat := xorw (xorw (andw x y) (andw x z)) (andw y z)

theorem great_any (w : World) (x a b c : Nat) (h1 : 1 ≤ a) (h2 : a ≤ 31) (h3 : 1 ≤ b) (h4 : b ≤ 31) (h5 : 1 ≤ c) (h6 : c ≤ 31) :
    Calls Tryd.prog 95 #[.int .u32 x, .int .i64 a, .int .i64 b, .int .i64 c] w fun e w' => e = .returned (.int .u32 (great x a b c)) ∧ w' = w := by
  have r1 := rule_xor
  go_enter Tryd.func95, Tryd.ntmps95
  go_wp2_with fail
  refine (turned_any w x a h1 h2).mono ?_
  rintro e w' ⟨rfl, rfl⟩
  go_wp2_with fail
  refine (turned_any _ x b h3 h4).mono ?_
  rintro e w2 ⟨rfl, rfl⟩
  go_wp2_with fail
  refine (turned_any _ x c h5 h6).mono ?_
  rintro e w3 ⟨rfl, rfl⟩
  go_wp2_with fail
  go_ret
  exact ⟨rfl, rfl⟩

theorem choice_any (w : World) (x y z : Nat) :
    Calls Tryd.prog 96 #[.int .u32 x, .int .u32 y, .int .u32 z] w fun e w' => e = .returned (.int .u32 (choice x y z)) ∧ w' = w := by
  have r1 := rule_xor
  have r2 := rule_and
  have r3 := rule_not
  have hs : IntKind.u32.signed = false := rfl
  go_enter Tryd.func96, Tryd.ntmps96
  go_wp2_with fail
  go_ret
  exact ⟨rfl, rfl⟩

theorem majority_any (w : World) (x y z : Nat) :
    Calls Tryd.prog 97 #[.int .u32 x, .int .u32 y, .int .u32 z] w fun e w' => e = .returned (.int .u32 (majority x y z)) ∧ w' = w := by
  have r1 := rule_xor
  have r2 := rule_and
  go_enter Tryd.func97, Tryd.ntmps97
  go_wp2_with fail
  go_ret
  exact ⟨rfl, rfl⟩

set_option maxHeartbeats 1000000 in
theorem small_any (w : World) (x a b c : Nat) (h1 : 1 ≤ a) (h2 : a ≤ 31) (h3 : 1 ≤ b) (h4 : b ≤ 31) (h5 : 1 ≤ c) (h6 : c ≤ 31) :
    Calls Tryd.prog 99 #[.int .u32 x, .int .i64 a, .int .i64 b, .int .i64 c] w fun e w' => e = .returned (.int .u32 (small x a b c)) ∧ ∃ m, w' = w.drewN m := by
  have r1 := rule_xor
  have e3 := fun w => run_shr32 Tryd.prog w x c .i64 (by omega)
  have hf : bits .xor .u32 ((xorw (rotr x a) (rotr x b) : Nat) : Int) ((x : Int) / 2 ^ c) = ((small x a b c : Nat) : Int) := by
    have h := rule_xor (xorw (rotr x a) (rotr x b)) (shrw x c)
    simpa [shrw, small] using h
  go_enter Tryd.func99, Tryd.ntmps99
  go_wp2_with fail
  go_quiet (first | (go_at_call 106; refine Calls.quiet_of_same (turned_any _ x a h1 h2)) | (go_at_call 106; refine Calls.quiet_of_same (turned_any _ x b h3 h4)))
  go_wp2_with fail
  go_ret
  exact ⟨rfl, _, rfl⟩

theorem great_e (w : World) (x : Nat) : Calls Tryd.prog 95 #[.int .u32 x, .int .i64 6, .int .i64 11, .int .i64 25] w fun e w' => e = .returned (.int .u32 (great x 6 11 25)) ∧ w' = w :=
  great_any w x 6 11 25 (by decide) (by decide) (by decide) (by decide) (by decide) (by decide)
theorem great_a (w : World) (x : Nat) : Calls Tryd.prog 95 #[.int .u32 x, .int .i64 2, .int .i64 13, .int .i64 22] w fun e w' => e = .returned (.int .u32 (great x 2 13 22)) ∧ w' = w :=
  great_any w x 2 13 22 (by decide) (by decide) (by decide) (by decide) (by decide) (by decide)
theorem small_0 (w : World) (x : Nat) : Calls Tryd.prog 99 #[.int .u32 x, .int .i64 7, .int .i64 18, .int .i64 3] w fun e w' => e = .returned (.int .u32 (small x 7 18 3)) ∧ ∃ m, w' = w.drewN m :=
  small_any w x 7 18 3 (by decide) (by decide) (by decide) (by decide) (by decide) (by decide)
theorem small_1 (w : World) (x : Nat) : Calls Tryd.prog 99 #[.int .u32 x, .int .i64 17, .int .i64 19, .int .i64 10] w fun e w' => e = .returned (.int .u32 (small x 17 19 10)) ∧ ∃ m, w' = w.drewN m :=
  small_any w x 17 19 10 (by decide) (by decide) (by decide) (by decide) (by decide) (by decide)
end Go.Proofs.YtnbdpalbompjlaaDoor
