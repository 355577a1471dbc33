/-
  What wordOf and bytesOf answer.
-/
import Derived.Test.YtnbdpalbompjlaaDoorWords
import Derived.Test.YtnbdpalbompjlaaDoorM2
import Derived.Deep.WholeRow
import Derived.Laws.CopyOwn
namespace Go.Proofs.YtnbdpalbompjlaaDoor
open Go.RowKit
set_option maxRecDepth 10000

/-- Words as cells. -/
def uv (l : List Nat) : List Value := l.map fun (x : Nat) => Value.int .u32 (x : Int)
theorem uv_length (l : List Nat) : (uv l).length = l.length := by simp [uv]
theorem uv_at {l : List Nat} {j x : Nat} (h : l[j]? = some x) : (uv l)[j]? = some (.int .u32 (x : Int)) := by simp [uv, h]
theorem uv_set (l : List Nat) (j x : Nat) : (uv l).set j (.int .u32 (x : Int)) = uv (l.set j x) := by simp [uv, List.map_set]
theorem uv_one (l : List Nat) : ∀ v ∈ uv l, v.oneCell' = true := by
  intro v hv; rw [uv, List.mem_map] at hv; obtain ⟨x, _, rfl⟩ := hv; rfl
/-- Four bytes as a word. -/
def word (a b c d : Nat) : Nat := orw (orw (orw (shlw a 24) (shlw b 16)) (shlw c 8)) d

theorem conv8 (b : UInt8) : IntKind.u32.wrap ((b.toNat : Nat) : Int) = ((b.toNat : Nat) : Int) := by
  have := b.toNat_lt
  rw [IntKind.wrap_u32']; omega

set_option maxHeartbeats 1000000 in
theorem wordOf_any (w : World) (g off n cap : Nat) (b0 b1 b2 b3 : UInt8) (hn : 4 ≤ n) (h0 : w.cell? ⟨g, off, none⟩ = some (.int .u8 b0.toNat)) (h1 : w.cell? ⟨g, off + 1, none⟩ = some (.int .u8 b1.toNat))
    (h2 : w.cell? ⟨g, off + 2, none⟩ = some (.int .u8 b2.toNat)) (h3 : w.cell? ⟨g, off + 3, none⟩ = some (.int .u8 b3.toNat)) :
    Calls Tryd.prog 98 #[.slice (some ⟨g, off, none⟩) n cap] w fun e w' => e = .returned (.int .u32 (word b0.toNat b1.toNat b2.toNat b3.toNat)) ∧ ∃ m, w' = w.drewN m := by
  have i0 : (0 : Int) < (n : Int) := by omega
  have i1 : (1 : Int) < (n : Int) := by omega
  have i2 : (2 : Int) < (n : Int) := by omega
  have i3 : (3 : Int) < (n : Int) := by omega
  have c0 := conv8 b0
  have c1 := conv8 b1
  have c2 := conv8 b2
  have c3 := conv8 b3
  have r1 := rule_or
  have s1 : ∀ x : Nat, (x : Int) * 16777216 % 4294967296 = ((shlw x 24 : Nat) : Int) := fun x => by simp [shlw]
  have s2 : ∀ x : Nat, (x : Int) * 65536 % 4294967296 = ((shlw x 16 : Nat) : Int) := fun x => by simp [shlw]
  have s3 : ∀ x : Nat, (x : Int) * 256 % 4294967296 = ((shlw x 8 : Nat) : Int) := fun x => by simp [shlw]
  go_enter Tryd.func98, Tryd.ntmps98
  go_wp2_with fail
  go_quiet (fail)
  go_wp2_with fail
  go_ret
  exact ⟨rfl, _, rfl⟩

/-- A word's bytes, the highest first. -/
def be4 (x : Nat) : List UInt8 := [UInt8.ofNat (x / 16777216), UInt8.ofNat (x / 65536), UInt8.ofNat (x / 256), UInt8.ofNat x]

theorem bv_be4 (x : Nat) : (bv (be4 x)).toArray = #[.int .u8 ((x : Int) / 16777216 % 256), .int .u8 ((x : Int) / 65536 % 256), .int .u8 ((x : Int) / 256 % 256), .int .u8 ((x : Int) % 256)] := by
  simp [bv, be4]

theorem Tryd.size122 : (Tryd.prog.info? 122).map (·.size) = some 4 := by kernel_rfl

theorem bytesOf_any (w : World) (x : Nat) : Calls Tryd.prog 80 #[.int .u32 x] w fun e w' => e = .returned (.agg (bv (be4 x)).toArray) ∧ Below w.heap.size w w' := by
  go_enter Tryd.func80, Tryd.ntmps80
  go_wp2_with fail
  rw [← bv_be4]
  refine bodyPost_ret (v := .agg (bv (be4 x)).toArray) ?_ rfl ⟨rfl, (Below.refl _ _).alloc (Nat.le_refl _) _⟩
  exact results_cell_row rfl _ _ w.heap.size 122 _ (0, 0) (.array 4 5) rfl (heap_alloc_new w _) Tryd.underlying122 rfl Tryd.size122
end Go.Proofs.YtnbdpalbompjlaaDoor
