/-
  The walk of LeWidths.
-/
import Derived.Test.YtnggmfjcfjplfaaAlive
import Derived.Deep.RegionWith
import Derived.Deep.DeepCutAuto
import Derived.OpenShut
namespace Go.Proofs.Ytnggmfjcfjplfaa
open Go.RowKit

theorem put_nil (w : World) (n : Nat) (width : Int) (hn : n < 2 ^ 64) :
    Calls Try.prog 9 #[.slice none 0 0, .int .u64 n, .int .i64 width] w fun e w' => ∃ v', e = .returned v' ∧ Held w' w.heap.size v' (bv (leB n (wid width))) ∧ Below w.heap.size w w' :=
  (put_any w w.heap.size (.slice none 0 0) [] n width hn (Held.nil _ _) (Nat.le_refl _) (by simp)).mono fun _ _ ⟨v', h1, h2, h3⟩ =>
    ⟨v', h1, h2, (Below.refl _ _).grown h3.grown (Nat.le_refl _) (by simp [Value.ownBlock])⟩

theorem leB_take (a : Nat) : ∀ (n b : Nat), a ≤ b → (leB n b).take a = leB n a := by
  induction a with
  | zero => intro n b h; simp [leB]
  | succ a ih =>
    intro n b h
    obtain ⟨c, rfl⟩ : ∃ c, b = c + 1 := ⟨b - 1, by omega⟩
    rw [leB, List.take_succ_cons, ih _ _ (by omega), leB]

theorem leB_extract (n a b : Nat) (h : a ≤ b) : (⟨(leB n b).toArray⟩ : ByteArray).extract 0 a = ⟨(leB n a).toArray⟩ := by
  apply ByteArray.ext
  rw [ByteArray.data_extract]
  apply Array.ext'
  simp [leB_take a n b h]

theorem wid_nat (k : Nat) (h : k ≤ 8) : wid (k : Int) = k := by unfold wid; omega

set_option maxHeartbeats 400000 in
theorem widths_in (w : World) (n : Nat) (a b : Nat) (hn : n < 2 ^ 64) (hab : a ≤ b) (hb : b ≤ 8) :
    Calls Try.prog 7 #[.int .u64 n, .int .i64 a, .int .i64 b] w fun e w' => e = .returned (.bool true) ∧ Below w.heap.size w w' := by
  have c1 : ¬ ((a : Int) < 0) := by omega
  have c2 : ¬ ((b : Int) < (a : Int)) := by omega
  have c3 : ¬ ((8 : Int) < (b : Int)) := by omega
  go_enter Try.func7, Try.ntmps7
  go_wp2_with fail
  refine (alive_any w).mono ?_
  rintro e w1 ⟨rfl, hb1⟩
  go_wp2_with fail
  go_cut [7, 8] (fun x y w2 => ∃ X Y : ByteArray, x = .string X ∧ y = .string Y ∧ Hid (X = ⟨(leB n a).toArray⟩) ∧ Hid (Y = ⟨(leB n b).toArray⟩) ∧ Below w.heap.size w w2)
  case first =>
    go_region_with (first
      | (go_at_call_of 9 (Value.int IntKind.i64 (a : Int)); refine (put_nil _ n a hn).mono ?_; rintro e w2 ⟨v1, rfl, hh1, hbb1⟩; have hs1 := hh1.string (P := Try.prog) 24 9 5 Try.underlying24 Try.underlying5 Try.underlying9)
      | (go_at_call_of 9 (Value.int IntKind.i64 (b : Int)); refine (put_nil _ n b hn).mono ?_; rintro e w3 ⟨v2, rfl, hh2, hbb2⟩; have hs2 := hh2.string (P := Try.prog) 24 9 5 Try.underlying24 Try.underlying5 Try.underlying9; have hs1' := (hh1.below hbb2).string (P := Try.prog) 24 9 5 Try.underlying24 Try.underlying5 Try.underlying9))
    all_goals
      go_wp2_with fail
      go_meet
      case rel => exact ⟨_, _, rfl, rfl, by rw [wid_nat a (by omega)]; exact rfl, by rw [wid_nat b (by omega)]; exact rfl, hb1.trans (((Below.refl _ _).drew.trans (hbb1.mono (by exact hb1.size))).trans (hbb2.mono (by have := hb1.size; have := hbb1.size; simp at this; omega)))⟩
  case rest =>
    obtain ⟨X, Y, rfl, rfl, hX, hY, hbel⟩ := hcut
    have sX : X.size = a := by rw [hX.out]; simp [ByteArray.size, leB_length]
    have sY : Y.size = b := by rw [hY.out]; simp [ByteArray.size, leB_length]
    have t1 : ((X.size : Int) == (a : Int)) = true := by simp [sX]
    have t2 : ((Y.size : Int) == (b : Int)) = true := by simp [sY]
    have t3 : a ≤ Y.size := by omega
    have t4 : ((Y.extract 0 a).toList == X.toList) = true := by
      have : Y.extract 0 a = X := by
        rw [hX.out, hY.out]
        exact leB_extract n a b hab
      rw [this]; exact beq_self_eq_true _
    clear sX sY
    go_wp2
    go_ret
    exact ⟨rfl, hbel⟩

set_option maxHeartbeats 400000 in
theorem widths_out (w : World) (n : Int) (a b : Int) (h : a < 0 ∨ b < a ∨ 8 < b) :
    Calls Try.prog 7 #[.int .u64 n, .int .i64 a, .int .i64 b] w fun e w' => e = .returned (.bool true) ∧ Below w.heap.size w w' := by
  by_cases c1 : a < 0
  · go_enter Try.func7, Try.ntmps7
    go_wp2_with (go_at_call 8; refine (alive_any w).mono ?_; rintro e w1 ⟨rfl, hb1⟩)
    go_ret
    exact ⟨rfl, hb1⟩
  · by_cases c2 : b < a
    · go_enter Try.func7, Try.ntmps7
      go_wp2_with (go_at_call 8; refine (alive_any w).mono ?_; rintro e w1 ⟨rfl, hb1⟩)
      go_ret
      exact ⟨rfl, hb1⟩
    · have c3 : 8 < b := by omega
      go_enter Try.func7, Try.ntmps7
      go_wp2_with (go_at_call 8; refine (alive_any w).mono ?_; rintro e w1 ⟨rfl, hb1⟩)
      go_ret
      exact ⟨rfl, hb1⟩

theorem widths_any (w : World) (n a b : Int) (hn : (Lit.int .u64 n).wf = true) :
    Calls Try.prog 7 #[.int .u64 n, .int .i64 a, .int .i64 b] w fun e w' => e = .returned (.bool true) ∧ Below w.heap.size w w' := by
  have hbd := bounds_u64 hn
  by_cases h : a < 0 ∨ b < a ∨ 8 < b
  · exact widths_out w n a b h
  · obtain ⟨n', rfl⟩ : ∃ k : Nat, n = k := ⟨n.toNat, by omega⟩
    obtain ⟨a', rfl⟩ : ∃ k : Nat, a = k := ⟨a.toNat, by omega⟩
    obtain ⟨b', rfl⟩ : ∃ k : Nat, b = k := ⟨b.toNat, by omega⟩
    exact widths_in w n' a' b' (by omega) (by omega) (by omega)

end Go.Proofs.Ytnggmfjcfjplfaa
