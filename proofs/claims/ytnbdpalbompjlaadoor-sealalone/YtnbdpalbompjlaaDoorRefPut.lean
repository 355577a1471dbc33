/-
  What the document's own Put (tollerref01) does.
-/
import Derived.Test.YtnbdpalbompjlaaDoorPut
import Derived.Deep.RegionWith
import Derived.Deep.DeepCutAuto
import Derived.OpenShut
import Derived.IntWalk
namespace Go.Proofs.YtnbdpalbompjlaaDoor
open Go.RowKit
set_option maxRecDepth 10000

theorem bcell {W w1 : World} (hb : Below W.heap.size W w1) : (∀ b o, b < W.heap.size → w1.cell? ⟨b, o, none⟩ = W.cell? ⟨b, o, none⟩) ∧ (∀ b o, b < W.heap.size → w1.frozen? ⟨b, o, none⟩ = W.frozen? ⟨b, o, none⟩) :=
  ⟨fun b o h => hb.cell (p := ⟨b, o, none⟩) h, fun b o h => hb.frozen (p := ⟨b, o, none⟩) h⟩

theorem refput_zero (w : World) (n : Int) (width : Int) (h : width ≤ 0) :
    Calls Tryd.prog 46 #[.int .u64 n, .int .i64 width] w fun e w' => e = .returned (.string ByteArray.empty) ∧ Below w.heap.size w w' := by
  go_enter Tryd.func46, Tryd.ntmps46
  go_wp2
  go_ret
  exact ⟨rfl, Below.refl _ _⟩

theorem conv_one (W : World) (b : Nat) (c : UInt8) (h : W.cell? ⟨b, 0, none⟩ = some (.int .u8 (c.toNat : Int))) :
    Sem.run Tryd.prog (convert 86 9 (.slice (some ⟨b, 0, none⟩) 1 1)) W = .ok (.string ⟨#[c]⟩) W :=
  run_convert_bytes_back W 86 9 5 ⟨b, 0, none⟩ 1 [c] Tryd.underlying86 Tryd.underlying5 Tryd.underlying9 fun j hj => by
    obtain rfl : j = 0 := by simpa using hj
    simpa [Addr.add] using h

set_option maxHeartbeats 400000 in
theorem refput_step (w : World) (n : Nat) (q : Nat) (c : UInt8) (k : Nat) (hk : k + 1 ≤ 8) (e1 : ((n : Int).tmod 256) = (c.toNat : Int)) (e2 : IntKind.u8.wrap (c.toNat : Int) = (c.toNat : Int)) (e3 : IntKind.u64.wrap ((n : Int) / 256) = (q : Int)) (R : ByteArray) (hR : R.size ≤ 8)
    (ih : ∀ w, Calls Tryd.prog 46 #[.int .u64 (q : Int), .int .i64 (k : Int)] w fun e w' => e = .returned (.string R) ∧ Below w.heap.size w w') :
    Calls Tryd.prog 46 #[.int .u64 n, .int .i64 ((k : Int) + 1)] w fun e w' => e = .returned (.string (⟨#[c]⟩ ++ R)) ∧ Below w.heap.size w w' := by
  have h0 : ¬ ((k : Int) + 1 ≤ 0) := by omega
  have h8 : (k : Int) + 1 ≤ 8 := by omega
  have H := Lib.hid ih
  clear ih
  have e4 : IntKind.i64.wrap (k : Int) = (k : Int) := IntWalk.i64_in _ (by omega)
  have hcv := fun W b => conv_one W b c
  go_enter Tryd.func46, Tryd.ntmps46
  go_wp2_with fail
  go_region_with (go_at_call 46; ((with_reducible refine (H.out _).mono ?_); rintro e w2 ⟨rfl, hb⟩; obtain ⟨hc, hf⟩ := bcell hb))
  all_goals
    go_wp2
    go_ret
    first
      | exact ⟨rfl, ((Below.refl _ _).alloc (Nat.le_refl _) _).drew.trans (hb.mono (by simp))⟩
      | exact ⟨rfl, ((Below.refl _ _).drew.trans (hb.mono (Nat.le_refl _))).alloc (by exact hb.size) _⟩

set_option maxHeartbeats 400000 in
theorem refput_top (w : World) (n : Nat) (q : Nat) (c : UInt8) (width : Int) (hw : 8 < width) (e1 : ((n : Int).tmod 256) = (c.toNat : Int)) (e2 : IntKind.u8.wrap (c.toNat : Int) = (c.toNat : Int)) (e3 : IntKind.u64.wrap ((n : Int) / 256) = (q : Int)) (R : ByteArray) (hR : R.size ≤ 8)
    (ih : ∀ w, Calls Tryd.prog 46 #[.int .u64 (q : Int), .int .i64 7] w fun e w' => e = .returned (.string R) ∧ Below w.heap.size w w') :
    Calls Tryd.prog 46 #[.int .u64 n, .int .i64 width] w fun e w' => e = .returned (.string (⟨#[c]⟩ ++ R)) ∧ Below w.heap.size w w' := by
  have h0 : ¬ (width ≤ 0) := by omega
  have h8 : ¬ (width ≤ 8) := by omega
  have H := Lib.hid ih
  clear ih
  have e4 : IntKind.i64.wrap 7 = 7 := IntWalk.i64_in _ (by omega)
  have hcv := fun W b => conv_one W b c
  go_enter Tryd.func46, Tryd.ntmps46
  go_wp2_with fail
  go_region_with (go_at_call 46; ((with_reducible refine (H.out _).mono ?_); rintro e w2 ⟨rfl, hb⟩; obtain ⟨hc, hf⟩ := bcell hb))
  all_goals
    go_wp2
    go_ret
    first
      | exact ⟨rfl, ((Below.refl _ _).alloc (Nat.le_refl _) _).drew.trans (hb.mono (by simp))⟩
      | exact ⟨rfl, ((Below.refl _ _).drew.trans (hb.mono (Nat.le_refl _))).alloc (by exact hb.size) _⟩

theorem step_facts (n : Nat) (hn : n < 2 ^ 64) : ((n : Int).tmod 256) = ((UInt8.ofNat (n % 256)).toNat : Int) ∧ IntKind.u8.wrap ((UInt8.ofNat (n % 256)).toNat : Int) = ((UInt8.ofNat (n % 256)).toNat : Int) ∧
    IntKind.u64.wrap ((n : Int) / 256) = ((n / 256 : Nat) : Int) := by
  have h : (UInt8.ofNat (n % 256)).toNat = n % 256 := by simp
  rw [h]
  refine ⟨?_, ?_, ?_⟩
  · rw [Int.tmod_eq_emod_of_nonneg (by omega)]; omega
  · exact IntWalk.u8_in _ (by omega)
  · rw [IntKind.wrap_u64]; omega

theorem le_cons (n k : Nat) : (⟨#[UInt8.ofNat (n % 256)]⟩ : ByteArray) ++ ⟨(leB (n / 256) k).toArray⟩ = ⟨(leB n (k + 1)).toArray⟩ := by
  apply ByteArray.ext
  simp [leB]

theorem le_size (n k : Nat) : (⟨(leB n k).toArray⟩ : ByteArray).size = k := by simp [ByteArray.size, leB_length]

theorem refput_nat (k : Nat) : ∀ (n : Nat) (w : World), k ≤ 8 → n < 2 ^ 64 →
    Calls Tryd.prog 46 #[.int .u64 n, .int .i64 (k : Int)] w fun e w' => e = .returned (.string ⟨(leB n k).toArray⟩) ∧ Below w.heap.size w w' := by
  induction k with
  | zero => intro n w _ _; exact refput_zero w n 0 (by omega)
  | succ k ih =>
    intro n w hk hn
    obtain ⟨e1, e2, e3⟩ := step_facts n hn
    have := refput_step w n (n / 256) (UInt8.ofNat (n % 256)) k hk e1 e2 e3 ⟨(leB (n / 256) k).toArray⟩ (by rw [le_size]; omega) (fun w => ih (n / 256) w (by omega) (by omega))
    rw [le_cons] at this
    exact this

theorem refput_any (w : World) (n : Nat) (width : Int) (hn : n < 2 ^ 64) :
    Calls Tryd.prog 46 #[.int .u64 n, .int .i64 width] w fun e w' => e = .returned (.string ⟨(leB n (wid width)).toArray⟩) ∧ Below w.heap.size w w' := by
  by_cases h0 : width ≤ 0
  · rw [show wid width = 0 by unfold wid; omega]
    exact refput_zero w n width h0
  · by_cases h8 : 8 < width
    · rw [show wid width = 7 + 1 by unfold wid; omega]
      obtain ⟨e1, e2, e3⟩ := step_facts n hn
      have := refput_top w n (n / 256) (UInt8.ofNat (n % 256)) width h8 e1 e2 e3 ⟨(leB (n / 256) 7).toArray⟩ (by rw [le_size]; omega) (fun w => refput_nat 7 (n / 256) w (by omega) (by omega))
      rw [le_cons] at this
      exact this
    · obtain ⟨k, rfl⟩ : ∃ k : Nat, width = k := ⟨width.toNat, by omega⟩
      rw [show wid (k : Int) = k by unfold wid; omega]
      exact refput_nat k n w (by omega) hn

end Go.Proofs.YtnbdpalbompjlaaDoor
