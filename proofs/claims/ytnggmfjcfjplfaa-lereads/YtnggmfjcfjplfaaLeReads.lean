/-
  LeReads holds: in every row of calls a reader answers what the document says, of every text up to 2000 bytes and every row of up to 200 calls, and a nil one; no condition.
-/
import Derived.Test.YtnggmfjcfjplfaaReadsWalk
import Derived.WalkKit
import Derived.ProofKit
import Derived.OpenShut
import Derived.ShutString
import Derived.ChangeOld
import Derived.Below
import Derived.Deep.SlicePairs
namespace Go.Proofs.Ytnggmfjcfjplfaa.leReads
open Go.ChangeShapes Go.WideShapes Go.ChangeAt Go.RowKit Go.Deep
open Go.ChangeMaps (open_string shut_string)
set_option linter.unusedVariables false

theorem own : ownKnob Try.prog.godebug = none := by kernel_rfl
theorem laidOut : laidOutB Try.prog = true := by kernel_rfl

/-- The row of questions, opened: its cells, question by question. -/
theorem opened {H : Type} {enc : TypeId × Value → H} {W : World} {a1 : Option Addr} {len cap fuel : Nat} {x : DataW H × List MemPlace}
    (hf : DataW.trod enc Try.prog W 0 (fun _ => true) true fuel 28 [.slice a1 len cap] = some x) :
    ∃ (b off : Nat) (T : Nat → Bool) (N : Nat → Int), (0 < len → a1 = some ⟨b, off, none⟩ ∧ b < W.heap.size) ∧
      ∀ j, j < len → W.cell? ⟨b, off + j * 2, none⟩ = some (.bool (T j)) ∧ W.cell? ⟨b, off + j * 2 + 1, none⟩ = some (.int .i64 (N j)) := by
  rcases open_slice_pairs Try.underlying28 Try.underlying38 (by kernel_rfl) rfl rfl (by kernel_rfl) (by kernel_rfl) hf with ⟨hcs, _⟩ | ⟨a, l, c, m, n, V0, V1, D0, D1, P0, P1, hcs, _, hl, _, hm, _, hx⟩
  · simp at hcs
    obtain ⟨rfl, rfl, rfl⟩ := hcs
    exact ⟨0, 0, fun _ => false, fun _ => 0, fun h => absurd h (by omega), fun j h => absurd h (by omega)⟩
  · simp at hcs
    obtain ⟨rfl, rfl, rfl⟩ := hcs
    have hlm : len ≤ m := by rw [hm]; simpa using hl
    obtain ⟨b, off, spot⟩ := a
    have hT : ∀ j, j < len → ∃ t, V0 j = .bool t := fun j hj => by
      obtain ⟨t, h1, _⟩ := DataW.trod_bool Try.underlying4 (hx j (by omega)).2.2.1
      exact ⟨t, by simpa using h1⟩
    have hN : ∀ j, j < len → ∃ n, V1 j = .int .i64 n := fun j hj => by
      obtain ⟨n, h1, _⟩ := DataW.trod_int Try.underlying3 (hx j (by omega)).2.2.2
      exact ⟨n, by simpa using h1⟩
    refine ⟨b, off, fun j => match V0 j with | .bool t => t | _ => false, fun j => match V1 j with | .int _ n => n | _ => 0, fun h0 => ?_, fun j hj => ?_⟩
    · have hc := (hx 0 (by omega)).1
      have hspot : spot = none := by simpa [Addr.add] using World.cell?_spot hc
      subst hspot
      exact ⟨rfl, by simpa [Addr.add] using World.block_lt_of_cell? W _ hc⟩
    · have hc := (hx 0 (by omega)).1
      have hspot : spot = none := by simpa [Addr.add] using World.cell?_spot hc
      subst hspot
      obtain ⟨t, ht⟩ := hT j hj
      obtain ⟨n, hn⟩ := hN j hj
      have h0 := (hx j (by omega)).1
      have h1 := (hx j (by omega)).2.1
      rw [Addr.add_lit, ht] at h0
      rw [Addr.add_lit, hn] at h1
      simp only [ht, hn]
      exact ⟨h0, by rw [Nat.add_assoc]; exact h1⟩

set_option maxRecDepth 100000 in
theorem lifted (os : Os) (started : os.Started) (H : Type) (enc : TypeId × Value → H) :
    ReturnsInHanded {} Try.checked os 4 .any (Rows.leReadsSpec.pre6 enc Try.prog Try.f4 Rows.leReadsRow.domain false) (Rows.leReadsSpec.post enc Try.prog Try.f4 false true false false) := by
  refine returnsInHanded_of_change (C := Try.checked) own started (by kernel_rfl) Try.func4
    (ChangeSpec.witness6 (enc := enc) (C := Try.checked) false ⟨#[], #[.string ByteArray.empty, .slice none 0 0], []⟩ 8 (by kernel_rfl) (by kernel_rfl) (by kernel_rfl) (by kernel_rfl)) ?_
  intro W base args ds gs before hval0 hW hcnd _
  have hval : ∀ (j : Nat) t v, Try.f4.params[j]? = some t → args[j]? = some v → Value.okWide Try.prog W .any base t v := hval0
  have hW' := hW
  obtain ⟨p, q, hA0, hV, rfl, hfz, hnd⟩ := hW
  have hA : DataW.TrodAll enc Try.prog W 0 (fun _ => true) true Try.f4.params.toList args.toList ds p := hA0
  rw [Try.params4] at hA hval
  obtain ⟨v0, vs0, d0, ds0, p0, q0, hargs, rfl, rfl, h0, r0⟩ := trodAll_cons hA
  obtain ⟨v1, vs1, d1, ds1, p1, q1, rfl, rfl, rfl, h1, r1⟩ := trodAll_cons r0
  obtain ⟨rfl, rfl, rfl⟩ := trodAll_nil r1
  obtain rfl : args = #[v0, v1] := by cases args; simp_all
  obtain ⟨rfl, rfl⟩ := trodVars_none hV
  obtain ⟨a0, rfl, rfl, rfl, w0⟩ := open_string Try.underlying9 (hval 0 9 v0 rfl rfl) h0
  obtain ⟨a1, len1, cap1, rfl⟩ := okWide_slice Try.underlying28 (hval 1 28 v1 rfl rfl)
  have k1 := h1
  have lt1 : ∀ x ∈ p1, x.block < W.heap.size := by obtain ⟨m, hm⟩ := k1; exact DataW.trod_lt m _ _ _ hm
  obtain ⟨b, off, T, N, ha, hc⟩ : ∃ (b off : Nat) (T : Nat → Bool) (N : Nat → Int), (0 < len1 → a1 = some ⟨b, off, none⟩ ∧ b < W.heap.size) ∧
      ∀ j, j < len1 → W.cell? ⟨b, off + j * 2, none⟩ = some (.bool (T j)) ∧ W.cell? ⟨b, off + j * 2 + 1, none⟩ = some (.int .i64 (N j)) := by
    obtain ⟨fuel, hf⟩ := h1
    exact opened (by simpa [Value.cells] using hf)
  clear hA0 hval0
  refine (reads_any W a0 a1 len1 cap1 b off T N ha hc).mono fun e W' ⟨he, bel⟩ => ?_
  subst he
  exact ⟨_, rfl, _, _, _, [], _, [], hW', trodAll_mk1 (shut_bool Try.underlying4 _), (trodAll_cons_mk (shut_string Try.underlying9 w0) (trodAll_cons_mk (Below.trod laidOut (by kernel_rfl) (of_decide_eq_true (by kernel_rfl)) k1 bel lt1) trodAll_mk0)), rfl, bel.frame _, fun h => by cases h⟩

theorem over : Rows.leReadsRow.holds Try.pinned (OpenSpec.ofChange Rows.leReadsSpec) :=
  OpenClaim.holds_of_wide 4 Try.f4 rfl rfl rfl rfl rfl rfl rfl ⟨rfl, rfl, rfl, rfl, rfl⟩ rfl rfl rfl rfl rfl (by kernel_rfl) Try.func4 (by kernel_rfl)
    (of_decide_eq_true (by kernel_rfl)) (by unfold Func.isWrapper; first | (rw [if_pos (by decide +kernel)]; kernel_rfl) | (rw [if_neg (by decide +kernel)]; exact ⟨rfl, rfl⟩))
    (fun os started H enc _ => lifted os started H enc)

end Go.Proofs.Ytnggmfjcfjplfaa.leReads
namespace Go.Proofs.Ytnggmfjcfjplfaa

/-- The statement. -/
theorem leReads_holds : Rows.LeReadsSaid := leReads.over

end Go.Proofs.Ytnggmfjcfjplfaa
