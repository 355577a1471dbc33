/-
  What stands below what: plain.
-/
import Derived.Test.YtmchjmcdlapegaaTree0
namespace Go.Proofs.Ytmchjmcdlapegaa
open Go

/-- Each block of a chain has its place, and its own chain is a part of it. -/
theorem Good.chn_mem {t : List Nd} {most : Int} (G : Good t most) : ∀ (N i : Nat), i < N → ∀ m ∈ chn t (i : Int), ∃ k : Nat, k ≤ i ∧ t[k]? = some m ∧ ∀ q ∈ chn t (k : Int), q ∈ chn t (i : Int)
  | 0, i, h, _, _ => by omega
  | N + 1, i, h, m, hm => by
    cases hi : t[i]? with
    | none => rw [chn_none (by rw [nodeAt_nat, hi])] at hm; cases hm
    | some n =>
      have hc := G.chn_some hi
      rw [hc, List.mem_cons] at hm
      rcases hm with rfl | hm
      · exact ⟨i, Nat.le_refl _, hi, fun q hq => hq⟩
      · have hp := G.parent_lt hi
        by_cases h0 : n.2.2 < 0
        · rw [chn_neg h0] at hm; cases hm
        · obtain ⟨p, hpe⟩ : ∃ p : Nat, n.2.2 = (p : Int) := ⟨n.2.2.toNat, by omega⟩
          rw [hpe] at hm hc hp
          obtain ⟨k, h1, h2, h3⟩ := Good.chn_mem G N p (by omega) m hm
          exact ⟨k, by omega, h2, fun q hq => by rw [hc]; exact List.mem_cons_of_mem _ (h3 q hq)⟩
/-- The first block is on each chain. -/
theorem Good.chn_root {t : List Nd} {most : Int} (G : Good t most) {r : Nd} (hr : t[0]? = some r) : ∀ (N i : Nat), i < N → i < t.length → r ∈ chn t (i : Int)
  | 0, i, h, _ => by omega
  | N + 1, i, h, hl => by
    have hi : t[i]? = some t[i] := List.getElem?_eq_getElem hl
    rw [G.chn_some hi, List.mem_cons]
    cases i with
    | zero => left; rw [hr] at hi; exact Option.some.inj hi
    | succ j =>
      right
      obtain ⟨p, m, h1, h2, h3, _⟩ := G.par j _ hi
      rw [h1]
      exact Good.chn_root G hr N p (by omega) (List.getElem?_eq_some_iff.1 h3).1
theorem belowT_iff {t : List Nd} {x y : List UInt8} : belowT t x y = true ↔ ∃ m ∈ chn t (plc t y), m.1 = x := by
  unfold belowT
  rw [List.any_eq_true]
  constructor
  · rintro ⟨m, h1, h2⟩; exact ⟨m, h1, by simpa using h2⟩
  · rintro ⟨m, h1, h2⟩; exact ⟨m, h1, by simpa using h2⟩
theorem Good.below_at {t : List Nd} {most : Int} (G : Good t most) {x y : List UInt8} (h : belowT t x y = true) : ∃ i k : Nat, plc t y = (i : Int) ∧ k ≤ i ∧ plc t x = (k : Int) ∧ (∃ n, t[i]? = some n ∧ n.1 = y) ∧ (∃ m, t[k]? = some m ∧ m.1 = x) ∧ ∀ q ∈ chn t (k : Int), q ∈ chn t (i : Int) := by
  obtain ⟨m, hm, rfl⟩ := belowT_iff.1 h
  rcases plc_cases t y with ⟨i, n, h1, h2, h3, _⟩ | ⟨_, h3⟩
  · rw [h3] at hm
    obtain ⟨k, h4, h5, h6⟩ := G.chn_mem (i + 1) i (by omega) m hm
    exact ⟨i, k, h3, h4, G.plc_at h5, ⟨n, h1, h2⟩, ⟨m, h5, rfl⟩, h6⟩
  · rw [h3, chn_neg (by decide)] at hm; cases hm
theorem Good.below_same {t : List Nd} {most : Int} (G : Good t most) {x y : List UInt8} (h : belowT t x y = true) (k : belowT t y x = true) : x = y := by
  obtain ⟨i, j, h1, h2, h3, ⟨n, h4, h5⟩, ⟨m, h6, h7⟩, _⟩ := G.below_at h
  obtain ⟨i', j', k1, k2, k3, _⟩ := G.below_at k
  have e : i = j := by omega
  subst e
  rw [h4] at h6
  cases h6
  rw [← h5, ← h7]
theorem Good.below_trans {t : List Nd} {most : Int} (G : Good t most) {x y z : List UInt8} (h : belowT t x y = true) (k : belowT t y z = true) : belowT t x z = true := by
  obtain ⟨m, hm, e⟩ := belowT_iff.1 h
  obtain ⟨i, j, h1, h2, h3, _, _, h8⟩ := G.below_at k
  refine belowT_iff.2 ⟨m, ?_, e⟩
  rw [h1]
  rw [h3] at hm
  exact h8 m hm
theorem Good.below_root {t : List Nd} {most : Int} (G : Good t most) {r n : Nd} {i : Nat} (hr : t[0]? = some r) (hi : t[i]? = some n) : belowT t r.1 n.1 = true := by
  refine belowT_iff.2 ⟨r, ?_, rfl⟩
  rw [G.plc_at hi]
  exact G.chn_root hr (i + 1) i (by omega) (List.getElem?_eq_some_iff.1 hi).1
end Go.Proofs.Ytmchjmcdlapegaa
