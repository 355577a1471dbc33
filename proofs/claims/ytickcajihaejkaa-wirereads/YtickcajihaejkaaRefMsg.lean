/-
  What the document's Decode comes to: plain mathematics, nothing of the program's text.
-/
import Derived.Test.YtickcajihaejkaaMsgRead
namespace Go.Proofs.Ytickcajihaejkaa
open Go.RowKit

/-- No message of the first byte's kind is as long. -/
theorem rd_len {s : List UInt8} {K : Nat} (hK : leN (s.take 1) = K) (h : ∀ M : Msg, M.Ranged → M.k.toNat = K → (msgB M).length ≠ s.length) : Reads s none := by
  intro M0 hg hf e
  have r := msg_ranged hg hf
  have h1 := msgB_head r
  rw [e, hK] at h1
  exact h M0 r h1.symm (by rw [e])

/-- The message that has these bytes. -/
theorem rd_own {s : List UInt8} {M : Msg} (hr : M.Ranged) (e : msgB M = s) : (msgGood M = true → Reads s (some M)) ∧ (msgGood M = false → Reads s none) := by
  refine ⟨fun h => ⟨h, hr.fits, e⟩, fun h M0 hg hf e0 => ?_⟩
  have := msgB_inj (msg_ranged hg hf) hr (e0.trans e.symm)
  rw [this, h] at hg
  cases hg

theorem rd_short {s : List UInt8} (h : s.length < 54) : Reads s none :=
  fun M0 hg hf e => by
    have := msgB_length (msg_ranged hg hf)
    rw [e] at this
    split at this
    · omega
    · split at this <;> omega

theorem rd_one {s : List UInt8} (hK : leN (s.take 1) = 1) (h : s.length ≠ 63) : Reads s none :=
  rd_len hK fun M r hk e => by
    have := msgB_length r
    rw [if_pos (by omega)] at this
    omega
theorem rd_two {s : List UInt8} (hK : leN (s.take 1) = 2) (h : s.length ≠ 55) : Reads s none :=
  rd_len hK fun M r hk e => by
    have := msgB_length r
    rw [if_neg (by omega), if_pos (by omega)] at this
    omega
theorem rd_other {s : List UInt8} {K : Nat} (hK : leN (s.take 1) = K) (h : K ≠ 1 ∧ K ≠ 2 ∧ K ≠ 3) : Reads s none :=
  rd_len hK fun M r hk e => by
    have := r.k
    omega

/-- Bytes in their parts. -/
theorem cut_at (s : List UInt8) (n : Nat) {m : Nat} (p : Nat) (hm : p + n = m) : s.drop p = (s.drop p).take n ++ s.drop m := by
  rw [← hm, ← List.drop_drop, List.take_append_drop]
end Go.Proofs.Ytickcajihaejkaa
