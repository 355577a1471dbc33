/-
  Less is an order, and Show keeps it: plain mathematics.
-/
import Derived.Test.YtbjofbkncpedmaaDoorClass
namespace Go.Proofs.YtbjofbkncpedmaaDoor

theorem lessB_cons (a b : UInt8) (r s : List UInt8) : lessB (a :: r) (b :: s) = if a < b then true else if b < a then false else lessB r s := by
  unfold lessB
  rw [Lib.compareBytes]
  split
  · simp
  · split
    · simp
    · rfl

theorem less_self : ∀ (r : List UInt8), lessB r r = false
  | [] => rfl
  | a :: r => by rw [lessB_cons, if_neg (UInt8.lt_irrefl a), if_neg (UInt8.lt_irrefl a)]; exact less_self r

theorem less_tri : ∀ (r s : List UInt8), r.length = s.length → r ≠ s → (lessB r s = true ∧ lessB s r = false) ∨ (lessB r s = false ∧ lessB s r = true)
  | [], [], _, h => absurd rfl h
  | [], b :: s, hl, _ => by simp at hl
  | a :: r, [], hl, _ => by simp at hl
  | a :: r, b :: s, hl, h => by
    rw [lessB_cons, lessB_cons]
    by_cases h1 : a < b
    · have h2 : ¬ b < a := UInt8.lt_asymm h1
      simp [h1, h2]
    · by_cases h2 : b < a
      · simp [h1, h2]
      · have hab : a = b := UInt8.le_antisymm (UInt8.not_lt.1 h2) (UInt8.not_lt.1 h1)
        subst hab
        simp only [h1, if_false]
        exact less_tri r s (by simpa using hl) (fun e => h (by rw [e]))

theorem less_trans : ∀ (r s t : List UInt8), r.length = s.length → s.length = t.length → lessB r s = true → lessB s t = true → lessB r t = true
  | [], [], _, _, _, h, _ => by simp [lessB, Lib.compareBytes] at h
  | [], b :: s, _, hl, _, _, _ => by simp at hl
  | a :: r, [], _, hl, _, _, _ => by simp at hl
  | _ :: _, _ :: _, [], _, hl, _, _ => by simp at hl
  | a :: r, b :: s, c :: t, hl, hl2, h1, h2 => by
    rw [lessB_cons] at h1 h2 ⊢
    by_cases ab : a < b
    · by_cases bc : b < c
      · rw [if_pos (UInt8.lt_trans ab bc)]
      · by_cases cb : c < b
        · simp [bc, cb] at h2
        · have hbc : b = c := UInt8.le_antisymm (UInt8.not_lt.1 cb) (UInt8.not_lt.1 bc)
          subst hbc
          rw [if_pos ab]
    · by_cases ba : b < a
      · simp [ab, ba] at h1
      · have hab : a = b := UInt8.le_antisymm (UInt8.not_lt.1 ba) (UInt8.not_lt.1 ab)
        subst hab
        simp only [ab, if_false] at h1
        by_cases bc : a < c
        · rw [if_pos bc]
        · by_cases cb : c < a
          · simp [bc, cb] at h2
          · simp only [bc, cb, if_false] at h2 ⊢
            exact less_trans r s t (by simpa using hl) (by simpa using hl2) h1 h2

theorem shown_less : ∀ (r s : List UInt8), r.length = s.length → Op.bytesLess (show_ r) (show_ s) = lessB r s
  | [], [], _ => rfl
  | [], b :: s, hl => by simp at hl
  | a :: r, [], hl => by simp at hl
  | a :: r, b :: s, hl => by
    have ha := a.toNat_lt
    have hb := b.toNat_lt
    have ih := shown_less r s (by simpa using hl)
    have e1 := hexd_lt (a.toNat / 16) (b.toNat / 16) (by omega) (by omega)
    have e3 := hexd_lt (a.toNat % 16) (b.toNat % 16) (by omega) (by omega)
    have lab : a < b ↔ a.toNat < b.toNat := UInt8.lt_iff_toNat_lt
    have lba : b < a ↔ b.toNat < a.toNat := UInt8.lt_iff_toNat_lt
    rw [show_cons, show_cons, lessB_cons]
    have i1 : hexd (a.toNat / 16) = hexd (b.toNat / 16) ↔ a.toNat / 16 = b.toNat / 16 := ⟨hexd_inj _ _ (by omega) (by omega), fun h => by rw [h]⟩
    have i2 : hexd (a.toNat % 16) = hexd (b.toNat % 16) ↔ a.toNat % 16 = b.toNat % 16 := ⟨hexd_inj _ _ (by omega) (by omega), fun h => by rw [h]⟩
    have j1 : (hexd (a.toNat / 16) == hexd (b.toNat / 16)) = decide (a.toNat / 16 = b.toNat / 16) := by rw [Bool.eq_iff_iff]; simp [i1]
    have j2 : (hexd (a.toNat % 16) == hexd (b.toNat % 16)) = decide (a.toNat % 16 = b.toNat % 16) := by rw [Bool.eq_iff_iff]; simp [i2]
    simp only [Op.bytesLess, e1, e3, lab, lba, ih, j1, j2]
    by_cases h1 : a.toNat < b.toNat
    · rw [if_pos h1]
      by_cases h2 : a.toNat / 16 < b.toNat / 16
      · simp [h2]
      · have h3 : a.toNat / 16 = b.toNat / 16 := by omega
        have h4 : a.toNat % 16 < b.toNat % 16 := by omega
        simp [h3, h4]
    · rw [if_neg h1]
      have h2 : ¬ a.toNat / 16 < b.toNat / 16 := by omega
      by_cases h3 : b.toNat < a.toNat
      · rw [if_pos h3]
        by_cases h4 : a.toNat / 16 = b.toNat / 16
        · have h5 : ¬ a.toNat % 16 < b.toNat % 16 := by omega
          have h6 : ¬ a.toNat % 16 = b.toNat % 16 := by omega
          simp [h4, h5, h6]
        · simp [h2, h4]
      · rw [if_neg h3]
        have h4 : a.toNat = b.toNat := by omega
        simp [h4]
end Go.Proofs.YtbjofbkncpedmaaDoor
