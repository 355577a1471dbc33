/-
  Less is an order: plain mathematics.
-/
import Derived.Test.YtginfmbcljlneaaDoorLess
namespace Go.Proofs.YtginfmbcljlneaaDoor

theorem lessB_cons (a b : UInt8) (r s : List UInt8) : lessB (a :: r) (b :: s) = if a < b then true else if b < a then false else lessB r s := by
  unfold lessB
  rw [Lib.compareBytes]
  split
  · simp
  · split
    · simp
    · rfl

theorem less_self : ∀ (r : List UInt8), lessB r r = false
  | [] => rfl
  | a :: r => by rw [lessB_cons, if_neg (UInt8.lt_irrefl a), if_neg (UInt8.lt_irrefl a)]; exact less_self r

theorem less_tri : ∀ (r s : List UInt8), r.length = s.length → r ≠ s → (lessB r s = true ∧ lessB s r = false) ∨ (lessB r s = false ∧ lessB s r = true)
  | [], [], _, h => absurd rfl h
  | [], b :: s, hl, _ => by simp at hl
  | a :: r, [], hl, _ => by simp at hl
  | a :: r, b :: s, hl, h => by
    rw [lessB_cons, lessB_cons]
    by_cases h1 : a < b
    · have h2 : ¬ b < a := UInt8.lt_asymm h1
      simp [h1, h2]
    · by_cases h2 : b < a
      · simp [h1, h2]
      · have hab : a = b := UInt8.le_antisymm (UInt8.not_lt.1 h2) (UInt8.not_lt.1 h1)
        subst hab
        simp only [h1, if_false]
        exact less_tri r s (by simpa using hl) (fun e => h (by rw [e]))

theorem less_trans : ∀ (r s t : List UInt8), r.length = s.length → s.length = t.length → lessB r s = true → lessB s t = true → lessB r t = true
  | [], [], _, _, _, h, _ => by simp [lessB, Lib.compareBytes] at h
  | [], b :: s, _, hl, _, _, _ => by simp at hl
  | a :: r, [], _, hl, _, _, _ => by simp at hl
  | _ :: _, _ :: _, [], _, hl, _, _ => by simp at hl
  | a :: r, b :: s, c :: t, hl, hl2, h1, h2 => by
    rw [lessB_cons] at h1 h2 ⊢
    by_cases ab : a < b
    · by_cases bc : b < c
      · rw [if_pos (UInt8.lt_trans ab bc)]
      · by_cases cb : c < b
        · simp [bc, cb] at h2
        · have hbc : b = c := UInt8.le_antisymm (UInt8.not_lt.1 cb) (UInt8.not_lt.1 bc)
          subst hbc
          rw [if_pos ab]
    · by_cases ba : b < a
      · simp [ab, ba] at h1
      · have hab : a = b := UInt8.le_antisymm (UInt8.not_lt.1 ba) (UInt8.not_lt.1 ab)
        subst hab
        simp only [ab, if_false] at h1
        by_cases bc : a < c
        · rw [if_pos bc]
        · by_cases cb : c < a
          · simp [bc, cb] at h2
          · simp only [bc, cb, if_false] at h2 ⊢
            exact less_trans r s t (by simpa using hl) (by simpa using hl2) h1 h2

end Go.Proofs.YtginfmbcljlneaaDoor
