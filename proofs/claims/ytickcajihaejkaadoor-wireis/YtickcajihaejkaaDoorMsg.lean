/-
  Messages and their bytes: plain mathematics, nothing of the program.
-/
import Derived.Test.YtickcajihaejkaaDoorBits
namespace Go.Proofs.YtickcajihaejkaaDoor

/-- A message. -/
structure Msg where
  k : Int
  s : Int
  T : List UInt8
  m : Int
  b : Nat
  l : List Bool
  G : List UInt8

/-- Its parts are as long as they are. -/
structure Msg.Fits (M : Msg) : Prop where
  T : M.T.length = 32
  G : M.G.length = 16
  b : M.b < 2 ^ 64

def zeroMsg : Msg := ⟨0, 0, List.replicate 32 0, 0, 0, [], List.replicate 16 0⟩
theorem zeroMsg_fits : zeroMsg.Fits := ⟨by simp [zeroMsg], by simp [zeroMsg], by simp [zeroMsg]⟩

/-- It can be. -/
def msgGood (M : Msg) : Bool :=
  decide (0 ≤ M.s ∧ M.s ≤ 1073741824 ∧ 0 ≤ M.m ∧ M.m ≤ 65535) &&
    (if M.k = 1 then decide (M.l.length = 0) else if M.k = 2 then decide (M.l.length = 0) && decide (M.b = 0) else if M.k = 3 then decide (M.m = 0) && decide (M.b = 0) && (decide (M.l.length ≤ 16) && M.l.any id) else false)

/-- What stands behind Target. -/
def msgR (M : Msg) : List UInt8 :=
  if M.k = 1 then leB M.m.toNat 2 ++ leB M.b 8 else if M.k = 2 then leB M.m.toNat 2 else if M.k = 3 then encR M.l else []

def msgP (M : Msg) : List UInt8 := leB M.k.toNat 1 ++ (leB M.s.toNat 4 ++ (M.T ++ msgR M))
def msgB (M : Msg) : List UInt8 := msgP M ++ M.G

/-- What its bytes tell again. -/
structure Msg.Ranged (M : Msg) : Prop where
  fits : M.Fits
  k : M.k = 1 ∨ M.k = 2 ∨ M.k = 3
  s : 0 ≤ M.s ∧ M.s < 4294967296
  m : 0 ≤ M.m ∧ M.m < 65536
  l : M.k ≠ 3 → M.l = []
  b : M.k ≠ 1 → M.b = 0
  m3 : M.k = 3 → M.m = 0

theorem msg_ranged {M : Msg} (h : msgGood M = true) (hf : M.Fits) : M.Ranged := by
  unfold msgGood at h
  rw [Bool.and_eq_true, decide_eq_true_eq] at h
  obtain ⟨⟨h1, h2, h3, h4⟩, h5⟩ := h
  by_cases k1 : M.k = 1
  · rw [if_pos k1] at h5
    simp only [decide_eq_true_eq] at h5
    exact ⟨hf, .inl k1, ⟨h1, by omega⟩, ⟨h3, by omega⟩, fun _ => List.eq_nil_of_length_eq_zero h5, fun h => absurd k1 h, fun h => by omega⟩
  · rw [if_neg k1] at h5
    by_cases k2 : M.k = 2
    · rw [if_pos k2] at h5
      simp only [Bool.and_eq_true, decide_eq_true_eq] at h5
      exact ⟨hf, .inr (.inl k2), ⟨h1, by omega⟩, ⟨h3, by omega⟩, fun _ => List.eq_nil_of_length_eq_zero h5.1, fun _ => h5.2, fun h => by omega⟩
    · rw [if_neg k2] at h5
      by_cases k3 : M.k = 3
      · rw [if_pos k3] at h5
        simp only [Bool.and_eq_true, decide_eq_true_eq] at h5
        exact ⟨hf, .inr (.inr k3), ⟨h1, by omega⟩, ⟨h3, by omega⟩, fun h => absurd k3 h, fun _ => h5.1.2, fun _ => h5.1.1⟩
      · rw [if_neg k3] at h5; cases h5

theorem msg_bits {M : Msg} (h : msgGood M = true) : M.l.length ≤ 16 := by
  unfold msgGood at h
  rw [Bool.and_eq_true] at h
  have h5 := h.2
  split at h5
  · simp only [decide_eq_true_eq] at h5; omega
  · split at h5
    · simp only [Bool.and_eq_true, decide_eq_true_eq] at h5; omega
    · split at h5
      · simp only [Bool.and_eq_true, decide_eq_true_eq] at h5; omega
      · cases h5

theorem msgR_length {M : Msg} (h : M.Ranged) : (msgR M).length = if M.k = 1 then 10 else if M.k = 2 then 2 else M.l.length / 8 + 1 := by
  unfold msgR
  rcases h.k with k | k | k <;> simp [k, leB_length, encR_length]

theorem msgP_length {M : Msg} (h : M.Ranged) : (msgP M).length = 37 + if M.k = 1 then 10 else if M.k = 2 then 2 else M.l.length / 8 + 1 := by
  unfold msgP
  rw [List.length_append, List.length_append, List.length_append, leB_length, leB_length, h.fits.T, msgR_length h]; omega

theorem msgB_length {M : Msg} (h : M.Ranged) : (msgB M).length = 53 + if M.k = 1 then 10 else if M.k = 2 then 2 else M.l.length / 8 + 1 := by
  unfold msgB
  rw [List.length_append, msgP_length h, h.fits.G]; omega

theorem leB_low {n k : Nat} (h : n < 256 ^ k) : leN (leB n k) = n := by rw [leN_leB, Nat.mod_eq_of_lt h]
theorem leB_inj {a b k : Nat} (ha : a < 256 ^ k) (hb : b < 256 ^ k) (h : leB a k = leB b k) : a = b := by rw [← leB_low ha, ← leB_low hb, h]

theorem msgP_inj {M M' : Msg} (h : M.Ranged) (h' : M'.Ranged) (e : msgP M = msgP M') (hG : M.G = M'.G) : M = M' := by
  unfold msgP at e
  obtain ⟨e1, e⟩ := List.append_inj e (by rw [leB_length, leB_length])
  obtain ⟨e2, e⟩ := List.append_inj e (by rw [leB_length, leB_length])
  obtain ⟨e3, e⟩ := List.append_inj e (by rw [h.fits.T, h'.fits.T])
  have hk : M.k = M'.k := by
    have := leB_inj (k := 1) (by rcases h.k with q | q | q <;> rw [q] <;> decide) (by rcases h'.k with q | q | q <;> rw [q] <;> decide) e1
    rcases h.k with q | q | q <;> rcases h'.k with q' | q' | q' <;> rw [q, q'] at this <;> first | omega | (exact absurd this (by decide))
  have hs : M.s = M'.s := by
    have a := h.s; have b := h'.s
    have := leB_inj (k := 4) (by show _ < 4294967296; omega) (by show _ < 4294967296; omega) e2
    omega
  have hr : M.m = M'.m ∧ M.b = M'.b ∧ M.l = M'.l := by
    have a := h.m; have b := h'.m
    unfold msgR at e
    rcases h.k with q | q | q
    · have q' : M'.k = 1 := by rw [← hk]; exact q
      simp only [q, q', if_true] at e
      obtain ⟨e4, e5⟩ := List.append_inj e (by rw [leB_length, leB_length])
      have f4 := leB_inj (k := 2) (by show _ < 65536; omega) (by show _ < 65536; omega) e4
      have f5 := leB_inj (k := 8) (Nat.lt_of_lt_of_le h.fits.b (by decide)) (Nat.lt_of_lt_of_le h'.fits.b (by decide)) e5
      exact ⟨by omega, f5, by rw [h.l (by omega), h'.l (by omega)]⟩
    · have q' : M'.k = 2 := by rw [← hk]; exact q
      simp [q, q'] at e
      have f4 := leB_inj (k := 2) (by show _ < 65536; omega) (by show _ < 65536; omega) e
      exact ⟨by omega, by rw [h.b (by omega), h'.b (by omega)], by rw [h.l (by omega), h'.l (by omega)]⟩
    · have q' : M'.k = 3 := by rw [← hk]; exact q
      simp [q, q'] at e
      exact ⟨by rw [h.m3 q, h'.m3 q'], by rw [h.b (by omega), h'.b (by omega)], encR_inj e⟩
  obtain ⟨k, s, T, m, b, l, G⟩ := M
  obtain ⟨k', s', T', m', b', l', G'⟩ := M'
  simp only at hk hs hr e3 hG
  obtain ⟨r1, r2, r3⟩ := hr
  subst hk hs r1 r2 r3 e3 hG
  rfl

theorem msgB_split {M M' : Msg} (h : M.Fits) (h' : M'.Fits) (e : msgB M = msgB M') : msgP M = msgP M' ∧ M.G = M'.G := by
  unfold msgB at e
  have hl : (msgP M).length = (msgP M').length := by
    have := congrArg List.length e
    rw [List.length_append, List.length_append, h.G, h'.G] at this
    omega
  exact List.append_inj e hl

theorem msgB_inj {M M' : Msg} (h : M.Ranged) (h' : M'.Ranged) (e : msgB M = msgB M') : M = M' :=
  msgP_inj h h' (msgB_split h.fits h'.fits e).1 (msgB_split h.fits h'.fits e).2

/-- The message of bytes, if there is one. -/
def Reads (s : List UInt8) : Option Msg → Prop
  | some M => msgGood M = true ∧ M.Fits ∧ msgB M = s
  | none => ∀ M : Msg, msgGood M = true → M.Fits → msgB M ≠ s

theorem Reads.unique {s : List UInt8} {o o' : Option Msg} (h : Reads s o) (h' : Reads s o') : o = o' := by
  cases o with
  | none =>
    cases o' with
    | none => rfl
    | some M => exact absurd h'.2.2 (h M h'.1 h'.2.1)
  | some M =>
    cases o' with
    | none => exact absurd h.2.2 (h' M h.1 h.2.1)
    | some M' => rw [msgB_inj (msg_ranged h.1 h.2.1) (msg_ranged h'.1 h'.2.1) (h.2.2.trans h'.2.2.symm)]

theorem Reads.own {M : Msg} (h : msgGood M = true) (hf : M.Fits) : Reads (msgB M) (some M) := ⟨h, hf, rfl⟩

/-- A kind's first byte. -/
theorem msgB_head {M : Msg} (h : M.Ranged) : leN ((msgB M).take 1) = M.k.toNat := by
  unfold msgB msgP
  rw [List.append_assoc, List.take_append_of_le_length (by rw [leB_length]; omega), List.take_of_length_le (by rw [leB_length]; omega), leB_low]
  rcases h.k with q | q | q <;> rw [q] <;> decide

/-- Of a block, and a vote, no other length is one's. -/
theorem reads_len {M M' : Msg} (h : M.Ranged) (h' : M'.Ranged) (hk : M.k ≠ 3) (e : (msgB M).take 1 = (msgB M').take 1) : (msgB M).length = (msgB M').length := by
  have e1 := msgB_head h
  rw [e, msgB_head h'] at e1
  rw [msgB_length h, msgB_length h']
  have hkk : M'.k = M.k := by
    rcases h.k with q | q | q <;> rcases h'.k with q' | q' | q' <;> rw [q, q'] at e1 <;> first | omega | (exact absurd e1 (by decide))
  rw [hkk]
  rcases h.k with q | q | q
  · simp [q]
  · simp [q]
  · exact absurd q hk
end Go.Proofs.YtickcajihaejkaaDoor
