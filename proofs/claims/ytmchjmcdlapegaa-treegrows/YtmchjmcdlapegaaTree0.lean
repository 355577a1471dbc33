/-
  A tree of blocks, plainly: names, slots and parents' places in a row; what a place is, what stands below what, and what an added block makes of it. It holds of every program.
-/
import Derived.RowKit3
namespace Go.Proofs.Ytmchjmcdlapegaa
open Go

/-- A block: its name, its slot, its parent's place. -/
abbrev Nd := List UInt8 × Int × Int
def rs (t : List Nd) : List (List UInt8) := t.map (·.1)
def plc (t : List Nd) (r : List UInt8) : Int := if r ∈ rs t then (((rs t).idxOf r : Nat) : Int) else -1
def nodeAt (t : List Nd) (i : Int) : Option Nd := if 0 ≤ i then t[i.toNat]? else none
def zero32 : List UInt8 := List.replicate 32 0

theorem rs_at {t : List Nd} {i : Nat} {n : Nd} (h : t[i]? = some n) : (rs t)[i]? = some n.1 := by simp [rs, h]
theorem rs_length (t : List Nd) : (rs t).length = t.length := by simp [rs]
theorem rs_append (t u : List Nd) : rs (t ++ u) = rs t ++ rs u := by simp [rs]
theorem mem_rs {t : List Nd} {i : Nat} {n : Nd} (h : t[i]? = some n) : n.1 ∈ rs t := List.mem_of_getElem? (rs_at h)

structure Good (t : List Nd) (most : Int) : Prop where
  nodup : (rs t).Nodup
  len : ∀ r ∈ rs t, r.length = 32
  pos : 0 < t.length
  fst : ∀ n, t[0]? = some n → n.2.2 = -1
  par : ∀ i n, t[i + 1]? = some n → ∃ (p : Nat) (m : Nd), n.2.2 = (p : Int) ∧ p ≤ i ∧ t[p]? = some m ∧ m.2.1 < n.2.1
  slot : ∀ n ∈ t, 0 ≤ n.2.1 ∧ n.2.1 ≤ 1073741824
  most1 : 1 ≤ most
  most256 : most ≤ 256
  room : (t.length : Int) ≤ most

theorem plc_cases (t : List Nd) (r : List UInt8) : (∃ (i : Nat) (n : Nd), t[i]? = some n ∧ n.1 = r ∧ plc t r = (i : Int) ∧ r ∈ rs t) ∨ (r ∉ rs t ∧ plc t r = -1) := by
  by_cases h : r ∈ rs t
  · left
    have hi := List.idxOf_lt_length_of_mem h
    have hi' : (rs t).idxOf r < t.length := by rw [rs_length] at hi; exact hi
    refine ⟨(rs t).idxOf r, t[(rs t).idxOf r], List.getElem?_eq_getElem hi', ?_, by simp [plc, h], h⟩
    have h1 : (rs t)[(rs t).idxOf r]'hi = r := List.getElem_idxOf hi
    have h2 : (rs t)[(rs t).idxOf r]'hi = (t[(rs t).idxOf r]'hi').1 := List.getElem_map _
    exact h2.symm.trans h1
  · exact .inr ⟨h, by simp [plc, h]⟩

theorem Good.at_inj {t : List Nd} {most : Int} (G : Good t most) {i j : Nat} {n m : Nd} (hi : t[i]? = some n) (hj : t[j]? = some m) (h : n.1 = m.1) : i = j := by
  have h1 := rs_at hi
  have h2 := rs_at hj
  have hl := (List.getElem?_eq_some_iff.1 h1).1
  exact (List.getElem?_inj hl G.nodup).1 (h1.trans ((congrArg some h).trans h2.symm))
theorem Good.plc_at {t : List Nd} {most : Int} (G : Good t most) {i : Nat} {n : Nd} (hi : t[i]? = some n) : plc t n.1 = (i : Int) := by
  rcases plc_cases t n.1 with ⟨j, m, hj, hm, hp, _⟩ | ⟨h, _⟩
  · rw [hp, G.at_inj hj hi hm]
  · exact absurd (mem_rs hi) h

theorem plc_none {t : List Nd} {r : List UInt8} (h : r ∉ rs t) : plc t r = -1 := by simp [plc, h]
theorem plc_lt (t : List Nd) (r : List UInt8) : plc t r < t.length := by
  rcases plc_cases t r with ⟨i, n, hi, _, hp, _⟩ | ⟨_, hp⟩
  · rw [hp]; have := (List.getElem?_eq_some_iff.1 hi).1; omega
  · rw [hp]; omega
theorem plc_ge (t : List Nd) (r : List UInt8) : -1 ≤ plc t r := by
  rcases plc_cases t r with ⟨i, n, hi, _, hp, _⟩ | ⟨_, hp⟩ <;> rw [hp] <;> omega
theorem nodeAt_nat (t : List Nd) (i : Nat) : nodeAt t (i : Int) = t[i]? := by simp [nodeAt]
theorem nodeAt_neg {t : List Nd} {i : Int} (h : i < 0) : nodeAt t i = none := by unfold nodeAt; rw [if_neg (by omega)]
theorem nodeAt_some {t : List Nd} {i : Int} {n : Nd} (h : nodeAt t i = some n) : ∃ k : Nat, i = (k : Int) ∧ t[k]? = some n := by
  unfold nodeAt at h
  split at h
  · exact ⟨i.toNat, by omega, h⟩
  · cases h

/-- What Add answers, and what it leaves. -/
def addT (most : Int) (t : List Nd) (r p : List UInt8) (s : Int) : Int × List Nd :=
  if 0 ≤ plc t r then (4, t) else
    match nodeAt t (plc t p) with
    | none => (5, t)
    | some m => if s ≤ m.2.1 ∨ 1073741824 < s then (5, t) else if most ≤ (t.length : Int) then (6, t) else (0, t ++ [(r, s, plc t p)])

theorem addT_cases (most : Int) (t : List Nd) (r p : List UInt8) (s : Int) :
    (0 ≤ plc t r ∧ addT most t r p s = (4, t)) ∨
    (plc t r = -1 ∧ plc t p = -1 ∧ addT most t r p s = (5, t)) ∨
    (∃ (i : Nat) (m : Nd), plc t r = -1 ∧ plc t p = (i : Int) ∧ t[i]? = some m ∧ s ≤ m.2.1 ∧ addT most t r p s = (5, t)) ∨
    (∃ (i : Nat) (m : Nd), plc t r = -1 ∧ plc t p = (i : Int) ∧ t[i]? = some m ∧ m.2.1 < s ∧ 1073741824 < s ∧ addT most t r p s = (5, t)) ∨
    (∃ (i : Nat) (m : Nd), plc t r = -1 ∧ plc t p = (i : Int) ∧ t[i]? = some m ∧ m.2.1 < s ∧ s ≤ 1073741824 ∧ most ≤ (t.length : Int) ∧ addT most t r p s = (6, t)) ∨
    (∃ (i : Nat) (m : Nd), plc t r = -1 ∧ plc t p = (i : Int) ∧ t[i]? = some m ∧ m.2.1 < s ∧ s ≤ 1073741824 ∧ (t.length : Int) < most ∧ addT most t r p s = (0, t ++ [(r, s, (i : Int))])) := by
  rcases plc_cases t r with ⟨j, n, _, _, hr, _⟩ | ⟨_, hr⟩
  · exact .inl ⟨by omega, by unfold addT; rw [if_pos (by omega)]⟩
  · right
    rcases plc_cases t p with ⟨i, m, hi, _, hp, _⟩ | ⟨_, hp⟩
    · right
      by_cases h1 : s ≤ m.2.1
      · exact .inl ⟨i, m, hr, hp, hi, h1, by unfold addT; rw [if_neg (by omega), hp, nodeAt_nat, hi]; simp [h1]⟩
      · right
        by_cases h2 : 1073741824 < s
        · exact .inl ⟨i, m, hr, hp, hi, by omega, h2, by unfold addT; rw [if_neg (by omega), hp, nodeAt_nat, hi]; simp [h2]⟩
        · right
          by_cases h3 : most ≤ (t.length : Int)
          · exact .inl ⟨i, m, hr, hp, hi, by omega, by omega, h3, by unfold addT; rw [if_neg (by omega), hp, nodeAt_nat, hi]; simp [h1, h2, h3]⟩
          · exact .inr ⟨i, m, hr, hp, hi, by omega, by omega, by omega, by unfold addT; rw [if_neg (by omega), hp, nodeAt_nat, hi]; simp [h1, h2, h3]⟩
    · exact .inl ⟨hr, hp, by unfold addT; rw [if_neg (by omega), hp, nodeAt_neg (by omega)]⟩

theorem Good.one {r : List UInt8} {s most : Int} (hr : r.length = 32) (hs : 0 ≤ s) (hs1 : s ≤ 1073741824) (h1 : 1 ≤ most) (h2 : most ≤ 256) : Good [(r, s, -1)] most :=
  ⟨by simp [rs], fun x hx => by simp [rs] at hx; rw [hx]; exact hr, by simp, fun n hn => by simp at hn; rw [← hn], fun i n hn => by simp at hn, fun n hn => by simp at hn; rw [hn]; exact ⟨hs, hs1⟩, h1, h2, by simpa using h1⟩

theorem not_mem_of_plc {t : List Nd} {r : List UInt8} (h : plc t r = -1) : r ∉ rs t := by
  rcases plc_cases t r with ⟨j, n, _, _, hr, _⟩ | ⟨h', _⟩
  · omega
  · exact h'
theorem mem_of_plc {t : List Nd} {r : List UInt8} (h : 0 ≤ plc t r) : r ∈ rs t := by
  rcases plc_cases t r with ⟨j, n, _, _, hr, h'⟩ | ⟨_, h'⟩
  · exact h'
  · omega

theorem Good.add {t : List Nd} {most : Int} (G : Good t most) {r : List UInt8} {s : Int} {i : Nat} {m : Nd} (hl : r.length = 32) (hr : plc t r = -1) (hi : t[i]? = some m) (hs : m.2.1 < s) (hs1 : s ≤ 1073741824) (hm : (t.length : Int) < most) :
    Good (t ++ [(r, s, (i : Int))]) most := by
  have hil := (List.getElem?_eq_some_iff.1 hi).1
  have hm0 := (G.slot m (List.mem_of_getElem? hi)).1
  refine ⟨?_, ?_, by simp, ?_, ?_, ?_, G.most1, G.most256, by simp; omega⟩
  · rw [rs_append]
    refine List.nodup_append.2 ⟨G.nodup, by simp [rs], fun a ha b hb e => ?_⟩
    simp [rs] at hb
    subst hb; subst e
    exact not_mem_of_plc hr ha
  · intro x hx
    rw [rs_append, List.mem_append] at hx
    rcases hx with hx | hx
    · exact G.len x hx
    · simp [rs] at hx; rw [hx]; exact hl
  · intro n hn
    rw [List.getElem?_append_left G.pos] at hn
    exact G.fst n hn
  · intro j n hn
    by_cases hj : j + 1 < t.length
    · rw [List.getElem?_append_left hj] at hn
      obtain ⟨p, q, h1, h2, h3, h4⟩ := G.par j n hn
      exact ⟨p, q, h1, h2, by rw [List.getElem?_append_left (by omega)]; exact h3, h4⟩
    · have hjl := (List.getElem?_eq_some_iff.1 hn).1
      simp at hjl
      have hje : j + 1 = t.length := by omega
      rw [List.getElem?_append_right (by omega), hje, Nat.sub_self] at hn
      simp at hn
      subst hn
      exact ⟨i, m, rfl, by omega, by rw [List.getElem?_append_left hil]; exact hi, hs⟩
  · intro n hn
    rw [List.mem_append] at hn
    rcases hn with hn | hn
    · exact G.slot n hn
    · simp at hn; subst hn; exact ⟨by simp only; omega, hs1⟩

theorem addT_good {t : List Nd} {most : Int} (G : Good t most) {r p : List UInt8} (s : Int) (hl : r.length = 32) : Good (addT most t r p s).2 most := by
  rcases addT_cases most t r p s with ⟨_, h⟩ | ⟨_, _, h⟩ | ⟨_, _, _, _, _, _, h⟩ | ⟨_, _, _, _, _, _, _, h⟩ | ⟨_, _, _, _, _, _, _, _, h⟩ | ⟨i, m, h1, h2, h3, h4, h5, h6, h⟩ <;> rw [h]
  · exact G
  · exact G
  · exact G
  · exact G
  · exact G
  · exact G.add hl h1 h3 h4 h5 h6
theorem addT_prefix (most : Int) (t : List Nd) (r p : List UInt8) (s : Int) : t <+: (addT most t r p s).2 := by
  rcases addT_cases most t r p s with ⟨_, h⟩ | ⟨_, _, h⟩ | ⟨_, _, _, _, _, _, h⟩ | ⟨_, _, _, _, _, _, _, h⟩ | ⟨_, _, _, _, _, _, _, _, h⟩ | ⟨i, m, h1, h2, h3, h4, h5, h6, h⟩ <;> rw [h] <;> simp
/-- The places of names, with one name more. -/
theorem plc_snoc {t : List Nd} {r : List UInt8} {n : Nd} (h : n.1 ∉ rs t) : plc (t ++ [n]) r = if r = n.1 then (t.length : Int) else plc t r := by
  by_cases hr : r = n.1
  · subst hr
    rw [if_pos rfl]
    unfold plc
    rw [if_pos (by simp [rs]), rs_append, List.idxOf_append, if_neg h]
    simp [rs]
  · rw [if_neg hr]
    unfold plc
    rw [rs_append]
    by_cases hm : r ∈ rs t
    · rw [if_pos (by simp [hm]), if_pos hm, List.idxOf_append, if_pos hm]
    · rw [if_neg (by simp [hm]; simpa [rs] using hr), if_neg hm]

/-- The block at a place, its parent, and so on. -/
def upN (t : List Nd) : Nat → Int → List Nd
  | 0, _ => []
  | k + 1, i => match nodeAt t i with
    | none => []
    | some n => n :: upN t k n.2.2
def chn (t : List Nd) (i : Int) : List Nd := upN t t.length i

theorem Good.parent_lt {t : List Nd} {most : Int} (G : Good t most) {i : Nat} {n : Nd} (h : t[i]? = some n) : n.2.2 < (i : Int) := by
  cases i with
  | zero => rw [G.fst n h]; decide
  | succ j =>
    obtain ⟨p, m, h1, h2, _⟩ := G.par j n h
    rw [h1]; omega
theorem upN_more {t : List Nd} {most : Int} (G : Good t most) : ∀ (k k' : Nat) (i : Int), i < (k : Int) → i < (k' : Int) → upN t k i = upN t k' i
  | 0, k', i, h1, _ => by
    cases k' with
    | zero => rfl
    | succ k' => simp [upN, nodeAt_neg (show i < 0 by omega)]
  | k + 1, 0, i, _, h2 => by simp [upN, nodeAt_neg (show i < 0 by omega)]
  | k + 1, k' + 1, i, h1, h2 => by
    simp only [upN]
    cases h : nodeAt t i with
    | none => rfl
    | some n =>
      obtain ⟨j, rfl, hj⟩ := nodeAt_some h
      have := G.parent_lt hj
      simp only
      rw [upN_more G k k' n.2.2 (by omega) (by omega)]
theorem chn_none {t : List Nd} {i : Int} (h : nodeAt t i = none) : chn t i = [] := by
  unfold chn
  cases t.length with
  | zero => rfl
  | succ k => simp [upN, h]
theorem Good.chn_some {t : List Nd} {most : Int} (G : Good t most) {i : Nat} {n : Nd} (h : t[i]? = some n) : chn t (i : Int) = n :: chn t n.2.2 := by
  have hl := (List.getElem?_eq_some_iff.1 h).1
  have hp := G.parent_lt h
  unfold chn
  obtain ⟨k, hk⟩ : ∃ k, t.length = k + 1 := ⟨t.length - 1, by omega⟩
  rw [hk]
  have e : upN t (k + 1) (i : Int) = n :: upN t k n.2.2 := by simp [upN, nodeAt_nat, h]
  rw [e, upN_more G k (k + 1) n.2.2 (by omega) (by omega)]
theorem chn_neg {t : List Nd} {i : Int} (h : i < 0) : chn t i = [] := chn_none (nodeAt_neg h)
theorem Good.chn_length {t : List Nd} {most : Int} (G : Good t most) : ∀ (k : Nat) (i : Int), i ≤ (k : Int) → i < t.length → (chn t i).length ≤ k + 1
  | 0, i, h, hl => by
    by_cases h0 : i < 0
    · rw [chn_neg h0]; simp
    · obtain rfl : i = ((0 : Nat) : Int) := by omega
      have h1 : t[0]? = some t[0] := List.getElem?_eq_getElem G.pos
      rw [G.chn_some h1, G.fst _ h1, chn_neg (by decide)]
      simp
  | k + 1, i, h, hl => by
    by_cases h0 : i < 0
    · rw [chn_neg h0]; simp
    · obtain ⟨j, rfl⟩ : ∃ j : Nat, i = (j : Int) := ⟨i.toNat, by omega⟩
      have h1 : t[j]? = some t[j] := List.getElem?_eq_getElem (by omega)
      have h2 := G.parent_lt h1
      rw [G.chn_some h1, List.length_cons]
      have := Good.chn_length G k (t[j]).2.2 (by omega) (by omega)
      omega

def belowT (t : List Nd) (x y : List UInt8) : Bool := (chn t (plc t y)).any fun n => n.1 == x
def kidsT (t : List Nd) (r : List UInt8) : List (List UInt8) := if 0 ≤ plc t r then rs (t.filter fun n => n.2.2 == plc t r) else []

/-- A parent's name; noughts, where there is none. -/
def pnm (t : List Nd) (i : Int) : List UInt8 := match nodeAt t i with
  | none => zero32
  | some n => n.1
def pns (t : List Nd) : List (List UInt8) := t.map fun n => pnm t n.2.2
theorem pns_length (t : List Nd) : (pns t).length = t.length := by simp [pns]
theorem pns_at {t : List Nd} {i : Nat} {n : Nd} (h : t[i]? = some n) : (pns t)[i]? = some (pnm t n.2.2) := by simp [pns, h]
theorem pns_one (r : List UInt8) (s : Int) : pns [(r, s, -1)] = [zero32] := by simp [pns, pnm, nodeAt]
theorem Good.pns_snoc {t : List Nd} {most : Int} (G : Good t most) {r : List UInt8} {s : Int} {i : Nat} {m : Nd} (hi : t[i]? = some m) : pns (t ++ [(r, s, (i : Int))]) = pns t ++ [m.1] := by
  have hil := (List.getElem?_eq_some_iff.1 hi).1
  have hp : pnm (t ++ [(r, s, (i : Int))]) (i : Int) = m.1 := by simp [pnm, nodeAt_nat, List.getElem?_append_left hil, hi]
  unfold pns
  rw [List.map_append, List.map_cons, List.map_nil]
  congr 1
  · apply List.map_congr_left
    intro n hn
    obtain ⟨j, hj⟩ := List.getElem?_of_mem hn
    have h1 := G.parent_lt hj
    have hjl := (List.getElem?_eq_some_iff.1 hj).1
    by_cases h0 : n.2.2 < 0
    · simp [pnm, nodeAt_neg h0]
    · obtain ⟨k, hk⟩ : ∃ k : Nat, n.2.2 = (k : Int) := ⟨n.2.2.toNat, by omega⟩
      rw [hk]
      simp [pnm, nodeAt_nat, List.getElem?_append_left (show k < t.length by omega)]
  · rw [hp]
theorem Good.pnm_len {t : List Nd} {most : Int} (G : Good t most) (i : Int) : (pnm t i).length = 32 := by
  unfold pnm
  cases h : nodeAt t i with
  | none => simp [zero32]
  | some n => obtain ⟨k, _, hk⟩ := nodeAt_some h; exact G.len _ (mem_rs hk)
theorem Good.pns_len {t : List Nd} {most : Int} (G : Good t most) : ∀ r ∈ pns t, r.length = 32 := fun r hr => by
  obtain ⟨n, _, rfl⟩ := List.mem_map.1 hr
  exact G.pnm_len _
/-- A parent's name leads to its place. -/
theorem Good.plc_pnm {t : List Nd} {most : Int} (G : Good t most) {i : Nat} {n : Nd} (h : t[i + 1]? = some n) : plc t (pnm t n.2.2) = n.2.2 := by
  obtain ⟨p, m, h1, h2, h3, _⟩ := G.par i n h
  rw [h1]
  simp only [pnm, nodeAt_nat, h3]
  exact G.plc_at h3
end Go.Proofs.Ytmchjmcdlapegaa
