/-
  The texts Tree0, Tree1, Weigh0, one behind the other.
-/
import Derived.RowKit3
/-
  A tree of blocks, plainly: names, slots and parents' places in a row; what a place is, what stands below what, and what an added block makes of it. It holds of every program.
-/
namespace Go.Proofs.Ytjodhagjfjgbcaa
open Go

/-- A block: its name, its slot, its parent's place. -/
abbrev Nd := List UInt8 × Int × Int
def rs (t : List Nd) : List (List UInt8) := t.map (·.1)
def plc (t : List Nd) (r : List UInt8) : Int := if r ∈ rs t then (((rs t).idxOf r : Nat) : Int) else -1
def nodeAt (t : List Nd) (i : Int) : Option Nd := if 0 ≤ i then t[i.toNat]? else none
def zero32 : List UInt8 := List.replicate 32 0

theorem rs_at {t : List Nd} {i : Nat} {n : Nd} (h : t[i]? = some n) : (rs t)[i]? = some n.1 := by simp [rs, h]
theorem rs_length (t : List Nd) : (rs t).length = t.length := by simp [rs]
theorem rs_append (t u : List Nd) : rs (t ++ u) = rs t ++ rs u := by simp [rs]
theorem mem_rs {t : List Nd} {i : Nat} {n : Nd} (h : t[i]? = some n) : n.1 ∈ rs t := List.mem_of_getElem? (rs_at h)

structure Good (t : List Nd) (most : Int) : Prop where
  nodup : (rs t).Nodup
  len : ∀ r ∈ rs t, r.length = 32
  pos : 0 < t.length
  fst : ∀ n, t[0]? = some n → n.2.2 = -1
  par : ∀ i n, t[i + 1]? = some n → ∃ (p : Nat) (m : Nd), n.2.2 = (p : Int) ∧ p ≤ i ∧ t[p]? = some m ∧ m.2.1 < n.2.1
  slot : ∀ n ∈ t, 0 ≤ n.2.1 ∧ n.2.1 ≤ 1073741824
  most1 : 1 ≤ most
  most256 : most ≤ 256
  room : (t.length : Int) ≤ most

theorem plc_cases (t : List Nd) (r : List UInt8) : (∃ (i : Nat) (n : Nd), t[i]? = some n ∧ n.1 = r ∧ plc t r = (i : Int) ∧ r ∈ rs t) ∨ (r ∉ rs t ∧ plc t r = -1) := by
  by_cases h : r ∈ rs t
  · left
    have hi := List.idxOf_lt_length_of_mem h
    have hi' : (rs t).idxOf r < t.length := by rw [rs_length] at hi; exact hi
    refine ⟨(rs t).idxOf r, t[(rs t).idxOf r], List.getElem?_eq_getElem hi', ?_, by simp [plc, h], h⟩
    have h1 : (rs t)[(rs t).idxOf r]'hi = r := List.getElem_idxOf hi
    have h2 : (rs t)[(rs t).idxOf r]'hi = (t[(rs t).idxOf r]'hi').1 := List.getElem_map _
    exact h2.symm.trans h1
  · exact .inr ⟨h, by simp [plc, h]⟩

theorem Good.at_inj {t : List Nd} {most : Int} (G : Good t most) {i j : Nat} {n m : Nd} (hi : t[i]? = some n) (hj : t[j]? = some m) (h : n.1 = m.1) : i = j := by
  have h1 := rs_at hi
  have h2 := rs_at hj
  have hl := (List.getElem?_eq_some_iff.1 h1).1
  exact (List.getElem?_inj hl G.nodup).1 (h1.trans ((congrArg some h).trans h2.symm))
theorem Good.plc_at {t : List Nd} {most : Int} (G : Good t most) {i : Nat} {n : Nd} (hi : t[i]? = some n) : plc t n.1 = (i : Int) := by
  rcases plc_cases t n.1 with ⟨j, m, hj, hm, hp, _⟩ | ⟨h, _⟩
  · rw [hp, G.at_inj hj hi hm]
  · exact absurd (mem_rs hi) h

theorem plc_none {t : List Nd} {r : List UInt8} (h : r ∉ rs t) : plc t r = -1 := by simp [plc, h]
theorem plc_lt (t : List Nd) (r : List UInt8) : plc t r < t.length := by
  rcases plc_cases t r with ⟨i, n, hi, _, hp, _⟩ | ⟨_, hp⟩
  · rw [hp]; have := (List.getElem?_eq_some_iff.1 hi).1; omega
  · rw [hp]; omega
theorem plc_ge (t : List Nd) (r : List UInt8) : -1 ≤ plc t r := by
  rcases plc_cases t r with ⟨i, n, hi, _, hp, _⟩ | ⟨_, hp⟩ <;> rw [hp] <;> omega
theorem nodeAt_nat (t : List Nd) (i : Nat) : nodeAt t (i : Int) = t[i]? := by simp [nodeAt]
theorem nodeAt_neg {t : List Nd} {i : Int} (h : i < 0) : nodeAt t i = none := by unfold nodeAt; rw [if_neg (by omega)]
theorem nodeAt_some {t : List Nd} {i : Int} {n : Nd} (h : nodeAt t i = some n) : ∃ k : Nat, i = (k : Int) ∧ t[k]? = some n := by
  unfold nodeAt at h
  split at h
  · exact ⟨i.toNat, by omega, h⟩
  · cases h

/-- What Add answers, and what it leaves. -/
def addT (most : Int) (t : List Nd) (r p : List UInt8) (s : Int) : Int × List Nd :=
  if 0 ≤ plc t r then (4, t) else
    match nodeAt t (plc t p) with
    | none => (5, t)
    | some m => if s ≤ m.2.1 ∨ 1073741824 < s then (5, t) else if most ≤ (t.length : Int) then (6, t) else (0, t ++ [(r, s, plc t p)])

theorem addT_cases (most : Int) (t : List Nd) (r p : List UInt8) (s : Int) :
    (0 ≤ plc t r ∧ addT most t r p s = (4, t)) ∨
    (plc t r = -1 ∧ plc t p = -1 ∧ addT most t r p s = (5, t)) ∨
    (∃ (i : Nat) (m : Nd), plc t r = -1 ∧ plc t p = (i : Int) ∧ t[i]? = some m ∧ s ≤ m.2.1 ∧ addT most t r p s = (5, t)) ∨
    (∃ (i : Nat) (m : Nd), plc t r = -1 ∧ plc t p = (i : Int) ∧ t[i]? = some m ∧ m.2.1 < s ∧ 1073741824 < s ∧ addT most t r p s = (5, t)) ∨
    (∃ (i : Nat) (m : Nd), plc t r = -1 ∧ plc t p = (i : Int) ∧ t[i]? = some m ∧ m.2.1 < s ∧ s ≤ 1073741824 ∧ most ≤ (t.length : Int) ∧ addT most t r p s = (6, t)) ∨
    (∃ (i : Nat) (m : Nd), plc t r = -1 ∧ plc t p = (i : Int) ∧ t[i]? = some m ∧ m.2.1 < s ∧ s ≤ 1073741824 ∧ (t.length : Int) < most ∧ addT most t r p s = (0, t ++ [(r, s, (i : Int))])) := by
  rcases plc_cases t r with ⟨j, n, _, _, hr, _⟩ | ⟨_, hr⟩
  · exact .inl ⟨by omega, by unfold addT; rw [if_pos (by omega)]⟩
  · right
    rcases plc_cases t p with ⟨i, m, hi, _, hp, _⟩ | ⟨_, hp⟩
    · right
      by_cases h1 : s ≤ m.2.1
      · exact .inl ⟨i, m, hr, hp, hi, h1, by unfold addT; rw [if_neg (by omega), hp, nodeAt_nat, hi]; simp [h1]⟩
      · right
        by_cases h2 : 1073741824 < s
        · exact .inl ⟨i, m, hr, hp, hi, by omega, h2, by unfold addT; rw [if_neg (by omega), hp, nodeAt_nat, hi]; simp [h2]⟩
        · right
          by_cases h3 : most ≤ (t.length : Int)
          · exact .inl ⟨i, m, hr, hp, hi, by omega, by omega, h3, by unfold addT; rw [if_neg (by omega), hp, nodeAt_nat, hi]; simp [h1, h2, h3]⟩
          · exact .inr ⟨i, m, hr, hp, hi, by omega, by omega, by omega, by unfold addT; rw [if_neg (by omega), hp, nodeAt_nat, hi]; simp [h1, h2, h3]⟩
    · exact .inl ⟨hr, hp, by unfold addT; rw [if_neg (by omega), hp, nodeAt_neg (by omega)]⟩

theorem Good.one {r : List UInt8} {s most : Int} (hr : r.length = 32) (hs : 0 ≤ s) (hs1 : s ≤ 1073741824) (h1 : 1 ≤ most) (h2 : most ≤ 256) : Good [(r, s, -1)] most :=
  ⟨by simp [rs], fun x hx => by simp [rs] at hx; rw [hx]; exact hr, by simp, fun n hn => by simp at hn; rw [← hn], fun i n hn => by simp at hn, fun n hn => by simp at hn; rw [hn]; exact ⟨hs, hs1⟩, h1, h2, by simpa using h1⟩

theorem not_mem_of_plc {t : List Nd} {r : List UInt8} (h : plc t r = -1) : r ∉ rs t := by
  rcases plc_cases t r with ⟨j, n, _, _, hr, _⟩ | ⟨h', _⟩
  · omega
  · exact h'
theorem mem_of_plc {t : List Nd} {r : List UInt8} (h : 0 ≤ plc t r) : r ∈ rs t := by
  rcases plc_cases t r with ⟨j, n, _, _, hr, h'⟩ | ⟨_, h'⟩
  · exact h'
  · omega

theorem Good.add {t : List Nd} {most : Int} (G : Good t most) {r : List UInt8} {s : Int} {i : Nat} {m : Nd} (hl : r.length = 32) (hr : plc t r = -1) (hi : t[i]? = some m) (hs : m.2.1 < s) (hs1 : s ≤ 1073741824) (hm : (t.length : Int) < most) :
    Good (t ++ [(r, s, (i : Int))]) most := by
  have hil := (List.getElem?_eq_some_iff.1 hi).1
  have hm0 := (G.slot m (List.mem_of_getElem? hi)).1
  refine ⟨?_, ?_, by simp, ?_, ?_, ?_, G.most1, G.most256, by simp; omega⟩
  · rw [rs_append]
    refine List.nodup_append.2 ⟨G.nodup, by simp [rs], fun a ha b hb e => ?_⟩
    simp [rs] at hb
    subst hb; subst e
    exact not_mem_of_plc hr ha
  · intro x hx
    rw [rs_append, List.mem_append] at hx
    rcases hx with hx | hx
    · exact G.len x hx
    · simp [rs] at hx; rw [hx]; exact hl
  · intro n hn
    rw [List.getElem?_append_left G.pos] at hn
    exact G.fst n hn
  · intro j n hn
    by_cases hj : j + 1 < t.length
    · rw [List.getElem?_append_left hj] at hn
      obtain ⟨p, q, h1, h2, h3, h4⟩ := G.par j n hn
      exact ⟨p, q, h1, h2, by rw [List.getElem?_append_left (by omega)]; exact h3, h4⟩
    · have hjl := (List.getElem?_eq_some_iff.1 hn).1
      simp at hjl
      have hje : j + 1 = t.length := by omega
      rw [List.getElem?_append_right (by omega), hje, Nat.sub_self] at hn
      simp at hn
      subst hn
      exact ⟨i, m, rfl, by omega, by rw [List.getElem?_append_left hil]; exact hi, hs⟩
  · intro n hn
    rw [List.mem_append] at hn
    rcases hn with hn | hn
    · exact G.slot n hn
    · simp at hn; subst hn; exact ⟨by simp only; omega, hs1⟩

theorem addT_good {t : List Nd} {most : Int} (G : Good t most) {r p : List UInt8} (s : Int) (hl : r.length = 32) : Good (addT most t r p s).2 most := by
  rcases addT_cases most t r p s with ⟨_, h⟩ | ⟨_, _, h⟩ | ⟨_, _, _, _, _, _, h⟩ | ⟨_, _, _, _, _, _, _, h⟩ | ⟨_, _, _, _, _, _, _, _, h⟩ | ⟨i, m, h1, h2, h3, h4, h5, h6, h⟩ <;> rw [h]
  · exact G
  · exact G
  · exact G
  · exact G
  · exact G
  · exact G.add hl h1 h3 h4 h5 h6
theorem addT_prefix (most : Int) (t : List Nd) (r p : List UInt8) (s : Int) : t <+: (addT most t r p s).2 := by
  rcases addT_cases most t r p s with ⟨_, h⟩ | ⟨_, _, h⟩ | ⟨_, _, _, _, _, _, h⟩ | ⟨_, _, _, _, _, _, _, h⟩ | ⟨_, _, _, _, _, _, _, _, h⟩ | ⟨i, m, h1, h2, h3, h4, h5, h6, h⟩ <;> rw [h] <;> simp
/-- The places of names, with one name more. -/
theorem plc_snoc {t : List Nd} {r : List UInt8} {n : Nd} (h : n.1 ∉ rs t) : plc (t ++ [n]) r = if r = n.1 then (t.length : Int) else plc t r := by
  by_cases hr : r = n.1
  · subst hr
    rw [if_pos rfl]
    unfold plc
    rw [if_pos (by simp [rs]), rs_append, List.idxOf_append, if_neg h]
    simp [rs]
  · rw [if_neg hr]
    unfold plc
    rw [rs_append]
    by_cases hm : r ∈ rs t
    · rw [if_pos (by simp [hm]), if_pos hm, List.idxOf_append, if_pos hm]
    · rw [if_neg (by simp [hm]; simpa [rs] using hr), if_neg hm]

/-- The block at a place, its parent, and so on. -/
def upN (t : List Nd) : Nat → Int → List Nd
  | 0, _ => []
  | k + 1, i => match nodeAt t i with
    | none => []
    | some n => n :: upN t k n.2.2
def chn (t : List Nd) (i : Int) : List Nd := upN t t.length i

theorem Good.parent_lt {t : List Nd} {most : Int} (G : Good t most) {i : Nat} {n : Nd} (h : t[i]? = some n) : n.2.2 < (i : Int) := by
  cases i with
  | zero => rw [G.fst n h]; decide
  | succ j =>
    obtain ⟨p, m, h1, h2, _⟩ := G.par j n h
    rw [h1]; omega
theorem upN_more {t : List Nd} {most : Int} (G : Good t most) : ∀ (k k' : Nat) (i : Int), i < (k : Int) → i < (k' : Int) → upN t k i = upN t k' i
  | 0, k', i, h1, _ => by
    cases k' with
    | zero => rfl
    | succ k' => simp [upN, nodeAt_neg (show i < 0 by omega)]
  | k + 1, 0, i, _, h2 => by simp [upN, nodeAt_neg (show i < 0 by omega)]
  | k + 1, k' + 1, i, h1, h2 => by
    simp only [upN]
    cases h : nodeAt t i with
    | none => rfl
    | some n =>
      obtain ⟨j, rfl, hj⟩ := nodeAt_some h
      have := G.parent_lt hj
      simp only
      rw [upN_more G k k' n.2.2 (by omega) (by omega)]
theorem chn_none {t : List Nd} {i : Int} (h : nodeAt t i = none) : chn t i = [] := by
  unfold chn
  cases t.length with
  | zero => rfl
  | succ k => simp [upN, h]
theorem Good.chn_some {t : List Nd} {most : Int} (G : Good t most) {i : Nat} {n : Nd} (h : t[i]? = some n) : chn t (i : Int) = n :: chn t n.2.2 := by
  have hl := (List.getElem?_eq_some_iff.1 h).1
  have hp := G.parent_lt h
  unfold chn
  obtain ⟨k, hk⟩ : ∃ k, t.length = k + 1 := ⟨t.length - 1, by omega⟩
  rw [hk]
  have e : upN t (k + 1) (i : Int) = n :: upN t k n.2.2 := by simp [upN, nodeAt_nat, h]
  rw [e, upN_more G k (k + 1) n.2.2 (by omega) (by omega)]
theorem chn_neg {t : List Nd} {i : Int} (h : i < 0) : chn t i = [] := chn_none (nodeAt_neg h)
theorem Good.chn_length {t : List Nd} {most : Int} (G : Good t most) : ∀ (k : Nat) (i : Int), i ≤ (k : Int) → i < t.length → (chn t i).length ≤ k + 1
  | 0, i, h, hl => by
    by_cases h0 : i < 0
    · rw [chn_neg h0]; simp
    · obtain rfl : i = ((0 : Nat) : Int) := by omega
      have h1 : t[0]? = some t[0] := List.getElem?_eq_getElem G.pos
      rw [G.chn_some h1, G.fst _ h1, chn_neg (by decide)]
      simp
  | k + 1, i, h, hl => by
    by_cases h0 : i < 0
    · rw [chn_neg h0]; simp
    · obtain ⟨j, rfl⟩ : ∃ j : Nat, i = (j : Int) := ⟨i.toNat, by omega⟩
      have h1 : t[j]? = some t[j] := List.getElem?_eq_getElem (by omega)
      have h2 := G.parent_lt h1
      rw [G.chn_some h1, List.length_cons]
      have := Good.chn_length G k (t[j]).2.2 (by omega) (by omega)
      omega

def belowT (t : List Nd) (x y : List UInt8) : Bool := (chn t (plc t y)).any fun n => n.1 == x
def kidsT (t : List Nd) (r : List UInt8) : List (List UInt8) := if 0 ≤ plc t r then rs (t.filter fun n => n.2.2 == plc t r) else []

/-- A parent's name; noughts, where there is none. -/
def pnm (t : List Nd) (i : Int) : List UInt8 := match nodeAt t i with
  | none => zero32
  | some n => n.1
def pns (t : List Nd) : List (List UInt8) := t.map fun n => pnm t n.2.2
theorem pns_length (t : List Nd) : (pns t).length = t.length := by simp [pns]
theorem pns_at {t : List Nd} {i : Nat} {n : Nd} (h : t[i]? = some n) : (pns t)[i]? = some (pnm t n.2.2) := by simp [pns, h]
theorem pns_one (r : List UInt8) (s : Int) : pns [(r, s, -1)] = [zero32] := by simp [pns, pnm, nodeAt]
theorem Good.pns_snoc {t : List Nd} {most : Int} (G : Good t most) {r : List UInt8} {s : Int} {i : Nat} {m : Nd} (hi : t[i]? = some m) : pns (t ++ [(r, s, (i : Int))]) = pns t ++ [m.1] := by
  have hil := (List.getElem?_eq_some_iff.1 hi).1
  have hp : pnm (t ++ [(r, s, (i : Int))]) (i : Int) = m.1 := by simp [pnm, nodeAt_nat, List.getElem?_append_left hil, hi]
  unfold pns
  rw [List.map_append, List.map_cons, List.map_nil]
  congr 1
  · apply List.map_congr_left
    intro n hn
    obtain ⟨j, hj⟩ := List.getElem?_of_mem hn
    have h1 := G.parent_lt hj
    have hjl := (List.getElem?_eq_some_iff.1 hj).1
    by_cases h0 : n.2.2 < 0
    · simp [pnm, nodeAt_neg h0]
    · obtain ⟨k, hk⟩ : ∃ k : Nat, n.2.2 = (k : Int) := ⟨n.2.2.toNat, by omega⟩
      rw [hk]
      simp [pnm, nodeAt_nat, List.getElem?_append_left (show k < t.length by omega)]
  · rw [hp]
theorem Good.pnm_len {t : List Nd} {most : Int} (G : Good t most) (i : Int) : (pnm t i).length = 32 := by
  unfold pnm
  cases h : nodeAt t i with
  | none => simp [zero32]
  | some n => obtain ⟨k, _, hk⟩ := nodeAt_some h; exact G.len _ (mem_rs hk)
theorem Good.pns_len {t : List Nd} {most : Int} (G : Good t most) : ∀ r ∈ pns t, r.length = 32 := fun r hr => by
  obtain ⟨n, _, rfl⟩ := List.mem_map.1 hr
  exact G.pnm_len _
/-- A parent's name leads to its place. -/
theorem Good.plc_pnm {t : List Nd} {most : Int} (G : Good t most) {i : Nat} {n : Nd} (h : t[i + 1]? = some n) : plc t (pnm t n.2.2) = n.2.2 := by
  obtain ⟨p, m, h1, h2, h3, _⟩ := G.par i n h
  rw [h1]
  simp only [pnm, nodeAt_nat, h3]
  exact G.plc_at h3
end Go.Proofs.Ytjodhagjfjgbcaa

/-
  What stands below what: plain.
-/
namespace Go.Proofs.Ytjodhagjfjgbcaa
open Go

/-- Each block of a chain has its place, and its own chain is a part of it. -/
theorem Good.chn_mem {t : List Nd} {most : Int} (G : Good t most) : ∀ (N i : Nat), i < N → ∀ m ∈ chn t (i : Int), ∃ k : Nat, k ≤ i ∧ t[k]? = some m ∧ ∀ q ∈ chn t (k : Int), q ∈ chn t (i : Int)
  | 0, i, h, _, _ => by omega
  | N + 1, i, h, m, hm => by
    cases hi : t[i]? with
    | none => rw [chn_none (by rw [nodeAt_nat, hi])] at hm; cases hm
    | some n =>
      have hc := G.chn_some hi
      rw [hc, List.mem_cons] at hm
      rcases hm with rfl | hm
      · exact ⟨i, Nat.le_refl _, hi, fun q hq => hq⟩
      · have hp := G.parent_lt hi
        by_cases h0 : n.2.2 < 0
        · rw [chn_neg h0] at hm; cases hm
        · obtain ⟨p, hpe⟩ : ∃ p : Nat, n.2.2 = (p : Int) := ⟨n.2.2.toNat, by omega⟩
          rw [hpe] at hm hc hp
          obtain ⟨k, h1, h2, h3⟩ := Good.chn_mem G N p (by omega) m hm
          exact ⟨k, by omega, h2, fun q hq => by rw [hc]; exact List.mem_cons_of_mem _ (h3 q hq)⟩
/-- The first block is on each chain. -/
theorem Good.chn_root {t : List Nd} {most : Int} (G : Good t most) {r : Nd} (hr : t[0]? = some r) : ∀ (N i : Nat), i < N → i < t.length → r ∈ chn t (i : Int)
  | 0, i, h, _ => by omega
  | N + 1, i, h, hl => by
    have hi : t[i]? = some t[i] := List.getElem?_eq_getElem hl
    rw [G.chn_some hi, List.mem_cons]
    cases i with
    | zero => left; rw [hr] at hi; exact Option.some.inj hi
    | succ j =>
      right
      obtain ⟨p, m, h1, h2, h3, _⟩ := G.par j _ hi
      rw [h1]
      exact Good.chn_root G hr N p (by omega) (List.getElem?_eq_some_iff.1 h3).1
theorem belowT_iff {t : List Nd} {x y : List UInt8} : belowT t x y = true ↔ ∃ m ∈ chn t (plc t y), m.1 = x := by
  unfold belowT
  rw [List.any_eq_true]
  constructor
  · rintro ⟨m, h1, h2⟩; exact ⟨m, h1, by simpa using h2⟩
  · rintro ⟨m, h1, h2⟩; exact ⟨m, h1, by simpa using h2⟩
theorem Good.below_at {t : List Nd} {most : Int} (G : Good t most) {x y : List UInt8} (h : belowT t x y = true) : ∃ i k : Nat, plc t y = (i : Int) ∧ k ≤ i ∧ plc t x = (k : Int) ∧ (∃ n, t[i]? = some n ∧ n.1 = y) ∧ (∃ m, t[k]? = some m ∧ m.1 = x) ∧ ∀ q ∈ chn t (k : Int), q ∈ chn t (i : Int) := by
  obtain ⟨m, hm, rfl⟩ := belowT_iff.1 h
  rcases plc_cases t y with ⟨i, n, h1, h2, h3, _⟩ | ⟨_, h3⟩
  · rw [h3] at hm
    obtain ⟨k, h4, h5, h6⟩ := G.chn_mem (i + 1) i (by omega) m hm
    exact ⟨i, k, h3, h4, G.plc_at h5, ⟨n, h1, h2⟩, ⟨m, h5, rfl⟩, h6⟩
  · rw [h3, chn_neg (by decide)] at hm; cases hm
theorem Good.below_same {t : List Nd} {most : Int} (G : Good t most) {x y : List UInt8} (h : belowT t x y = true) (k : belowT t y x = true) : x = y := by
  obtain ⟨i, j, h1, h2, h3, ⟨n, h4, h5⟩, ⟨m, h6, h7⟩, _⟩ := G.below_at h
  obtain ⟨i', j', k1, k2, k3, _⟩ := G.below_at k
  have e : i = j := by omega
  subst e
  rw [h4] at h6
  cases h6
  rw [← h5, ← h7]
theorem Good.below_trans {t : List Nd} {most : Int} (G : Good t most) {x y z : List UInt8} (h : belowT t x y = true) (k : belowT t y z = true) : belowT t x z = true := by
  obtain ⟨m, hm, e⟩ := belowT_iff.1 h
  obtain ⟨i, j, h1, h2, h3, _, _, h8⟩ := G.below_at k
  refine belowT_iff.2 ⟨m, ?_, e⟩
  rw [h1]
  rw [h3] at hm
  exact h8 m hm
theorem Good.below_root {t : List Nd} {most : Int} (G : Good t most) {r n : Nd} {i : Nat} (hr : t[0]? = some r) (hi : t[i]? = some n) : belowT t r.1 n.1 = true := by
  refine belowT_iff.2 ⟨r, ?_, rfl⟩
  rw [G.plc_at hi]
  exact G.chn_root hr (i + 1) i (by omega) (List.getElem?_eq_some_iff.1 hi).1
end Go.Proofs.Ytjodhagjfjgbcaa

/-
  What blocks weigh, plainly: sums over places, what stands above what, a block's weight as the own weights of all that stand at or below it; that it is its own and its children's. It holds of every program.
-/
namespace Go.Proofs.Ytjodhagjfjgbcaa
open Go

/-- The sum of f at the places below n. -/
def smZ (f : Nat → Int) : Nat → Int
  | 0 => 0
  | n + 1 => smZ f n + f n
theorem smZ_congr {f g : Nat → Int} : ∀ (n : Nat), (∀ k, k < n → f k = g k) → smZ f n = smZ g n
  | 0, _ => rfl
  | n + 1, h => by rw [smZ, smZ, smZ_congr n (fun k hk => h k (by omega)), h n (by omega)]
theorem smZ_none {f : Nat → Int} : ∀ (n : Nat), (∀ k, k < n → f k = 0) → smZ f n = 0
  | 0, _ => rfl
  | n + 1, h => by rw [smZ, smZ_none n (fun k hk => h k (by omega)), h n (by omega)]; rfl
theorem smZ_add (f g : Nat → Int) : ∀ n : Nat, smZ (fun k => f k + g k) n = smZ f n + smZ g n
  | 0 => rfl
  | n + 1 => by rw [smZ, smZ, smZ, smZ_add f g n]; omega
theorem smZ_le {f g : Nat → Int} : ∀ (n : Nat), (∀ k, k < n → f k ≤ g k) → smZ f n ≤ smZ g n
  | 0, _ => Int.le_refl _
  | n + 1, h => by
    have h1 := smZ_le (f := f) (g := g) n (fun k hk => h k (by omega))
    have h2 := h n (by omega)
    rw [smZ, smZ]; omega
theorem smZ_nonneg {f : Nat → Int} (n : Nat) (h : ∀ k, k < n → 0 ≤ f k) : 0 ≤ smZ f n := by
  have := smZ_le (f := fun _ => 0) (g := f) n h
  rw [smZ_none n (fun _ _ => rfl)] at this
  exact this
theorem smZ_swap (F : Nat → Nat → Int) (m : Nat) : ∀ n : Nat, smZ (fun i => smZ (fun j => F i j) m) n = smZ (fun j => smZ (fun i => F i j) n) m
  | 0 => (smZ_none m fun _ _ => rfl).symm
  | n + 1 => by
    rw [smZ, smZ_swap F m n, ← smZ_add]
    rfl
/-- Where f is other than 0 at one place at most. -/
theorem smZ_one {f : Nat → Int} {q : Nat} : ∀ (n : Nat), q < n → (∀ k, k < n → k ≠ q → f k = 0) → smZ f n = f q
  | 0, h, _ => by omega
  | n + 1, h, hf => by
    rw [smZ]
    by_cases e : q = n
    · subst e
      rw [smZ_none q (fun k hk => hf k (by omega) (by omega))]; omega
    · rw [smZ_one n (by omega) (fun k hk hne => hf k (by omega) hne), hf n (by omega) (fun x => e x.symm)]; omega

/-- The place of a block's parent. -/
def parW (t : List Nd) (k : Nat) : Int := match t[k]? with
  | some n => n.2.2
  | none => -1
theorem parW_at {t : List Nd} {k : Nat} {n : Nd} (h : t[k]? = some n) : parW t k = n.2.2 := by unfold parW; rw [h]
theorem Good.parW_lt {t : List Nd} {most : Int} (G : Good t most) (k : Nat) : parW t k < (k : Int) := by
  unfold parW
  cases h : t[k]? with
  | none => simp only; omega
  | some n => exact G.parent_lt h
theorem Good.parW_ge {t : List Nd} {most : Int} (G : Good t most) (k : Nat) : -1 ≤ parW t k := by
  unfold parW
  cases h : t[k]? with
  | none => simp
  | some n =>
    cases k with
    | zero => simp only; rw [G.fst n h]; decide
    | succ k => obtain ⟨p, m, h1, _⟩ := G.par k n h; simp only; omega
theorem Good.parW_pos {t : List Nd} {most : Int} (G : Good t most) {k : Nat} (h0 : 0 < k) (hk : k < t.length) : ∃ p : Nat, parW t k = (p : Int) ∧ p < k := by
  obtain ⟨j, rfl⟩ : ∃ j, k = j + 1 := ⟨k - 1, by omega⟩
  have h := List.getElem?_eq_getElem hk
  obtain ⟨p, m, h1, h2, _⟩ := G.par j _ h
  exact ⟨p, by rw [parW_at h, h1], by omega⟩
theorem Good.parW_zero {t : List Nd} {most : Int} (G : Good t most) : parW t 0 = -1 := by
  obtain ⟨n, h⟩ : ∃ n, t[0]? = some n := ⟨t[0]'G.pos, List.getElem?_eq_getElem G.pos⟩
  rw [parW_at h, G.fst _ h]
theorem parW_grow {t u : List Nd} (h : t <+: u) {k : Nat} (hk : k < t.length) : parW u k = parW t k := by
  obtain ⟨r, rfl⟩ := h
  unfold parW
  rw [List.getElem?_append_left hk]

/-- Block i is block j, or stands above it. -/
def abN (t : List Nd) : Nat → Nat → Nat → Bool
  | 0, _, _ => false
  | f + 1, i, j => i == j || (if 0 ≤ parW t j then abN t f i (parW t j).toNat else false)
def abW (t : List Nd) (i j : Nat) : Bool := abN t (j + 1) i j
theorem Good.abN_more {t : List Nd} {most : Int} (G : Good t most) : ∀ (f g i j : Nat), j < f → j < g → abN t f i j = abN t g i j
  | 0, _, _, _, h, _ => by omega
  | _, 0, _, _, _, h => by omega
  | f + 1, g + 1, i, j, h1, h2 => by
    rw [abN, abN]
    split
    · have := G.parW_lt j
      rw [Good.abN_more G f g i (parW t j).toNat (by omega) (by omega)]
    · rfl
theorem Good.abW_eq {t : List Nd} {most : Int} (G : Good t most) (i j : Nat) : abW t i j = (i == j || (if 0 ≤ parW t j then abW t i (parW t j).toNat else false)) := by
  unfold abW
  rw [abN]
  split
  · have := G.parW_lt j
    rw [G.abN_more j ((parW t j).toNat + 1) i (parW t j).toNat (by omega) (by omega)]
  · rfl
theorem Good.abW_self {t : List Nd} {most : Int} (G : Good t most) (i : Nat) : abW t i i = true := by rw [G.abW_eq]; simp
theorem Good.abW_le {t : List Nd} {most : Int} (G : Good t most) : ∀ (N i j : Nat), j < N → abW t i j = true → i ≤ j
  | 0, _, _, h, _ => by omega
  | N + 1, i, j, h, ha => by
    rw [G.abW_eq] at ha
    have h1 := G.parW_lt j
    by_cases e : i = j
    · omega
    · have e' : (i == j) = false := by simpa using e
      rw [e', Bool.false_or] at ha
      split at ha
      · have := Good.abW_le G N i (parW t j).toNat (by omega) ha; omega
      · cases ha
theorem Good.abW_up {t : List Nd} {most : Int} (G : Good t most) {p k : Nat} (hp : parW t k = (p : Int)) : ∀ (N j : Nat), j < N → abW t k j = true → abW t p j = true
  | 0, _, h, _ => by omega
  | N + 1, j, h, ha => by
    rw [G.abW_eq] at ha
    have h1 := G.parW_lt j
    by_cases e : k = j
    · subst e
      rw [G.abW_eq, hp, if_pos (by omega), Int.toNat_natCast, G.abW_self]; simp
    · have e' : (k == j) = false := by simpa using e
      rw [e', Bool.false_or] at ha
      split at ha
      · rename_i h0
        have := Good.abW_up G hp N (parW t j).toNat (by omega) ha
        rw [G.abW_eq, if_pos h0, this]; simp
      · cases ha
theorem Good.abW_root {t : List Nd} {most : Int} (G : Good t most) : ∀ (N j : Nat), j < N → j < t.length → abW t 0 j = true
  | 0, _, h, _ => by omega
  | N + 1, j, h, hl => by
    rw [G.abW_eq]
    by_cases e : 0 = j
    · subst e; simp
    · obtain ⟨p, h1, h2⟩ := G.parW_pos (show 0 < j by omega) hl
      rw [h1, if_pos (by omega), Int.toNat_natCast, Good.abW_root G N p (by omega) (by omega)]; simp
theorem abN_grow {t u : List Nd} (h : t <+: u) : ∀ (f i j : Nat), j < t.length → (∀ k, k < t.length → parW t k < (k : Int)) → abN u f i j = abN t f i j
  | 0, _, _, _, _ => rfl
  | f + 1, i, j, hj, hp => by
    rw [abN, abN, parW_grow h hj]
    split
    · have := hp j hj
      rw [abN_grow h f i (parW t j).toNat (by omega) hp]
    · rfl
theorem Good.abW_grow {t u : List Nd} {most : Int} (G : Good t most) (h : t <+: u) (i : Nat) {j : Nat} (hj : j < t.length) : abW u i j = abW t i j := abN_grow h _ i j hj fun k _ => G.parW_lt k

/-- A block's own weight. -/
def owZ (own : List Int) (k : Nat) : Int := own[k]?.getD 0
theorem owZ_at {own : List Int} {k : Nat} {x : Int} (h : own[k]? = some x) : owZ own k = x := by unfold owZ; rw [h]; rfl
theorem owZ_out {own : List Int} {k : Nat} (h : own.length ≤ k) : owZ own k = 0 := by unfold owZ; rw [List.getElem?_eq_none h]; rfl
/-- What a block weighs. -/
def wtW (t : List Nd) (own : List Int) (i : Nat) : Int := smZ (fun j => if abW t i j = true then owZ own j else 0) own.length
def totW (own : List Int) : Int := smZ (owZ own) own.length
/-- Own weights that can be. -/
structure OwnG (own : List Int) : Prop where
  pos : ∀ x ∈ own, 0 ≤ x
  tot : totW own < 4611686018427387904
theorem OwnG.owZ {own : List Int} (h : OwnG own) (k : Nat) : 0 ≤ owZ own k := by
  unfold Go.Proofs.Ytjodhagjfjgbcaa.owZ
  cases hk : own[k]? with
  | none => simp
  | some x => simp only [Option.getD_some]; exact h.pos x (List.mem_of_getElem? hk)

/-- The sum over a block's children of what stands below them. -/
theorem Good.kids_sum {t : List Nd} {most : Int} (G : Good t most) (N : Nat) (i : Nat) (o : Int) : ∀ (M j : Nat), j < M → j < N →
    (if abW t i j = true then o else 0) = (if i = j then o else 0) + smZ (fun k => if parW t k = (i : Int) ∧ abW t k j = true then o else 0) N
  | 0, _, h, _ => by omega
  | M + 1, j, h, hN => by
    have hlt := G.parW_lt j
    -- the children at or above j: j itself, if i is its parent, and those above its parent
    have hk : ∀ k, (if parW t k = (i : Int) ∧ abW t k j = true then o else 0) = (if k = j ∧ parW t k = (i : Int) then o else 0) + (if 0 ≤ parW t j then (if parW t k = (i : Int) ∧ abW t k (parW t j).toNat = true then o else 0) else 0) := fun k => by
      rw [G.abW_eq k j]
      by_cases e : k = j
      · subst e
        have h0 : 0 ≤ parW t k → abW t k (parW t k).toNat = false := fun h0 => by
          cases ha : abW t k (parW t k).toNat with
          | false => rfl
          | true => have := G.abW_le _ _ _ (Nat.lt_succ_self _) ha; omega
        by_cases h1 : parW t k = (i : Int)
        · rw [if_pos ⟨h1, by simp⟩, if_pos ⟨rfl, h1⟩, if_pos (by omega), if_neg (by rw [h0 (by omega)]; simp)]; omega
        · rw [if_neg (fun x => h1 x.1), if_neg (fun x => h1 x.2)]
          split
          · rw [if_neg (fun x => h1 x.1)]; rfl
          · rfl
      · have e' : (k == j) = false := by simpa using e
        rw [e', Bool.false_or, if_neg (c := k = j ∧ parW t k = (i : Int)) (fun x => e x.1)]
        by_cases h0 : 0 ≤ parW t j
        · simp only [if_pos h0]; omega
        · simp only [if_neg h0]; rw [if_neg (fun x => by cases x.2)]; rfl
    rw [smZ_congr N (fun k _ => hk k), smZ_add, smZ_one (q := j) (f := fun k => if k = j ∧ parW t k = (i : Int) then o else 0) N hN (fun k _ hne => if_neg fun x => hne x.1)]
    rw [G.abW_eq i j]
    by_cases h0 : 0 ≤ parW t j
    · have ih := Good.kids_sum G N i o M (parW t j).toNat (by omega) (by omega)
      rw [if_pos h0]
      simp only [if_pos h0]
      by_cases e : i = j
      · subst e
        have ha : abW t i (parW t i).toNat = false := by
          cases ha : abW t i (parW t i).toNat with
          | false => rfl
          | true => have := G.abW_le _ _ _ (Nat.lt_succ_self _) ha; omega
        rw [ha, if_neg (by simp), if_neg (by omega)] at ih
        rw [if_pos (by simp), if_pos rfl, if_neg (fun x => by have := x.2; omega)]; omega
      · have e' : (i == j) = false := by simpa using e
        rw [e', Bool.false_or, if_neg e]
        rw [ih]
        by_cases h1 : parW t j = (i : Int)
        · rw [if_pos (by omega), if_pos (by simp [h1])]; omega
        · rw [if_neg (by omega), if_neg (by simp [h1])]; omega
    · have h2 : ¬ (True ∧ parW t j = (i : Int)) := fun x => by have := x.2; omega
      simp only [if_neg h0, if_neg h2, Bool.or_false]
      rw [smZ_none N (fun _ _ => rfl)]
      by_cases e : i = j
      · rw [if_pos (by simpa using e), if_pos e]; omega
      · rw [if_neg (by simpa using e), if_neg e]; rfl

/-- A block weighs its own weight, and what its children weigh. -/
theorem Good.wtW_eq {t : List Nd} {most : Int} (G : Good t most) (own : List Int) (i : Nat) : wtW t own i = owZ own i + smZ (fun k => if parW t k = (i : Int) then wtW t own k else 0) own.length := by
  unfold wtW
  rw [smZ_congr (f := fun j => if abW t i j = true then owZ own j else 0) own.length (fun j hj => G.kids_sum own.length i (owZ own j) (j + 1) j (by omega) hj), smZ_add]
  congr 1
  · by_cases h : i < own.length
    · rw [smZ_one (q := i) own.length h (fun k _ hne => if_neg fun e => hne e.symm), if_pos rfl]
    · rw [smZ_none own.length (fun k hk => if_neg (by omega)), owZ_out (by omega)]
  · rw [smZ_swap (fun j k => if parW t k = (i : Int) ∧ abW t k j = true then owZ own j else 0)]
    refine smZ_congr _ fun k _ => ?_
    by_cases h : parW t k = (i : Int)
    · rw [if_pos h]
      refine smZ_congr _ fun j _ => ?_
      simp only [h, true_and]
    · rw [if_neg h]
      exact smZ_none _ fun j _ => if_neg fun x => h x.1
theorem wtW_nonneg {own : List Int} (h : OwnG own) (t : List Nd) (i : Nat) : 0 ≤ wtW t own i := smZ_nonneg _ fun j _ => by
  have := h.owZ j
  split <;> omega
theorem wtW_le {own : List Int} (h : OwnG own) (t : List Nd) (i : Nat) : wtW t own i ≤ totW own := smZ_le _ fun j _ => by
  have := h.owZ j
  split <;> omega
theorem wtW_lt {own : List Int} (h : OwnG own) (t : List Nd) (i : Nat) : wtW t own i < 4611686018427387904 := by
  have := wtW_le h t i
  have := h.tot
  omega
theorem Good.wtW_own {t : List Nd} {most : Int} (G : Good t most) {own : List Int} (h : OwnG own) (i : Nat) : owZ own i ≤ wtW t own i := by
  rw [G.wtW_eq]
  have := smZ_nonneg (f := fun k => if parW t k = (i : Int) then wtW t own k else 0) own.length (fun k _ => by
    have := wtW_nonneg h t k
    split <;> omega)
  omega
theorem Good.wtW_kid {t : List Nd} {most : Int} (G : Good t most) {own : List Int} (h : OwnG own) {k i : Nat} (hp : parW t k = (i : Int)) : wtW t own k ≤ wtW t own i := smZ_le _ fun j _ => by
  have := h.owZ j
  by_cases ha : abW t k j = true
  · rw [if_pos ha, if_pos (G.abW_up hp (j + 1) j (by omega) ha)]; omega
  · rw [if_neg ha]; split <;> omega
theorem Good.wtW_root {t : List Nd} {most : Int} (G : Good t most) {own : List Int} (h : own.length ≤ t.length) : wtW t own 0 = totW own := smZ_congr _ fun j hj => if_pos (G.abW_root (j + 1) j (by omega) (by omega))
theorem wtW_zero {t : List Nd} {own : List Int} (h : ∀ x ∈ own, x = 0) (i : Nat) : wtW t own i = 0 := smZ_none _ fun j _ => by
  have : owZ own j = 0 := by
    unfold owZ
    cases hk : own[j]? with
    | none => rfl
    | some x => simp only [Option.getD_some]; exact h x (List.mem_of_getElem? hk)
  split
  · exact this
  · rfl
theorem Good.wtW_grow {t u : List Nd} {most : Int} (G : Good t most) (h : t <+: u) {own : List Int} (ho : own.length ≤ t.length) (i : Nat) : wtW u own i = wtW t own i := smZ_congr _ fun j hj => by rw [G.abW_grow h i (show j < t.length by omega)]
theorem owZ_set {own : List Int} {r : Nat} (hr : r < own.length) (x : Int) (k : Nat) : owZ (own.set r x) k = if k = r then x else owZ own k := by
  unfold owZ
  by_cases e : r = k
  · subst e; rw [List.getElem?_set_self hr, if_pos rfl]; rfl
  · rw [List.getElem?_set_ne e, if_neg (fun h => e h.symm)]
/-- So much more of a block is so much more of all above it. -/
theorem wtW_set {t : List Nd} {own : List Int} {r : Nat} (hr : r < own.length) (m : Int) (i : Nat) : wtW t (own.set r (owZ own r + m)) i = wtW t own i + if abW t i r = true then m else 0 := by
  unfold wtW
  rw [List.length_set]
  have hs : ∀ j, (if abW t i j = true then owZ (own.set r (owZ own r + m)) j else 0) = (if abW t i j = true then owZ own j else 0) + (if j = r then (if abW t i r = true then m else 0) else 0) := fun j => by
    rw [owZ_set hr]
    by_cases e : j = r
    · subst e; rw [if_pos rfl, if_pos rfl]; split <;> omega
    · rw [if_neg e, if_neg e]; omega
  rw [smZ_congr _ (fun j _ => hs j), smZ_add, smZ_one (q := r) (f := fun j => if j = r then (if abW t i r = true then m else 0) else 0) _ hr (fun k _ hne => if_neg hne), if_pos rfl]
theorem totW_set {own : List Int} {r : Nat} (hr : r < own.length) (m : Int) : totW (own.set r (owZ own r + m)) = totW own + m := by
  unfold totW
  rw [List.length_set]
  rw [smZ_congr (g := fun j => owZ own j + (if j = r then m else 0)) _ (fun j _ => by
    rw [owZ_set hr]
    by_cases e : j = r
    · subst e; rw [if_pos rfl, if_pos rfl]
    · rw [if_neg e, if_neg e]; omega), smZ_add, smZ_one (q := r) (f := fun j => if j = r then m else 0) _ hr (fun k _ hne => if_neg hne), if_pos rfl]
theorem totW_append (a : List Int) (x : Int) : totW (a ++ [x]) = totW a + x := by
  unfold totW
  rw [List.length_append, List.length_singleton, smZ, smZ_congr (g := owZ a) _ (fun k hk => by unfold owZ; rw [List.getElem?_append_left hk])]
  congr 1
  unfold owZ
  rw [List.getElem?_append_right (Nat.le_refl _), Nat.sub_self]; rfl
theorem totW_nil : totW [] = 0 := rfl
theorem totW_zeros (a : List Int) : ∀ k : Nat, totW (a ++ List.replicate k 0) = totW a
  | 0 => by rw [List.replicate_zero, List.append_nil]
  | k + 1 => by rw [List.replicate_succ', ← List.append_assoc, totW_append, totW_zeros a k]; omega
theorem OwnG.zeros {own : List Int} (h : OwnG own) (k : Nat) : OwnG (own ++ List.replicate k 0) :=
  ⟨fun x hx => by
    rw [List.mem_append] at hx
    rcases hx with hx | hx
    · exact h.pos x hx
    · rw [List.mem_replicate] at hx; omega, by rw [totW_zeros]; exact h.tot⟩
theorem OwnG.none : OwnG [] := ⟨fun x h => (nomatch h), (by rw [totW_nil]; decide)⟩
theorem OwnG.lt {own : List Int} (h : OwnG own) : ∀ x ∈ own, x < 4611686018427387904 := fun x hx => by
  obtain ⟨i, hi, he⟩ := List.getElem_of_mem hx
  have hw := smZ_le (f := fun j => if j = i then x else 0) (g := Go.Proofs.Ytjodhagjfjgbcaa.owZ own) own.length (fun j hj => by
    have := h.owZ j
    by_cases e : j = i
    · subst e; rw [if_pos rfl, owZ_at (List.getElem?_eq_getElem hi), he]; exact Int.le_refl _
    · rw [if_neg e]; exact this)
  rw [smZ_one (q := i) _ hi (fun k _ hne => if_neg hne), if_pos rfl] at hw
  have := h.tot
  unfold totW at this
  omega
end Go.Proofs.Ytjodhagjfjgbcaa
