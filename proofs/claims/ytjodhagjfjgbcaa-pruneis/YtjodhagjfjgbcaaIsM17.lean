/-
  The texts Cut0, CutMove, CutTree, MoreApp, one behind the other.
-/
import Derived.Test.YtjodhagjfjgbcaaIsM16
import Derived.Test.YtjodhagjfjgbcaaIsM9
import Derived.Test.YtjodhagjfjgbcaaIsM4
import Derived.Test.YtjodhagjfjgbcaaIsM15
/-
  What is left of a tree below a block, plainly: the blocks at or below it, in their order; places, parents, what stands above what.
-/
namespace Go.Proofs.Ytjodhagjfjgbcaa
open Go

/-- A block's slot. -/
def slW (t : List Nd) (k : Nat) : Int := match t[k]? with
  | some n => n.2.1
  | none => 0
theorem slW_at {t : List Nd} {k : Nat} {n : Nd} (h : t[k]? = some n) : slW t k = n.2.1 := by unfold slW; rw [h]
theorem abW_pos {t : List Nd} {most : Int} (G : Good t most) {p j : Nat} (hne : j ≠ p) (h : abW t p j = true) (hj : j < t.length) : ∃ q : Nat, parW t j = (q : Int) ∧ q < j ∧ abW t p q = true := by
  have h0 : j ≠ 0 := fun e => by
    have := G.abW_le (j + 1) p j (by omega) h
    omega
  obtain ⟨q, hq, hlt⟩ := G.parW_pos (show 0 < j by omega) hj
  rw [G.abW_eq, hq, if_pos (by omega), Int.toNat_natCast] at h
  have e : (p == j) = false := by simpa using fun e : p = j => hne e.symm
  rw [e, Bool.false_or] at h
  exact ⟨q, hq, hlt, h⟩
theorem Good.abW_kid {t : List Nd} {most : Int} (G : Good t most) {p q j : Nat} (hq : parW t j = (q : Int)) (h : abW t p q = true) : abW t p j = true := by
  rw [G.abW_eq, hq, if_pos (by omega), Int.toNat_natCast, h]; simp
theorem Good.abW_trans {t : List Nd} {most : Int} (G : Good t most) {p i : Nat} (hp : abW t p i = true) : ∀ (N j : Nat), j < N → abW t i j = true → abW t p j = true
  | 0, _, h, _ => by omega
  | N + 1, j, h, ha => by
    by_cases e : i = j
    · subst e; exact hp
    · rw [G.abW_eq] at ha
      have e' : (i == j) = false := by simpa using e
      rw [e', Bool.false_or] at ha
      have hlt := G.parW_lt j
      split at ha
      · rename_i h0
        have h1 := Good.abW_trans G hp N (parW t j).toNat (by omega) ha
        rw [G.abW_eq, if_pos h0, h1]; simp
      · cases ha
theorem Good.abW_tri {t : List Nd} {most : Int} (G : Good t most) : ∀ (N a b h : Nat), h < N → abW t a h = true → abW t b h = true → abW t a b = true ∨ abW t b a = true
  | 0, _, _, _, hh, _, _ => by omega
  | N + 1, a, b, h, hh, ha, hb => by
    by_cases ea : a = h
    · subst ea; exact .inr hb
    · by_cases eb : b = h
      · subst eb; exact .inl ha
      · rw [G.abW_eq] at ha hb
        have e1 : (a == h) = false := by simpa using ea
        have e2 : (b == h) = false := by simpa using eb
        rw [e1, Bool.false_or] at ha
        rw [e2, Bool.false_or] at hb
        have hlt := G.parW_lt h
        split at ha
        · rename_i h0
          rw [if_pos h0] at hb
          exact Good.abW_tri G N a b (parW t h).toNat (by omega) ha hb
        · cases ha

/-- How many of the places below n are left. -/
def nuN (t : List Nd) (p : Nat) : Nat → Nat
  | 0 => 0
  | n + 1 => nuN t p n + (if abW t p n = true then 1 else 0)
/-- Where a block's parent is then. -/
def cutP (t : List Nd) (p j : Nat) : Int := if j = p then -1 else (nuN t p (parW t j).toNat : Int)
def cutE (t : List Nd) (p j : Nat) : Nd := (pnm t (j : Int), slW t j, cutP t p j)
def cutN (t : List Nd) (p : Nat) : Nat → List Nd
  | 0 => []
  | n + 1 => cutN t p n ++ (if abW t p n = true then [cutE t p n] else [])
/-- What is left below the block at a place. -/
def cutT (t : List Nd) (p : Nat) : List Nd := cutN t p t.length
def cuoN (t : List Nd) (own : List Int) (p : Nat) : Nat → List Int
  | 0 => []
  | n + 1 => cuoN t own p n ++ (if abW t p n = true then [owZ own n] else [])
/-- .. and their own weights. -/
def cutO (t : List Nd) (own : List Int) (p : Nat) : List Int := cuoN t own p t.length
section
variable {t : List Nd} {most : Int} {own : List Int} {p : Nat}
theorem nuN_hit {n : Nat} (h : abW t p n = true) : nuN t p (n + 1) = nuN t p n + 1 := by rw [nuN, if_pos h]
theorem nuN_miss {n : Nat} (h : ¬ abW t p n = true) : nuN t p (n + 1) = nuN t p n := by rw [nuN, if_neg h]; rfl
theorem cutN_hit {n : Nat} (h : abW t p n = true) : cutN t p (n + 1) = cutN t p n ++ [cutE t p n] := by rw [cutN, if_pos h]
theorem cutN_miss {n : Nat} (h : ¬ abW t p n = true) : cutN t p (n + 1) = cutN t p n := by rw [cutN, if_neg h, List.append_nil]
theorem cuoN_hit {n : Nat} (h : abW t p n = true) : cuoN t own p (n + 1) = cuoN t own p n ++ [owZ own n] := by rw [cuoN, if_pos h]
theorem cuoN_miss {n : Nat} (h : ¬ abW t p n = true) : cuoN t own p (n + 1) = cuoN t own p n := by rw [cuoN, if_neg h, List.append_nil]
theorem cutN_length (t : List Nd) (p : Nat) : ∀ n : Nat, (cutN t p n).length = nuN t p n
  | 0 => rfl
  | n + 1 => by
    by_cases h : abW t p n = true
    · rw [cutN_hit h, nuN_hit h, List.length_append, cutN_length t p n]; rfl
    · rw [cutN_miss h, nuN_miss h, cutN_length t p n]
theorem cuoN_length (t : List Nd) (own : List Int) (p : Nat) : ∀ n : Nat, (cuoN t own p n).length = nuN t p n
  | 0 => rfl
  | n + 1 => by
    by_cases h : abW t p n = true
    · rw [cuoN_hit h, nuN_hit h, List.length_append, cuoN_length t own p n]; rfl
    · rw [cuoN_miss h, nuN_miss h, cuoN_length t own p n]
theorem cutT_length (t : List Nd) (p : Nat) : (cutT t p).length = nuN t p t.length := cutN_length t p _
theorem cutO_length (t : List Nd) (own : List Int) (p : Nat) : (cutO t own p).length = (cutT t p).length := by rw [cutT_length]; exact cuoN_length t own p _
theorem nuN_mono (t : List Nd) (p m : Nat) : ∀ k : Nat, nuN t p m ≤ nuN t p (m + k)
  | 0 => Nat.le_refl _
  | k + 1 => by
    have := nuN_mono t p m k
    rw [← Nat.add_assoc, nuN]
    omega
theorem nuN_le (t : List Nd) (p : Nat) : ∀ n : Nat, nuN t p n ≤ n
  | 0 => Nat.le_refl _
  | n + 1 => by
    have := nuN_le t p n
    rw [nuN]
    split <;> omega
theorem nuN_lt {j n : Nat} (h : abW t p j = true) (hj : j < n) : nuN t p j < nuN t p n := by
  have h1 := nuN_mono t p (j + 1) (n - (j + 1))
  rw [show j + 1 + (n - (j + 1)) = n by omega, nuN_hit h] at h1
  omega
theorem nuN_inj {i j : Nat} (hi : abW t p i = true) (hj : abW t p j = true) (e : nuN t p i = nuN t p j) : i = j := by
  rcases Nat.lt_trichotomy i j with h | h | h
  · have := nuN_lt hi h; omega
  · exact h
  · have := nuN_lt hj h; omega
theorem Good.nuN_zero (G : Good t most) : ∀ n : Nat, n ≤ p → nuN t p n = 0
  | 0, _ => rfl
  | n + 1, h => by
    rw [nuN_miss (fun ha => by have := G.abW_le (n + 1) p n (by omega) ha; omega)]
    exact Good.nuN_zero G n (by omega)
theorem cutN_at {j : Nat} (h : abW t p j = true) : ∀ n : Nat, j < n → (cutN t p n)[nuN t p j]? = some (cutE t p j)
  | 0, hj => by omega
  | n + 1, hj => by
    by_cases e : j = n
    · subst e
      rw [cutN_hit h, List.getElem?_append_right (by rw [cutN_length]; exact Nat.le_refl _), cutN_length, Nat.sub_self]; rfl
    · have ih := cutN_at h n (by omega)
      have hl := (List.getElem?_eq_some_iff.1 ih).1
      rw [cutN, List.getElem?_append_left hl]
      exact ih
theorem cuoN_at (own : List Int) {j : Nat} (h : abW t p j = true) : ∀ n : Nat, j < n → (cuoN t own p n)[nuN t p j]? = some (owZ own j)
  | 0, hj => by omega
  | n + 1, hj => by
    by_cases e : j = n
    · subst e
      rw [cuoN_hit h, List.getElem?_append_right (by rw [cuoN_length]; exact Nat.le_refl _), cuoN_length, Nat.sub_self]; rfl
    · have ih := cuoN_at own h n (by omega)
      have hl := (List.getElem?_eq_some_iff.1 ih).1
      rw [cuoN, List.getElem?_append_left hl]
      exact ih
theorem nuN_onto (t : List Nd) (p : Nat) : ∀ (n i : Nat), i < nuN t p n → ∃ j : Nat, j < n ∧ abW t p j = true ∧ nuN t p j = i
  | 0, i, h => by simp [nuN] at h
  | n + 1, i, h => by
    by_cases ha : abW t p n = true
    · rw [nuN_hit ha] at h
      by_cases e : i = nuN t p n
      · exact ⟨n, by omega, ha, e.symm⟩
      · obtain ⟨j, h1, h2, h3⟩ := nuN_onto t p n i (by omega)
        exact ⟨j, by omega, h2, h3⟩
    · rw [nuN_miss ha] at h
      obtain ⟨j, h1, h2, h3⟩ := nuN_onto t p n i h
      exact ⟨j, by omega, h2, h3⟩
theorem cutN_mem {n : Nat} {r : List UInt8} : r ∈ rs (cutN t p n) ↔ ∃ k, k < n ∧ abW t p k = true ∧ pnm t (k : Int) = r := by
  constructor
  · intro h
    obtain ⟨x, hx, rfl⟩ := List.mem_map.1 h
    obtain ⟨i, hi, he⟩ := List.getElem_of_mem hx
    have hi' := hi
    rw [cutN_length] at hi'
    obtain ⟨j, h1, h2, h3⟩ := nuN_onto t p n i hi'
    have h4 := cutN_at h2 n h1
    rw [h3, List.getElem?_eq_getElem hi, he] at h4
    exact ⟨j, h1, h2, by cases h4; rfl⟩
  · rintro ⟨k, h1, h2, rfl⟩
    exact mem_rs (cutN_at h2 n h1)
theorem cutN_start (G : Good t most) : cutN t p p = [] := List.eq_nil_of_length_eq_zero (by rw [cutN_length, G.nuN_zero p (Nat.le_refl _)])
theorem cutN_first (G : Good t most) : cutN t p (p + 1) = [(pnm t (p : Int), slW t p, -1)] := by
  rw [cutN_hit (G.abW_self p), cutN_start G, List.nil_append, cutE, cutP, if_pos rfl]
theorem Good.at {k : Nat} (_G : Good t most) (h : k < t.length) : ∃ x, t[k]? = some x ∧ pnm t (k : Int) = x.1 ∧ slW t k = x.2.1 ∧ parW t k = x.2.2 := by
  have hx := List.getElem?_eq_getElem h
  exact ⟨_, hx, pnm_at hx, slW_at hx, parW_at hx⟩
theorem Good.pnm_inj (G : Good t most) {i j : Nat} (hi : i < t.length) (hj : j < t.length) (h : pnm t (i : Int) = pnm t (j : Int)) : i = j := Classical.byContradiction fun e => G.pnm_ne hi hj e h
/-- A block that is left has a parent that is, but for the first. -/
theorem Good.cut_next (G : Good t most) {n : Nat} (hp : p < n) (hn : n < t.length) (ha : abW t p n = true) (hG : Good (cutN t p n) most) : ∃ q : Nat, parW t n = (q : Int) ∧ q < n ∧ abW t p q = true ∧ plc (cutN t p n) (pnm t (n : Int)) = -1 ∧ (cutN t p n)[nuN t p q]? = some (cutE t p q) ∧ slW t q < slW t n ∧ slW t n ≤ 1073741824 ∧ ((cutN t p n).length : Int) < most ∧ cutE t p n = (pnm t (n : Int), slW t n, (nuN t p q : Int)) ∧ plc (cutN t p n) (pnm t (q : Int)) = (nuN t p q : Int) := by
  obtain ⟨q, hq, hqn, haq⟩ := abW_pos G (by omega) ha hn
  obtain ⟨x, hx, h1, h2, h3⟩ := G.at hn
  have hs : slW t q < slW t n := by
    obtain ⟨j, rfl⟩ : ∃ j, n = j + 1 := ⟨n - 1, by omega⟩
    obtain ⟨p', m, e1, _, e2, e3⟩ := G.par j x hx
    obtain rfl : q = p' := by rw [hq] at h3; omega
    rw [slW_at e2, h2]; exact e3
  have hat := cutN_at haq n hqn
  refine ⟨q, hq, hqn, haq, plc_none fun hm => ?_, hat, hs, by rw [h2]; exact (G.slot x (List.mem_of_getElem? hx)).2, ?_, ?_, hG.plc_at hat⟩
  · obtain ⟨k, e1, e2, e3⟩ := cutN_mem.1 hm
    have := G.pnm_inj (show k < t.length by omega) hn e3
    omega
  · have := nuN_le t p n
    have := G.room
    rw [cutN_length]; omega
  · rw [cutE, cutP, if_neg (by omega), hq, Int.toNat_natCast]
theorem Good.cutN_good (G : Good t most) : ∀ n : Nat, p < n → n ≤ t.length → Good (cutN t p n) most
  | 0, h, _ => by omega
  | n + 1, h, hn => by
    by_cases e : p = n
    · subst e
      obtain ⟨x, hx, h1, h2, h3⟩ := G.at (show p < t.length by omega)
      have hs := G.slot x (List.mem_of_getElem? hx)
      rw [cutN_first G]
      exact Good.one (G.pnm_len _) (by rw [h2]; exact hs.1) (by rw [h2]; exact hs.2) G.most1 G.most256
    · have ih := Good.cutN_good G n (by omega) (by omega)
      by_cases ha : abW t p n = true
      · obtain ⟨q, hq, hqn, haq, e1, e2, e3, e4, e5, e6, _⟩ := G.cut_next (show p < n by omega) (by omega) ha ih
        rw [cutN_hit ha, e6]
        exact ih.add (G.pnm_len _) e1 e2 e3 e4 e5
      · rw [cutN_miss ha]; exact ih
theorem Good.cut (G : Good t most) (hp : p < t.length) : Good (cutT t p) most := G.cutN_good _ hp (Nat.le_refl _)
theorem Good.cutN_plc (G : Good t most) {n k : Nat} (hp : p < n) (hn : n ≤ t.length) (hk : k < t.length) : plc (cutN t p n) (pnm t (k : Int)) = if abW t p k = true ∧ k < n then (nuN t p k : Int) else -1 := by
  by_cases h : abW t p k = true ∧ k < n
  · rw [if_pos h]
    exact (G.cutN_good n hp hn).plc_at (cutN_at h.1 n h.2)
  · rw [if_neg h]
    refine plc_none fun hm => ?_
    obtain ⟨j, e1, e2, e3⟩ := cutN_mem.1 hm
    have := G.pnm_inj (show j < t.length by omega) hk e3
    subst this
    exact h ⟨e2, e1⟩
theorem Good.cut_plc (G : Good t most) (hp : p < t.length) {k : Nat} (hk : k < t.length) : plc (cutT t p) (pnm t (k : Int)) = if abW t p k = true then (nuN t p k : Int) else -1 := by
  unfold cutT
  rw [G.cutN_plc hp (Nat.le_refl _) hk]
  by_cases h : abW t p k = true
  · rw [if_pos h, if_pos ⟨h, hk⟩]
  · rw [if_neg h, if_neg (fun x => h x.1)]
theorem cut_at {j : Nat} (h : abW t p j = true) (hj : j < t.length) : (cutT t p)[nuN t p j]? = some (cutE t p j) := cutN_at h _ hj
theorem cut_pnm {j : Nat} (h : abW t p j = true) (hj : j < t.length) : pnm (cutT t p) (nuN t p j : Int) = pnm t (j : Int) := pnm_at (cut_at h hj)
theorem cut_par {j : Nat} (h : abW t p j = true) (hj : j < t.length) : parW (cutT t p) (nuN t p j) = cutP t p j := parW_at (cut_at h hj)
theorem nuN_lt_cut {j : Nat} (h : abW t p j = true) (hj : j < t.length) : nuN t p j < (cutT t p).length := by rw [cutT_length]; exact nuN_lt h hj
theorem cut_owZ (own : List Int) {j : Nat} (h : abW t p j = true) (hj : j < t.length) : owZ (cutO t own p) (nuN t p j) = owZ own j := owZ_at (cuoN_at own h _ hj)
theorem Good.cut_ab (G : Good t most) (hp : p < t.length) {i : Nat} (hi : abW t p i = true) : ∀ (N j : Nat), j < N → j < t.length → abW t p j = true → abW (cutT t p) (nuN t p i) (nuN t p j) = abW t i j
  | 0, _, h, _, _ => by omega
  | N + 1, j, h, hj, ha => by
    have he : (nuN t p i == nuN t p j) = (i == j) := by
      by_cases e : i = j
      · subst e; simp
      · have h1 : nuN t p i ≠ nuN t p j := fun x => e (nuN_inj hi ha x)
        rw [beq_eq_false_iff_ne.2 e, beq_eq_false_iff_ne.2 h1]
    rw [(G.cut hp).abW_eq, cut_par ha hj, he, G.abW_eq i j, cutP]
    by_cases e : j = p
    · subst e
      rw [if_pos rfl, if_neg (by decide), Bool.or_false]
      by_cases e2 : i = j
      · subst e2; simp
      · have h1 : ∀ x : Nat, x < j → abW t i x = false := fun x hx => by
          cases hc : abW t i x with
          | false => rfl
          | true =>
            have h2 := G.abW_le (x + 1) i x (by omega) hc
            have h3 := G.abW_le (i + 1) j i (by omega) hi
            omega
        have hlt := G.parW_lt j
        split
        · rw [h1 _ (by omega)]; simp
        · simp
    · obtain ⟨q, hq, hqj, haq⟩ := abW_pos G e ha hj
      rw [if_neg e, hq, Int.toNat_natCast, if_pos (by omega), Int.toNat_natCast, if_pos (by omega), Good.cut_ab G hp hi N q (by omega) (by omega) haq]
/-- A sum over what is left. -/
theorem cut_sum (f : Nat → Int) : ∀ n : Nat, smZ f (nuN t p n) = smZ (fun j => if abW t p j = true then f (nuN t p j) else 0) n
  | 0 => rfl
  | n + 1 => by
    by_cases h : abW t p n = true
    · rw [nuN_hit h, smZ, smZ, cut_sum f n, if_pos h]
    · rw [nuN_miss h, smZ, cut_sum f n, if_neg h, Int.add_zero]
/-- Each block that is left weighs what it did. -/
theorem Good.cut_wt (G : Good t most) (hp : p < t.length) (hl : own.length = t.length) {i : Nat} (hi : abW t p i = true) : wtW (cutT t p) (cutO t own p) (nuN t p i) = wtW t own i := by
  unfold wtW
  rw [cutO_length, cutT_length, cut_sum, hl]
  refine smZ_congr _ fun j hj => ?_
  by_cases h : abW t p j = true
  · rw [if_pos h, G.cut_ab hp hi (j + 1) j (by omega) hj h, cut_owZ own h hj]
  · rw [if_neg h, if_neg (fun ha => h (G.abW_trans hi (j + 1) j (by omega) ha))]
theorem Good.cut_own (G : Good t most) (hp : p < t.length) (hl : own.length = t.length) (hO : OwnG own) : OwnG (cutO t own p) := by
  refine ⟨fun x hx => ?_, ?_⟩
  · obtain ⟨i, hi, he⟩ := List.getElem_of_mem hx
    have hi' := hi
    rw [cutO_length, cutT_length] at hi'
    obtain ⟨j, h1, h2, h3⟩ := nuN_onto t p _ i hi'
    have h4 := cuoN_at own h2 _ h1
    rw [h3] at h4
    have h5 : (cutO t own p)[i]? = some x := by rw [List.getElem?_eq_getElem hi, he]
    have h6 : some x = some (owZ own j) := h5.symm.trans h4
    cases h6
    exact hO.owZ j
  · have h1 := (G.cut hp).wtW_root (own := cutO t own p) (by rw [cutO_length]; exact Nat.le_refl _)
    have h2 := G.cut_wt hp hl (G.abW_self p)
    rw [G.nuN_zero p (Nat.le_refl _), h1] at h2
    rw [h2]
    exact wtW_lt hO t p
theorem Good.cut_bt (G : Good t most) (hp : p < t.length) (hl : own.length = t.length) {i j : Nat} (hi : abW t p i = true) (hil : i < t.length) (hj : abW t p j = true) (hjl : j < t.length) : btW (cutT t p) (cutO t own p) (nuN t p i) (nuN t p j) = btW t own i j := by
  unfold btW
  rw [G.cut_wt hp hl hi, G.cut_wt hp hl hj, cut_pnm hi hil, cut_pnm hj hjl]
def nuZ (t : List Nd) (p : Nat) (b : Int) : Int := if b < 0 then -1 else (nuN t p b.toNat : Int)
/-- .. and has the same best child. -/
theorem Good.cut_bs (G : Good t most) (hp : p < t.length) (hl : own.length = t.length) {i : Nat} (hi : abW t p i = true) : bsW (cutT t p) (cutO t own p) (nuN t p i) = nuZ t p (bsW t own i) := by
  have hol : (cutO t own p).length ≤ (cutT t p).length := by rw [cutO_length]; exact Nat.le_refl _
  refine (G.cut hp).isBw_one (K := fun k => k < (cutO t own p).length ∧ parW (cutT t p) k = (nuN t p i : Int)) (fun k hk => by omega) ((G.cut hp).bsW_is hol _) ?_
  have hK : ∀ k, k < (cutO t own p).length ∧ parW (cutT t p) k = (nuN t p i : Int) → ∃ j, j < t.length ∧ abW t p j = true ∧ nuN t p j = k ∧ parW t j = (i : Int) := fun k hk => by
    have h1 := hk.1
    rw [cutO_length, cutT_length] at h1
    obtain ⟨j, e1, e2, e3⟩ := nuN_onto t p _ k h1
    have h2 := hk.2
    rw [← e3, cut_par e2 e1, cutP] at h2
    by_cases e : j = p
    · rw [if_pos e] at h2; omega
    · obtain ⟨q, hq, hqj, haq⟩ := abW_pos G e e2 e1
      rw [if_neg e, hq, Int.toNat_natCast] at h2
      have := nuN_inj haq hi (by omega)
      subst this
      exact ⟨j, e1, e2, e3, hq⟩
  rcases G.bsW_is (Nat.le_of_eq hl) i with ⟨hb, hn⟩ | ⟨q, hb, ⟨h1, h2⟩, h3⟩
  · refine .inl ⟨by rw [hb]; rfl, fun k hk => ?_⟩
    obtain ⟨j, e1, e2, e3, e4⟩ := hK k hk
    exact hn j ⟨by omega, e4⟩
  · have hq : abW t p q = true := G.abW_kid h2 hi
    have hpi := G.abW_le (i + 1) p i (by omega) hi
    have hlt := G.parW_lt q
    refine .inr ⟨nuN t p q, ?_, ⟨by rw [cutO_length]; exact nuN_lt_cut hq (by omega), ?_⟩, fun k hk hne => ?_⟩
    · rw [hb, nuZ, if_neg (by omega), Int.toNat_natCast]
    · rw [cut_par hq (by omega), cutP, if_neg (by omega), h2, Int.toNat_natCast]
    · obtain ⟨j, e1, e2, e3, e4⟩ := hK k hk
      rw [← e3, G.cut_bt hp hl hq (by omega) e2 e1]
      exact h3 j ⟨by omega, e4⟩ fun e => hne (by rw [← e3, e])
/-- The way down is the same. -/
theorem Good.cut_hd (G : Good t most) (hp : p < t.length) (hl : own.length = t.length) : ∀ (f i : Nat), own.length ≤ i + f → i < own.length → abW t p i = true → hdF (cutT t p) (cutO t own p) (nuN t p i) = nuN t p (hdF t own i) ∧ abW t p (hdF t own i) = true
  | 0, i, h, h2, _ => by omega
  | f + 1, i, h, h2, hi => by
    have hol : (cutO t own p).length ≤ (cutT t p).length := by rw [cutO_length]; exact Nat.le_refl _
    have hb := G.cut_bs (own := own) hp hl hi
    rcases G.bsW_place (Nat.le_of_eq hl) i with ⟨h3, _⟩ | ⟨k, h3, h4, h5, h6⟩
    · rw [h3, nuZ, if_pos (by decide)] at hb
      rw [G.hdF_end (by omega), (G.cut hp).hdF_end (by omega)]
      exact ⟨rfl, hi⟩
    · rw [h3, nuZ, if_neg (by omega), Int.toNat_natCast] at hb
      rw [G.hdF_next (Nat.le_of_eq hl) h3, (G.cut hp).hdF_next hol hb]
      exact Good.cut_hd G hp hl f k (by omega) h5 (G.abW_kid h6 hi)
theorem Good.cut_head (G : Good t most) (hp : p < t.length) (hl : own.length = t.length) : hdW (cutT t p) (cutO t own p) = nuN t p (hdF t own p) ∧ hdF t own p < t.length ∧ abW t p (hdF t own p) = true := by
  have h1 := G.cut_hd (own := own) hp hl own.length p (by omega) (by omega) (G.abW_self p)
  rw [G.nuN_zero p (Nat.le_refl _)] at h1
  have h2 := G.hdF_is (Nat.le_of_eq hl) own.length p (by omega) (by omega)
  exact ⟨h1.1, by omega, h1.2⟩
theorem Good.cut_headnm (G : Good t most) (hp : p < t.length) (hl : own.length = t.length) : pnm (cutT t p) (hdW (cutT t p) (cutO t own p) : Int) = pnm t (hdF t own p : Int) := by
  obtain ⟨h1, h2, h3⟩ := G.cut_head (own := own) hp hl
  rw [h1, cut_pnm h3 h2]
/-- From above a block on the way it is the way from there. -/
theorem Good.hd_through (G : Good t most) (hl : own.length = t.length) (hp : p < t.length) : ∀ (f i : Nat), own.length ≤ i + f → i < own.length → abW t i p = true → abW t p (hdF t own i) = true → hdF t own i = hdF t own p
  | 0, i, h, h2, _, _ => by omega
  | f + 1, i, h, h2, hi, hh => by
    by_cases e : i = p
    · rw [e]
    · rcases G.bsW_place (Nat.le_of_eq hl) i with ⟨h3, _⟩ | ⟨k, h3, h4, h5, h6⟩
      · rw [G.hdF_end (by omega)] at hh
        have h7 := G.abW_le (i + 1) p i (by omega) hh
        have h8 := G.abW_le (p + 1) i p (by omega) hi
        omega
      · rw [G.hdF_next (Nat.le_of_eq hl) h3] at hh ⊢
        have hk := (G.cut_hd (own := own) (p := k) (by omega) hl own.length k (by omega) h5 (G.abW_self k)).2
        have h8 := G.abW_le (p + 1) i p (by omega) hi
        refine Good.hd_through G hl hp f k (by omega) h5 ?_ hh
        rcases G.abW_tri (hdF t own k + 1) p k (hdF t own k) (by omega) hh hk with h7 | h7
        · by_cases e2 : k = p
          · rw [e2]; exact G.abW_self p
          · obtain ⟨q, hq, _, haq⟩ := abW_pos G e2 h7 (by omega)
            obtain rfl : q = i := by omega
            have := G.abW_le (q + 1) p q (by omega) haq
            omega
        · exact h7
theorem Good.hd_keep (G : Good t most) (hl : own.length = t.length) (hp : p < t.length) (hh : abW t p (hdW t own) = true) : hdF t own p = hdW t own :=
  (G.hd_through hl hp own.length 0 (by omega) (by omega) (G.abW_root (p + 1) p (by omega) hp) hh).symm
end
end Go.Proofs.Ytjodhagjfjgbcaa

/-
  prune's move: all that stands below the first block of a tree is laid into it.
-/
namespace Go.Proofs.Ytjodhagjfjgbcaa
open Go Go.RowKit
set_option maxRecDepth 10000

theorem nodeOr_at {t : List Nd} {k : Nat} {n : Nd} (h : t[k]? = some n) : nodeOr t (k : Int) = n := by simp [nodeOr, nodeAt_nat, h]
def MvRel (w : World) (F : List Nat) (lb : Nat) (t : List Nd) (most : Int) (p k : Nat) (wr : World) : Prop := ∃ F', Tre wr F' lb (cutN t p k) most ∧ Kept F w wr ∧ NewF w F F'
theorem Good.add_cut {t : List Nd} {most : Int} (G : Good t most) {p n : Nat} (hp : p < n) (hn : n < t.length) (ha : abW t p n = true) {q : Nat} (hq : parW t n = (q : Int)) : (addT most (cutN t p n) (pnm t (n : Int)) (pnm t (q : Int)) (slW t n)).2 = cutN t p (n + 1) := by
  have hG := G.cutN_good n hp (by omega)
  obtain ⟨q', h1, h2, h3, e1, e2, e3, e4, e5, e6, e7⟩ := G.cut_next hp hn ha hG
  obtain rfl : q = q' := by omega
  rcases addT_cases most (cutN t p n) (pnm t (n : Int)) (pnm t (q : Int)) (slW t n) with ⟨c, _⟩ | ⟨_, c, _⟩ | ⟨i, m, _, c, d, c2, _⟩ | ⟨i, m, _, _, _, _, c, _⟩ | ⟨i, m, _, _, _, _, _, c, _⟩ | ⟨i, m, _, c, _, _, _, _, h⟩
  · omega
  · omega
  · obtain rfl : i = nuN t p q := by omega
    rw [e2] at d
    cases d
    have : (cutE t p q).2.1 = slW t q := rfl
    omega
  · omega
  · omega
  · obtain rfl : i = nuN t p q := by omega
    rw [h, cutN_hit ha, e6]

set_option maxHeartbeats 4000000 in
theorem move_any (w : World) (G F : List Nat) (lb tb : Nat) (t : List Nd) (most : Int) (p : Nat) (hT : Tre w G tb t most) (hL : Tre w F lb (cutN t p (p + 1)) most) (hA : Away G F) (hp : p < t.length) (f : Nat) (hf : f = p + 1) :
    Calls Try.prog 37 #[.pointer (some ⟨lb, 0, none⟩), .pointer (some ⟨tb, 0, none⟩), .int .i64 (f : Int)] w fun e w' => e = .returned (.tuple #[]) ∧ ∃ F', Tre w' F' lb (cutT t p) most ∧ Kept F w w' ∧ NewF w F F' := by
  have HGD := Lib.hid hT.1
  have HM256 := Lib.hid (show t.length ≤ 256 by have := hT.1.room; have := hT.1.most256; omega)
  have HT := Lib.hid hT
  have HL := Lib.hid hL
  have HAW := Lib.hid hA
  have HFP := Lib.hid hf
  obtain ⟨N, hN⟩ : ∃ N, t.length = N := ⟨_, rfl⟩
  have HN0 := Lib.hid hN
  have hpN : p < N := by omega
  clear hT hL hA hN hp hf
  go_enter Try.func37, Try.ntmps37
  go_wp2_with fail
  go_loopw [6] (fun i wr => ∃ k : Nat, p < k ∧ k ≤ N ∧ i = .int .i64 k ∧ Hid (MvRel w F lb t most p k wr)) (fun i _ => N - (intOf i).toNat)
  case atStart => exact ⟨f, by have := HFP.out; omega, by have := HFP.out; omega, rfl, Lib.hid ⟨F, by rw [HFP.out]; exact HL.out, Kept.refl _ _, NewF.refl _ _⟩⟩
  case round =>
    clear HL
    obtain ⟨k, hpk, hk, rfl, HR⟩ := hrel
    obtain ⟨F', hl, hkk, hn⟩ := HR.out
    have HL := Lib.hid hl
    have HK := Lib.hid hkk
    have HN := Lib.hid hn
    have HT1 := Lib.hid (HT.out.keep hkk HAW.out)
    have HPK := Lib.hid hpk
    clear hl hkk hn HR
    by_cases hlt : k < N
    · obtain ⟨x, hx, hx1, hx2, hx3⟩ := HGD.out.at (show k < t.length by rw [HN0.out]; exact hlt)
      obtain ⟨q, hq, hqk⟩ := HGD.out.parW_pos (show 0 < k by omega) (show k < t.length by rw [HN0.out]; exact hlt)
      obtain ⟨y, hy, hy1, hy2, hy3⟩ := HGD.out.at (show q < t.length by rw [HN0.out]; omega)
      have HXL := Lib.hid (show x.1.length = 32 from HGD.out.nds x (List.mem_of_getElem? hx))
      have HYL := Lib.hid (show y.1.length = 32 from HGD.out.nds y (List.mem_of_getElem? hy))
      have HXN := Lib.hid (nodeOr_at hx)
      have HYN := Lib.hid (nodeOr_at hy)
      have HX1 := Lib.hid hx1
      have HX2 := Lib.hid hx2
      have HX3 := Lib.hid (show x.2.2 = (q : Int) by rw [← hx3, hq])
      have HQ := Lib.hid hq
      have HY1 := Lib.hid hy1
      have HQK := Lib.hid hqk
      have HLT := Lib.hid hlt
      have hlt' : (k : Int) < (N : Int) := by omega
      have HBW := Lib.hid (Below.refl wr.heap.size wr)
      have HWK := Lib.hid (show wrap64 ((k : Int) + 1) = ((k + 1 : Nat) : Int) by have := HM256.out; have := HN0.out; unfold wrap64; omega)
      clear hx hx1 hx2 hx3 hq hy hy1 hy2 hy3 hqk hlt hpk hk
      go_wp2_with fail
      refine (len_any wr G tb t most HT1.out).mono ?_
      rintro e wr ⟨rfl, rfl⟩
      rw [HN0.out]
      go_wp2_with fail
      refine (node_any wr G tb t most (k : Int) HT1.out).mono ?_
      rintro e w6 ⟨rfl, hbc⟩
      replace HT1 := Lib.hid (HT1.out.below hbc)
      replace HL := Lib.hid (HL.out.below hbc)
      replace HBW := Lib.hid (HBW.out.trans (hbc.mono HBW.out.size))
      clear hbc
      rw [HXN.out]
      generalize (nodeAt t (k : Int)).isSome = ok1
      have HZ := Lib.hid (show Blk (w6.alloc (.cells #[.int .u8 0, .int .u8 0, .int .u8 0, .int .u8 0, .int .u8 0, .int .u8 0, .int .u8 0, .int .u8 0, .int .u8 0, .int .u8 0, .int .u8 0, .int .u8 0, .int .u8 0, .int .u8 0, .int .u8 0, .int .u8 0, .int .u8 0, .int .u8 0, .int .u8 0, .int .u8 0, .int .u8 0, .int .u8 0, .int .u8 0, .int .u8 0, .int .u8 0, .int .u8 0, .int .u8 0, .int .u8 0, .int .u8 0, .int .u8 0, .int .u8 0, .int .u8 0, .int .i64 0, .int .i64 0] 51)) w6.heap.size 51 (ndv nd0) from Blk.new w6 51 #[.int .u8 0, .int .u8 0, .int .u8 0, .int .u8 0, .int .u8 0, .int .u8 0, .int .u8 0, .int .u8 0, .int .u8 0, .int .u8 0, .int .u8 0, .int .u8 0, .int .u8 0, .int .u8 0, .int .u8 0, .int .u8 0, .int .u8 0, .int .u8 0, .int .u8 0, .int .u8 0, .int .u8 0, .int .u8 0, .int .u8 0, .int .u8 0, .int .u8 0, .int .u8 0, .int .u8 0, .int .u8 0, .int .u8 0, .int .u8 0, .int .u8 0, .int .u8 0, .int .i64 0, .int .i64 0])
      have hbx : Below w6.heap.size w6 ((w6.alloc (.cells #[.int .u8 0, .int .u8 0, .int .u8 0, .int .u8 0, .int .u8 0, .int .u8 0, .int .u8 0, .int .u8 0, .int .u8 0, .int .u8 0, .int .u8 0, .int .u8 0, .int .u8 0, .int .u8 0, .int .u8 0, .int .u8 0, .int .u8 0, .int .u8 0, .int .u8 0, .int .u8 0, .int .u8 0, .int .u8 0, .int .u8 0, .int .u8 0, .int .u8 0, .int .u8 0, .int .u8 0, .int .u8 0, .int .u8 0, .int .u8 0, .int .u8 0, .int .u8 0, .int .i64 0, .int .i64 0] 51)).setRow w6.heap.size (ndv x).toArray) := below_row ((Below.refl _ w6).alloc (Nat.le_refl _) _) (Nat.le_refl _) _
      have hsz := HBW.out.size
      have HX := Lib.hid (HZ.out.setRow (ndv x))
      replace HT1 := Lib.hid (HT1.out.below hbx)
      replace HL := Lib.hid (HL.out.below hbx)
      replace HBW := Lib.hid (HBW.out.trans (hbx.mono HBW.out.size))
      go_upto_region 4 with ((with_reducible refine wpList_store_node (.tmp 7) (.tmp 22) ?_ ?_ w6.heap.size nd0 x ?_ ?_ HZ.out nd0_len HXL.out ?_); rfl; rfl; rfl; rfl)
      try simp only [Act.put]
      obtain ⟨X, hY⟩ : ∃ X, X = w6.heap.size := ⟨_, rfl⟩
      have HXSZ := Lib.hid (show wr.heap.size ≤ X by rw [hY]; exact hsz)
      rw [← hY] at HX HT1 HL HBW ⊢
      generalize (w6.alloc (.cells #[.int .u8 0, .int .u8 0, .int .u8 0, .int .u8 0, .int .u8 0, .int .u8 0, .int .u8 0, .int .u8 0, .int .u8 0, .int .u8 0, .int .u8 0, .int .u8 0, .int .u8 0, .int .u8 0, .int .u8 0, .int .u8 0, .int .u8 0, .int .u8 0, .int .u8 0, .int .u8 0, .int .u8 0, .int .u8 0, .int .u8 0, .int .u8 0, .int .u8 0, .int .u8 0, .int .u8 0, .int .u8 0, .int .u8 0, .int .u8 0, .int .u8 0, .int .u8 0, .int .i64 0, .int .i64 0] 51)).setRow X (ndv x).toArray = w7 at HX HT1 HL HBW ⊢
      clear hbx HZ hY hsz
      have kp := HX.out.nodeParent HXL.out
      rw [HX3.out] at kp
      go_wp2_with fail
      refine (node_any w7 G tb t most (q : Int) HT1.out).mono ?_
      rintro e w8 ⟨rfl, hbc⟩
      replace HT1 := Lib.hid (HT1.out.below hbc)
      replace HL := Lib.hid (HL.out.below hbc)
      replace HX := Lib.hid (HX.out.below hbc HX.out.lt)
      replace HBW := Lib.hid (HBW.out.trans (hbc.mono HBW.out.size))
      clear hbc
      clear kp
      rw [HYN.out]
      generalize (nodeAt t (q : Int)).isSome = ok2
      have HZ := Lib.hid (show Blk (w8.alloc (.cells #[.int .u8 0, .int .u8 0, .int .u8 0, .int .u8 0, .int .u8 0, .int .u8 0, .int .u8 0, .int .u8 0, .int .u8 0, .int .u8 0, .int .u8 0, .int .u8 0, .int .u8 0, .int .u8 0, .int .u8 0, .int .u8 0, .int .u8 0, .int .u8 0, .int .u8 0, .int .u8 0, .int .u8 0, .int .u8 0, .int .u8 0, .int .u8 0, .int .u8 0, .int .u8 0, .int .u8 0, .int .u8 0, .int .u8 0, .int .u8 0, .int .u8 0, .int .u8 0, .int .i64 0, .int .i64 0] 51)) w8.heap.size 51 (ndv nd0) from Blk.new w8 51 #[.int .u8 0, .int .u8 0, .int .u8 0, .int .u8 0, .int .u8 0, .int .u8 0, .int .u8 0, .int .u8 0, .int .u8 0, .int .u8 0, .int .u8 0, .int .u8 0, .int .u8 0, .int .u8 0, .int .u8 0, .int .u8 0, .int .u8 0, .int .u8 0, .int .u8 0, .int .u8 0, .int .u8 0, .int .u8 0, .int .u8 0, .int .u8 0, .int .u8 0, .int .u8 0, .int .u8 0, .int .u8 0, .int .u8 0, .int .u8 0, .int .u8 0, .int .u8 0, .int .i64 0, .int .i64 0])
      have hbx : Below w8.heap.size w8 ((w8.alloc (.cells #[.int .u8 0, .int .u8 0, .int .u8 0, .int .u8 0, .int .u8 0, .int .u8 0, .int .u8 0, .int .u8 0, .int .u8 0, .int .u8 0, .int .u8 0, .int .u8 0, .int .u8 0, .int .u8 0, .int .u8 0, .int .u8 0, .int .u8 0, .int .u8 0, .int .u8 0, .int .u8 0, .int .u8 0, .int .u8 0, .int .u8 0, .int .u8 0, .int .u8 0, .int .u8 0, .int .u8 0, .int .u8 0, .int .u8 0, .int .u8 0, .int .u8 0, .int .u8 0, .int .i64 0, .int .i64 0] 51)).setRow w8.heap.size (ndv y).toArray) := below_row ((Below.refl _ w8).alloc (Nat.le_refl _) _) (Nat.le_refl _) _
      have hsz := HBW.out.size
      have HY := Lib.hid (HZ.out.setRow (ndv y))
      replace HT1 := Lib.hid (HT1.out.below hbx)
      replace HL := Lib.hid (HL.out.below hbx)
      replace HX := Lib.hid (HX.out.below hbx HX.out.lt)
      replace HBW := Lib.hid (HBW.out.trans (hbx.mono HBW.out.size))
      go_upto_region 5 with ((with_reducible refine wpList_store_node (.tmp 9) (.tmp 29) ?_ ?_ w8.heap.size nd0 y ?_ ?_ HZ.out nd0_len HYL.out ?_); rfl; rfl; rfl; rfl)
      try simp only [Act.put]
      obtain ⟨Y, hY⟩ : ∃ Y, Y = w8.heap.size := ⟨_, rfl⟩
      have HYSZ := Lib.hid (show wr.heap.size ≤ Y by rw [hY]; exact hsz)
      rw [← hY] at HY HT1 HL HX HBW ⊢
      generalize (w8.alloc (.cells #[.int .u8 0, .int .u8 0, .int .u8 0, .int .u8 0, .int .u8 0, .int .u8 0, .int .u8 0, .int .u8 0, .int .u8 0, .int .u8 0, .int .u8 0, .int .u8 0, .int .u8 0, .int .u8 0, .int .u8 0, .int .u8 0, .int .u8 0, .int .u8 0, .int .u8 0, .int .u8 0, .int .u8 0, .int .u8 0, .int .u8 0, .int .u8 0, .int .u8 0, .int .u8 0, .int .u8 0, .int .u8 0, .int .u8 0, .int .u8 0, .int .u8 0, .int .u8 0, .int .i64 0, .int .i64 0] 51)).setRow Y (ndv y).toArray = w9 at HY HT1 HL HX HBW ⊢
      clear hbx HZ hY hsz
      have HPL := Lib.hid (show plc (cutN t p k) y.1 = if abW t p q = true then (nuN t p q : Int) else -1 by
        rw [← HY1.out, HGD.out.cutN_plc HPK.out (by have := HN0.out; have := HLT.out; omega) (by have := HN0.out; have := HLT.out; have := HQK.out; omega)]
        by_cases h : abW t p q = true
        · rw [if_pos h, if_pos ⟨h, HQK.out⟩]
        · rw [if_neg h, if_neg (fun z => h z.1)])
      have HAB := Lib.hid (show abW t p k = true ↔ abW t p q = true from ⟨fun h => by
        obtain ⟨q', h1, _, h3⟩ := abW_pos HGD.out (by have := HPK.out; omega) h (by have := HN0.out; have := HLT.out; omega)
        have := HQ.out
        obtain rfl : q = q' := by omega
        exact h3, fun h => HGD.out.abW_kid HQ.out h⟩)
      have HYC := Lib.hid HY.out.nodeName
      go_wp2_with ((with_reducible refine wpList_load_name (.tmp 32) ?_ ?_ Y 0 y.1 ?_ HYL.out HYC.out ?_); rfl; rfl; rfl)
      refine (place_any w9 F' lb (cutN t p k) most y.1 HL.out HYL.out).mono ?_
      rintro e w10 ⟨rfl, hbc⟩
      replace HT1 := Lib.hid (HT1.out.below hbc)
      replace HL := Lib.hid (HL.out.below hbc)
      replace HX := Lib.hid (HX.out.below hbc HX.out.lt)
      replace HY := Lib.hid (HY.out.below hbc HY.out.lt)
      replace HBW := Lib.hid (HBW.out.trans (hbc.mono HBW.out.size))
      clear hbc HYC
      rw [HPL.out]
      by_cases ha : abW t p q = true
      · rw [if_pos ha]
        have hnn : (0 : Int) ≤ (nuN t p q : Int) := by omega
        have HAK := Lib.hid (HAB.out.2 ha)
        have HXC := Lib.hid HX.out.nodeName
        have HYC := Lib.hid HY.out.nodeName
        have ks := HX.out.nodeSlot HXL.out
        clear ha
        go_wp2_with (first
          | ((with_reducible refine wpList_load_name (.tmp 37) ?_ ?_ X 0 x.1 ?_ HXL.out HXC.out ?_); rfl; rfl; rfl)
          | ((with_reducible refine wpList_load_name (.tmp 39) ?_ ?_ Y 0 y.1 ?_ HYL.out HYC.out ?_); rfl; rfl; rfl))
        refine (add_any w10 F' lb (cutN t p k) most x.1 y.1 x.2.1 HL.out HXL.out HYL.out).mono ?_
        rintro e w11 ⟨rfl, F2, hl2, hk2, hn2⟩
        rw [← HX1.out, ← HY1.out, ← HX2.out, HGD.out.add_cut HPK.out (by have := HN0.out; have := HLT.out; omega) HAK.out HQ.out] at hl2
        have HRN := Lib.hid (show MvRel w F lb t most p (k + 1) w11 from ⟨F2, hl2, (HK.out.then HBW.out).trans hk2 HN.out, HN.out.trans hn2 (Nat.le_trans HK.out.size HBW.out.size)⟩)
        clear hl2 hk2 hn2 HXC HYC ks hnn HT1 HL HX HY HBW HK HN
        have hlk := HLT.out
        have hpk := HPK.out
        go_wp2_with fail
        go_roundw
        case rel => exact ⟨k + 1, by omega, by omega, by first | rw [HWK.out] | rw [Int.natCast_succ], HRN⟩
        case measure => first | exact measK N k 1 ((k : Int) + 1) (by omega) hlk Nat.zero_lt_one | exact measK N k 1 (wrap64 ((k : Int) + 1)) HWK.out hlk Nat.zero_lt_one
      · rw [if_neg ha]
        have HRN := Lib.hid (show MvRel w F lb t most p (k + 1) w10 from ⟨F', by rw [cutN_miss (fun h => ha (HAB.out.1 h))]; exact HL.out, HK.out.then HBW.out, HN.out⟩)
        clear ha HT1 HL HX HY HBW HK HN
        have hlk := HLT.out
        have hpk := HPK.out
        go_wp2_with fail
        go_roundw
        case rel => exact ⟨k + 1, by omega, by omega, by first | rw [HWK.out] | rw [Int.natCast_succ], HRN⟩
        case measure => first | exact measK N k 1 ((k : Int) + 1) (by omega) hlk Nat.zero_lt_one | exact measK N k 1 (wrap64 ((k : Int) + 1)) HWK.out hlk Nat.zero_lt_one
    · obtain rfl : k = N := by omega
      clear hlt
      go_wp2_with fail
      refine (len_any wr G tb t most HT1.out).mono ?_
      rintro e wr ⟨rfl, rfl⟩
      rw [HN0.out]
      go_wp2_with fail
      go_end0
      exact ⟨rfl, F', by unfold cutT; rw [HN0.out]; exact HL.out, HK.out, HN.out⟩
end Go.Proofs.Ytjodhagjfjgbcaa

/-
  prune's Tree: another tree, of a block and all that stands below it.
-/
namespace Go.Proofs.Ytjodhagjfjgbcaa
open Go Go.RowKit
set_option maxRecDepth 10000

theorem ptree_nil (w : World) (r : List UInt8) :
    Calls Try.prog 10 #[.pointer none, .agg (bv r).toArray] w fun e w' => e = .returned (.tuple #[.pointer none, .int .i64 2]) ∧ Below w.heap.size w w' := by
  have HB := Lib.hid (show Below w.heap.size w (w.alloc (.cells (bv r).toArray 24)) from (Below.refl _ w).alloc (Nat.le_refl _) _)
  go_enter Try.func10, Try.ntmps10
  go_wp2_with fail
  go_ret2
  exact ⟨rfl, HB.out⟩

set_option maxHeartbeats 4000000 in
theorem ptree_none (w : World) (G : List Nat) (tb : Nat) (t : List Nd) (most : Int) (r : List UInt8) (hP : plc t r = -1) (hT : Tre w G tb t most) (hr : r.length = 32) :
    Calls Try.prog 10 #[.pointer (some ⟨tb, 0, none⟩), .agg (bv r).toArray] w fun e w' => e = .returned (.tuple #[.pointer none, .int .i64 7]) ∧ Below w.heap.size w w' := by
  have HB := Lib.hid (show Below w.heap.size w (w.alloc (.cells (bv r).toArray 24)) from (Below.refl _ w).alloc (Nat.le_refl _) _)
  have HX := Lib.hid (Blk.new w 24 (bv r).toArray)
  have HGD := Lib.hid hT.1
  have HM256 := Lib.hid (show t.length ≤ 256 ∧ 1 ≤ most ∧ most ≤ 256 ∧ (t.length : Int) ≤ most from ⟨by have := hT.1.room; have := hT.1.most256; omega, hT.1.most1, hT.1.most256, hT.1.room⟩)
  have HT := Lib.hid (hT.below HB.out)
  obtain ⟨X, hX⟩ : ∃ X, X = w.heap.size := ⟨_, rfl⟩
  rw [← hX] at HX
  clear hT
  go_enter Try.func10, Try.ntmps10
  go_upto_region 1 with fail
  rw [← hX]
  generalize w.alloc (.cells (bv r).toArray 24) = w1 at HB HX HT ⊢
  clear hX
  have HXC := Lib.hid HX.out.rootAll
  go_wp2_with ((with_reducible refine wpList_load_name (.tmp 3) ?_ ?_ X 0 r ?_ hr HXC.out ?_); rfl; rfl; rfl)
  refine (place_any w1 G tb t most r HT.out hr).mono ?_
  rintro e w2 ⟨rfl, hbc⟩
  replace HT := Lib.hid (HT.out.below hbc)
  replace HX := Lib.hid (HX.out.below hbc HX.out.lt)
  replace HB := Lib.hid (HB.out.trans (hbc.mono HB.out.size))
  clear hbc HXC
  rw [hP]
  go_wp2_with fail
  refine (node_any w2 G tb t most (-1) HT.out).mono ?_
  rintro e w3 ⟨rfl, hbc⟩
  replace HT := Lib.hid (HT.out.below hbc)
  replace HX := Lib.hid (HX.out.below hbc HX.out.lt)
  replace HB := Lib.hid (HB.out.trans (hbc.mono HB.out.size))
  clear hbc
  have HNN := Lib.hid (show nodeOr t (-1) = (zero32, 0, -1) by rw [nodeOr, nodeAt_neg (by decide)]; rfl)
  have HNS := Lib.hid (show (nodeAt t (-1)).isSome = false by rw [nodeAt_neg (by decide)]; rfl)
  rw [HNN.out, HNS.out]
  have HNL := Lib.hid (show ((zero32, 0, -1) : Nd).1.length = 32 by simp [zero32])
  obtain ⟨nn, hnn⟩ : ∃ n : Nd, n = (zero32, 0, -1) := ⟨_, rfl⟩
  rw [← hnn] at HNL ⊢
  clear hnn HNN
  have HZ := Lib.hid (show Blk (w3.alloc (.cells #[.int .u8 0, .int .u8 0, .int .u8 0, .int .u8 0, .int .u8 0, .int .u8 0, .int .u8 0, .int .u8 0, .int .u8 0, .int .u8 0, .int .u8 0, .int .u8 0, .int .u8 0, .int .u8 0, .int .u8 0, .int .u8 0, .int .u8 0, .int .u8 0, .int .u8 0, .int .u8 0, .int .u8 0, .int .u8 0, .int .u8 0, .int .u8 0, .int .u8 0, .int .u8 0, .int .u8 0, .int .u8 0, .int .u8 0, .int .u8 0, .int .u8 0, .int .u8 0, .int .i64 0, .int .i64 0] 51)) w3.heap.size 51 (ndv nd0) from Blk.new w3 51 #[.int .u8 0, .int .u8 0, .int .u8 0, .int .u8 0, .int .u8 0, .int .u8 0, .int .u8 0, .int .u8 0, .int .u8 0, .int .u8 0, .int .u8 0, .int .u8 0, .int .u8 0, .int .u8 0, .int .u8 0, .int .u8 0, .int .u8 0, .int .u8 0, .int .u8 0, .int .u8 0, .int .u8 0, .int .u8 0, .int .u8 0, .int .u8 0, .int .u8 0, .int .u8 0, .int .u8 0, .int .u8 0, .int .u8 0, .int .u8 0, .int .u8 0, .int .u8 0, .int .i64 0, .int .i64 0])
  have hbx : Below w3.heap.size w3 ((w3.alloc (.cells #[.int .u8 0, .int .u8 0, .int .u8 0, .int .u8 0, .int .u8 0, .int .u8 0, .int .u8 0, .int .u8 0, .int .u8 0, .int .u8 0, .int .u8 0, .int .u8 0, .int .u8 0, .int .u8 0, .int .u8 0, .int .u8 0, .int .u8 0, .int .u8 0, .int .u8 0, .int .u8 0, .int .u8 0, .int .u8 0, .int .u8 0, .int .u8 0, .int .u8 0, .int .u8 0, .int .u8 0, .int .u8 0, .int .u8 0, .int .u8 0, .int .u8 0, .int .u8 0, .int .i64 0, .int .i64 0] 51)).setRow w3.heap.size (ndv nn).toArray) := below_row ((Below.refl _ w3).alloc (Nat.le_refl _) _) (Nat.le_refl _) _
  have hsz := HB.out.size
  have HY := Lib.hid (HZ.out.setRow (ndv nn))
  replace HT := Lib.hid (HT.out.below hbx)
  replace HX := Lib.hid (HX.out.below hbx HX.out.lt)
  replace HB := Lib.hid (HB.out.trans (hbx.mono HB.out.size))
  go_upto_region 5 with ((with_reducible refine wpList_store_node (.tmp 7) (.tmp 20) ?_ ?_ w3.heap.size nd0 nn ?_ ?_ HZ.out nd0_len HNL.out ?_); rfl; rfl; rfl; rfl)
  try simp only [Act.put]
  obtain ⟨Y, hY⟩ : ∃ Y, Y = w3.heap.size := ⟨_, rfl⟩
  have HYSZ := Lib.hid (show w.heap.size ≤ Y by rw [hY]; exact hsz)
  rw [← hY] at HY HT HX HB ⊢
  generalize (w3.alloc (.cells #[.int .u8 0, .int .u8 0, .int .u8 0, .int .u8 0, .int .u8 0, .int .u8 0, .int .u8 0, .int .u8 0, .int .u8 0, .int .u8 0, .int .u8 0, .int .u8 0, .int .u8 0, .int .u8 0, .int .u8 0, .int .u8 0, .int .u8 0, .int .u8 0, .int .u8 0, .int .u8 0, .int .u8 0, .int .u8 0, .int .u8 0, .int .u8 0, .int .u8 0, .int .u8 0, .int .u8 0, .int .u8 0, .int .u8 0, .int .u8 0, .int .u8 0, .int .u8 0, .int .i64 0, .int .i64 0] 51)).setRow Y (ndv nn).toArray = w4 at HY HT HX HB ⊢
  clear hbx HZ hY hsz
  go_wp2_with fail
  go_ret2
  exact ⟨rfl, HB.out⟩

set_option maxHeartbeats 4000000 in
theorem ptree_ok (w : World) (G : List Nat) (tb : Nat) (t : List Nd) (most : Int) (r : List UInt8) (p : Nat) (hP : plc t r = (p : Int)) (hT : Tre w G tb t most) (hr : r.length = 32) :
    Calls Try.prog 10 #[.pointer (some ⟨tb, 0, none⟩), .agg (bv r).toArray] w fun e w' => ∃ F b, e = .returned (.tuple #[.pointer (some ⟨b, 0, none⟩), .int .i64 0]) ∧ Tre w' F b (cutT t p) most ∧ High w.heap.size F ∧ Below w.heap.size w w' := by
  have HPL := Lib.hid (show p < t.length by have := plc_lt t r; omega)
  obtain ⟨x, hx, hx1, hx2, hx3⟩ := hT.1.at HPL.out
  have HXL := Lib.hid (show x.1.length = 32 from hT.1.nds x (List.mem_of_getElem? hx))
  have HXN := Lib.hid (nodeOr_at hx)
  have HXS := Lib.hid (show (nodeAt t (p : Int)).isSome = true by rw [nodeAt_nat, hx]; rfl)
  have HX1 := Lib.hid (show r = x.1 from (plc_name hP hx).symm)
  have HX2 := Lib.hid hx1
  have HX3 := Lib.hid hx2
  have HSL := Lib.hid (hT.1.slot x (List.mem_of_getElem? hx))
  obtain ⟨f, hf⟩ : ∃ f, f = p + 1 := ⟨_, rfl⟩
  have HF := Lib.hid hf
  clear hx hx1 hx2 hx3 hf
  have HB := Lib.hid (show Below w.heap.size w (w.alloc (.cells (bv r).toArray 24)) from (Below.refl _ w).alloc (Nat.le_refl _) _)
  have HX := Lib.hid (Blk.new w 24 (bv r).toArray)
  have HGD := Lib.hid hT.1
  have HM256 := Lib.hid (show t.length ≤ 256 ∧ 1 ≤ most ∧ most ≤ 256 ∧ (t.length : Int) ≤ most from ⟨by have := hT.1.room; have := hT.1.most256; omega, hT.1.most1, hT.1.most256, hT.1.room⟩)
  have HT := Lib.hid (hT.below HB.out)
  have HGL := Lib.hid hT.low
  obtain ⟨X, hX⟩ : ∃ X, X = w.heap.size := ⟨_, rfl⟩
  rw [← hX] at HX
  clear hT
  go_enter Try.func10, Try.ntmps10
  go_upto_region 1 with fail
  rw [← hX]
  generalize w.alloc (.cells (bv r).toArray 24) = w1 at HB HX HT ⊢
  clear hX
  have HXC := Lib.hid HX.out.rootAll
  go_wp2_with ((with_reducible refine wpList_load_name (.tmp 3) ?_ ?_ X 0 r ?_ hr HXC.out ?_); rfl; rfl; rfl)
  refine (place_any w1 G tb t most r HT.out hr).mono ?_
  rintro e w2 ⟨rfl, hbc⟩
  replace HT := Lib.hid (HT.out.below hbc)
  replace HX := Lib.hid (HX.out.below hbc HX.out.lt)
  replace HB := Lib.hid (HB.out.trans (hbc.mono HB.out.size))
  clear hbc HXC
  rw [hP]
  go_wp2_with fail
  refine (node_any w2 G tb t most (p : Int) HT.out).mono ?_
  rintro e w3 ⟨rfl, hbc⟩
  replace HT := Lib.hid (HT.out.below hbc)
  replace HX := Lib.hid (HX.out.below hbc HX.out.lt)
  replace HB := Lib.hid (HB.out.trans (hbc.mono HB.out.size))
  clear hbc
  rw [HXN.out, HXS.out]
  have HZ := Lib.hid (show Blk (w3.alloc (.cells #[.int .u8 0, .int .u8 0, .int .u8 0, .int .u8 0, .int .u8 0, .int .u8 0, .int .u8 0, .int .u8 0, .int .u8 0, .int .u8 0, .int .u8 0, .int .u8 0, .int .u8 0, .int .u8 0, .int .u8 0, .int .u8 0, .int .u8 0, .int .u8 0, .int .u8 0, .int .u8 0, .int .u8 0, .int .u8 0, .int .u8 0, .int .u8 0, .int .u8 0, .int .u8 0, .int .u8 0, .int .u8 0, .int .u8 0, .int .u8 0, .int .u8 0, .int .u8 0, .int .i64 0, .int .i64 0] 51)) w3.heap.size 51 (ndv nd0) from Blk.new w3 51 #[.int .u8 0, .int .u8 0, .int .u8 0, .int .u8 0, .int .u8 0, .int .u8 0, .int .u8 0, .int .u8 0, .int .u8 0, .int .u8 0, .int .u8 0, .int .u8 0, .int .u8 0, .int .u8 0, .int .u8 0, .int .u8 0, .int .u8 0, .int .u8 0, .int .u8 0, .int .u8 0, .int .u8 0, .int .u8 0, .int .u8 0, .int .u8 0, .int .u8 0, .int .u8 0, .int .u8 0, .int .u8 0, .int .u8 0, .int .u8 0, .int .u8 0, .int .u8 0, .int .i64 0, .int .i64 0])
  have hbx : Below w3.heap.size w3 ((w3.alloc (.cells #[.int .u8 0, .int .u8 0, .int .u8 0, .int .u8 0, .int .u8 0, .int .u8 0, .int .u8 0, .int .u8 0, .int .u8 0, .int .u8 0, .int .u8 0, .int .u8 0, .int .u8 0, .int .u8 0, .int .u8 0, .int .u8 0, .int .u8 0, .int .u8 0, .int .u8 0, .int .u8 0, .int .u8 0, .int .u8 0, .int .u8 0, .int .u8 0, .int .u8 0, .int .u8 0, .int .u8 0, .int .u8 0, .int .u8 0, .int .u8 0, .int .u8 0, .int .u8 0, .int .i64 0, .int .i64 0] 51)).setRow w3.heap.size (ndv x).toArray) := below_row ((Below.refl _ w3).alloc (Nat.le_refl _) _) (Nat.le_refl _) _
  have hsz := HB.out.size
  have HY := Lib.hid (HZ.out.setRow (ndv x))
  replace HT := Lib.hid (HT.out.below hbx)
  replace HX := Lib.hid (HX.out.below hbx HX.out.lt)
  replace HB := Lib.hid (HB.out.trans (hbx.mono HB.out.size))
  go_upto_region 5 with ((with_reducible refine wpList_store_node (.tmp 7) (.tmp 20) ?_ ?_ w3.heap.size nd0 x ?_ ?_ HZ.out nd0_len HXL.out ?_); rfl; rfl; rfl; rfl)
  try simp only [Act.put]
  obtain ⟨Y, hY⟩ : ∃ Y, Y = w3.heap.size := ⟨_, rfl⟩
  have HYSZ := Lib.hid (show w.heap.size ≤ Y by rw [hY]; exact hsz)
  rw [← hY] at HY HT HX HB ⊢
  generalize (w3.alloc (.cells #[.int .u8 0, .int .u8 0, .int .u8 0, .int .u8 0, .int .u8 0, .int .u8 0, .int .u8 0, .int .u8 0, .int .u8 0, .int .u8 0, .int .u8 0, .int .u8 0, .int .u8 0, .int .u8 0, .int .u8 0, .int .u8 0, .int .u8 0, .int .u8 0, .int .u8 0, .int .u8 0, .int .u8 0, .int .u8 0, .int .u8 0, .int .u8 0, .int .u8 0, .int .u8 0, .int .u8 0, .int .u8 0, .int .u8 0, .int .u8 0, .int .u8 0, .int .u8 0, .int .i64 0, .int .i64 0] 51)).setRow Y (ndv x).toArray = w4 at HY HT HX HB ⊢
  clear hbx HZ hY hsz
  have HADD := Lib.hid (show IntKind.i64.wrap ((t.length : Int) + (most - (t.length : Int))) = most by have := HM256.out; rw [IntKind.wrap_i64]; omega)
  have HWF := Lib.hid (show wrap64 ((p : Int) + 1) = (f : Int) by have := HM256.out; have := HPL.out; have := HF.out; unfold wrap64; omega)
  go_upto_region 7 with fail
  refine wp_region_free (P := Try.prog) 13 (fun w' => Below w4.heap.size w4 w') (fun oq v w' => match oq with
      | 0 => v = .agg (bv r).toArray
      | 1 => v = .pointer (some ⟨Y, 32, none⟩)
      | 2 => v = .int .i64 x.2.1
      | 3 => v = .pointer (some ⟨tb, 0, none⟩)
      | 4 => v = .int .i64 (t.length : Int)
      | 5 => v = .pointer (some ⟨tb, 0, none⟩)
      | 6 => v = .int .i64 (most - (t.length : Int))
      | 7 => v = .int .i64 most
      | 8 => ∃ F b, v = .tuple #[.pointer (some ⟨b, 0, none⟩), .int .i64 0] ∧ Tre w' F b [(r, x.2.1, -1)] most ∧ High w.heap.size F
      | 9 => ∃ F b, v = .tuple #[.pointer (some ⟨b, 0, none⟩), .int .i64 0] ∧ Tre w' F b [(r, x.2.1, -1)] most ∧ High w.heap.size F
      | 10 => ∃ F b, v = .pointer (some ⟨b, 0, none⟩) ∧ Tre w' F b [(r, x.2.1, -1)] most ∧ High w.heap.size F
      | 11 => v = .int .i64 0
      | 12 => ∃ F b, v = .pointer (some ⟨b, 0, none⟩) ∧ Tre w' F b [(r, x.2.1, -1)] most ∧ High w.heap.size F
      | _ => True) (by kernel_rfl) (by kernel_rfl) (Below.refl _ _).drew ?gb ?vb ?steps ?fin
  case gb => exact fun a b h1 h2 => h1.trans (h2.mono h1.size)
  case vb =>
    intro oq v a b h hb
    match oq with
    | 0 => exact h
    | 1 => exact h
    | 2 => exact h
    | 3 => exact h
    | 4 => exact h
    | 5 => exact h
    | 6 => exact h
    | 7 => exact h
    | 8 => (obtain ⟨F, b, h1, h2, h3⟩ := h; exact ⟨F, b, h1, h2.below hb, h3⟩)
    | 9 => (obtain ⟨F, b, h1, h2, h3⟩ := h; exact ⟨F, b, h1, h2.below hb, h3⟩)
    | 10 => (obtain ⟨F, b, h1, h2, h3⟩ := h; exact ⟨F, b, h1, h2.below hb, h3⟩)
    | 11 => exact h
    | 12 => (obtain ⟨F, b, h1, h2, h3⟩ := h; exact ⟨F, b, h1, h2.below hb, h3⟩)
    | _ + 13 => trivial
  case steps =>
    intro vals
    simp only [List.take_succ_cons, List.take_zero, freeSteps, Act.put, List.setIfInBounds_toArray, List.set_cons_zero, List.set_cons_succ, Nat.reduceAdd]
    refine ⟨fun w8 hG hW => ?_, fun w8 hG hW => ?_, fun w8 hG hW => ?_, fun w8 hG hW => ?_, fun w8 hG hW => ?_, fun w8 hG hW => ?_, fun w8 hG hW => ?_, fun w8 hG hW => ?_, fun w8 hG hW => ?_, fun w8 hG hW => ?_, fun w8 hG hW => ?_, fun w8 hG hW => ?_, fun w8 hG hW => ?_, trivial⟩
    · clear hW
      exact stepAt_load_run rfl rfl rfl _ _ rfl _ _ rfl (run_load_root hr (HX.out.below hG HX.out.lt).rootAll) ⟨rfl, Below.refl _ _⟩
    · clear hW
      refine stepAt_value rfl rfl rfl (.pointer (some ⟨Y, 32, none⟩)) w8 ?_ ⟨rfl, Below.refl _ _⟩
      go_simp
    · have q1 := hW 1 (by decide)
      simp only at q1
      rw [q1]
      clear hW
      refine stepAt_value rfl rfl rfl (.int .i64 x.2.1) w8 ?_ ⟨rfl, Below.refl _ _⟩
      have c := (HY.out.below hG HY.out.lt).nodeSlot HXL.out
      go_simp
    · clear hW
      refine stepAt_value rfl rfl rfl (.pointer (some ⟨tb, 0, none⟩)) w8 ?_ ⟨rfl, Below.refl _ _⟩
      go_simp
    · have q3 := hW 3 (by decide)
      simp only at q3
      rw [q3]
      clear hW
      refine stepAt_call rfl rfl rfl 27 #[.pointer (some ⟨tb, 0, none⟩)] (by go_simp) ((len_any w8 G tb t most (HT.out.below hG)).mono fun e w' ⟨h1, h2⟩ => ⟨_, h1, rfl, by rw [h2]; exact Below.refl _ _⟩)
    · clear hW
      refine stepAt_value rfl rfl rfl (.pointer (some ⟨tb, 0, none⟩)) w8 ?_ ⟨rfl, Below.refl _ _⟩
      go_simp
    · have q5 := hW 5 (by decide)
      simp only at q5
      rw [q5]
      clear hW
      refine stepAt_call rfl rfl rfl 16 #[.pointer (some ⟨tb, 0, none⟩)] (by go_simp) ((room_any w8 G tb t most (HT.out.below hG)).mono fun e w' ⟨h1, n, h2⟩ => ⟨_, h1, rfl, by rw [h2]; exact below_dN (Below.refl _ _) _⟩)
    · have q4 := hW 4 (by decide)
      simp only at q4
      have q6 := hW 6 (by decide)
      simp only at q6
      rw [q4, q6]
      clear hW
      refine stepAt_value rfl rfl rfl (.int .i64 most) w8 ?_ ⟨rfl, Below.refl _ _⟩
      go_simp
      exact HADD.out
    · have q0 := hW 0 (by decide)
      simp only at q0
      have q2 := hW 2 (by decide)
      simp only at q2
      have q7 := hW 7 (by decide)
      simp only at q7
      rw [q0, q2, q7]
      clear hW
      refine stepAt_call rfl rfl rfl 28 #[.agg (bv r).toArray, .int .i64 x.2.1, .int .i64 most] (by go_simp) ((new_ok w8 r x.2.1 most hr HM256.out.2.1 HM256.out.2.2.1 HSL.out.1 HSL.out.2).mono fun e w' ⟨F, b, h1, h2, h3, h4⟩ => ⟨_, h1, ⟨F, b, rfl, h2, h3.mono (Nat.le_trans HB.out.size hG.size)⟩, h4⟩)
    · obtain ⟨F, b, q8, ht, hh⟩ := hW 8 (by decide)
      rw [q8]
      clear hW
      refine stepAt_value rfl rfl rfl (.tuple #[.pointer (some ⟨b, 0, none⟩), .int .i64 0]) w8 ?_ ⟨⟨F, b, rfl, ht, hh⟩, Below.refl _ _⟩
      go_simp
    · obtain ⟨F, b, q9, ht, hh⟩ := hW 9 (by decide)
      rw [q9]
      clear hW
      refine stepAt_value rfl rfl rfl (.pointer (some ⟨b, 0, none⟩)) w8 ?_ ⟨⟨F, b, rfl, ht, hh⟩, Below.refl _ _⟩
      go_simp
    · obtain ⟨F, b, q9, ht, hh⟩ := hW 9 (by decide)
      rw [q9]
      clear hW
      refine stepAt_value rfl rfl rfl (.int .i64 0) w8 ?_ ⟨rfl, Below.refl _ _⟩
      go_simp
    · obtain ⟨F, b, q10, ht, hh⟩ := hW 10 (by decide)
      rw [q10]
      clear hW
      refine stepAt_value rfl rfl rfl (.pointer (some ⟨b, 0, none⟩)) w8 ?_ ⟨⟨F, b, rfl, ht, hh⟩, Below.refl _ _⟩
      go_simp
  case fin =>
    intro vals w9 hG hV
    have q11 := hV 11 (by omega)
    simp only at q11
    obtain ⟨F, b, q12, ht, hh⟩ := hV 12 (by omega)
    simp only [List.take_succ_cons, List.take_zero, List.drop_succ_cons, List.drop_zero, putAll, Act.put, List.setIfInBounds_toArray, List.set_cons_zero, List.set_cons_succ, Nat.reduceAdd]
    rw [q11, q12]
    clear hV q11 q12
    generalize vals 0 = y0
    generalize vals 1 = y1
    generalize vals 2 = y2
    generalize vals 3 = y3
    generalize vals 4 = y4
    generalize vals 5 = y5
    generalize vals 6 = y6
    generalize vals 7 = y7
    generalize vals 8 = y8
    generalize vals 9 = y9
    generalize vals 10 = y10
    replace HT := Lib.hid (HT.out.below hG)
    replace HB := Lib.hid (HB.out.trans (hG.mono HB.out.size))
    have HL := Lib.hid (show Tre w9 F b (cutN t p (p + 1)) most by rw [cutN_first HGD.out, HX2.out, HX3.out, ← HX1.out]; exact ht)
    have HH := Lib.hid hh
    have HAW := Lib.hid (show Away G F from fun g hg hf => by have := hh g hf; have := HGL.out g hg; omega)
    clear ht hh hG HX HY
    have hwf := HWF.out
    go_wp2_with fail
    clear hwf
    refine (move_any w9 G F b tb t most p HT.out HL.out HAW.out HPL.out f HF.out).mono ?_
    rintro e w10 ⟨rfl, F2, hl2, hk2, hn2⟩
    have HL2 := Lib.hid hl2
    have HK2 := Lib.hid hk2
    have HN2 := Lib.hid hn2
    clear hl2 hk2 hn2
    go_wp2_with fail
    go_ret2
    exact ⟨F2, b, rfl, HL2.out, HH.out.new HN2.out HB.out.size, HB.out.trans (HK2.out.below HB.out.size HH.out)⟩
end Go.Proofs.Ytjodhagjfjgbcaa

/-
  So much more of one block, and so much less again: plain.
-/
namespace Go.Proofs.Ytjodhagjfjgbcaa
open Go
set_option maxRecDepth 10000

theorem padW_full {t : List Nd} {own : List Int} (hl : own.length = t.length) : padW t own = own := by rw [padW, hl, Nat.sub_self]; simp
theorem app_at {t : List Nd} (G : Good t 256) {own : List Int} (hl : own.length = t.length) (hO : OwnG own) {J : Nat} {x : Nd} (hx : t[J]? = some x) {m : Int} (h1 : -1099511627776 ≤ m) (h2 : m ≤ 1099511627776) (h3 : 0 ≤ owZ own J + m) (h4 : totW own + m < 4611686018427387904) :
    appW t own [(x.1, m)] = (0, own.set J (owZ own J + m)) := by
  have hj : J < own.length := by rw [hl]; exact (List.getElem?_eq_some_iff.1 hx).1
  have hle : owZ own J ≤ totW own := Int.le_trans (G.wtW_own hO J) (wtW_le hO t J)
  have hok : okZ (owZ own J + m) := ⟨h3, by omega⟩
  rw [appW_is, padW_full hl]
  have hc : chgW t own [(x.1, m)] = (0, own.set J (owZ own J + m)) := by
    rw [chgW]
    simp only
    rw [G.plc_at hx, if_neg (by omega), if_neg (by omega), Int.toNat_natCast, if_pos hok, chgW]
  rw [hc]
  unfold endW
  rw [if_pos rfl, if_pos (by rw [totW_set hj]; exact h4)]
theorem more_app {t : List Nd} (G : Good t 256) {own : List Int} (hl : own.length = t.length) (hO : OwnG own) {J : Nat} {x : Nd} (hx : t[J]? = some x) {m : Int} (h1 : 0 ≤ m) (h2 : m ≤ 1099511627776) (h4 : totW own ≤ 2305843009213693952) :
    appW t own [(x.1, m)] = (0, own.set J (owZ own J + m)) :=
  app_at G hl hO hx (by omega) h2 (by have := hO.owZ J; omega) (by omega)
theorem less_app {t : List Nd} (G : Good t 256) {own : List Int} (hl : own.length = t.length) (hO : OwnG own) {J : Nat} {x : Nd} (hx : t[J]? = some x) {m : Int} (h1 : 0 ≤ m) (h2 : m ≤ 1099511627776) (h4 : totW own ≤ 2305843009213693952) :
    appW t (own.set J (owZ own J + m)) [(x.1, -m)] = (0, own) := by
  have hj : J < own.length := by rw [hl]; exact (List.getElem?_eq_some_iff.1 hx).1
  have hO2 : OwnG (own.set J (owZ own J + m)) := by
    have := appW_ok hO t [(x.1, m)]
    rw [more_app G hl hO hx h1 h2 h4] at this
    exact this
  have hz : owZ (own.set J (owZ own J + m)) J = owZ own J + m := by rw [owZ_set hj, if_pos rfl]
  have hb := hO.owZ J
  rw [app_at G (by rw [List.length_set]; exact hl) hO2 hx (by omega) (by omega) (by rw [hz]; omega) (by rw [totW_set hj]; omega), hz, List.set_set, show owZ own J + m + -m = owZ own J by omega]
  congr 1
  apply List.ext_getElem?
  intro i
  rw [List.getElem?_set]
  split
  · rename_i hij
    subst hij
    obtain ⟨y, hy⟩ : ∃ y, own[J]? = some y := ⟨_, List.getElem?_eq_getElem hj⟩
    rw [owZ_at hy, hy]
  · rfl
end Go.Proofs.Ytjodhagjfjgbcaa
