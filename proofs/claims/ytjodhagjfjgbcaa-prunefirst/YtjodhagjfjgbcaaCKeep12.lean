/-
  The texts Keep12, one behind the other.
-/
import Derived.Test.YtjodhagjfjgbcaaFirstM18
/-
  What each block that is left answers, plainly.
-/
namespace Go.Proofs.Ytjodhagjfjgbcaa
open Go

section
variable {t : List Nd} {most : Int} {own : List Int} {p : Nat}
theorem Good.tell_cut (G : Good t most) (hp : p < t.length) {k : Nat} {x : Nd} (hx : t[k]? = some x) (ha : abW t p k = true) (dn : Int) (z : Nat → Int) : tellZ (cutT t p) (cutO t own p).length x.1 dn z = z (nuN t p k) := by
  have hk := (List.getElem?_eq_some_iff.1 hx).1
  have h := tellZ_at (G.cut hp) (cut_at ha hk) (N := (cutO t own p).length) (by rw [cutO_length]; exact nuN_lt_cut ha hk) dn z
  rw [show (cutE t p k).1 = x.1 from pnm_at hx] at h
  exact h
theorem Good.keep_wt (G : Good t most) (hp : p < t.length) (hl : own.length = t.length) {k : Nat} {x : Nd} (hx : t[k]? = some x) (ha : abW t p k = true) : tellZ (cutT t p) (cutO t own p).length x.1 0 (wtW (cutT t p) (cutO t own p)) = tellZ t own.length x.1 0 (wtW t own) := by
  have hk := (List.getElem?_eq_some_iff.1 hx).1
  rw [G.tell_cut hp hx ha, tellZ_at G hx (by omega), G.cut_wt hp hl ha]
theorem Good.keep_bst (G : Good t most) (hp : p < t.length) (hl : own.length = t.length) {k : Nat} {x : Nd} (hx : t[k]? = some x) (ha : abW t p k = true) : bstZ (cutT t p) (cutO t own p) x.1 = nuZ t p (bsW t own k) ∧ bstZ t own x.1 = bsW t own k := by
  have hk := (List.getElem?_eq_some_iff.1 hx).1
  unfold bstZ
  rw [G.tell_cut hp hx ha, tellZ_at G hx (by omega), G.cut_bs hp hl ha]
  exact ⟨rfl, rfl⟩
theorem Good.keep_best (G : Good t most) (hp : p < t.length) (hl : own.length = t.length) {k : Nat} {x : Nd} (hx : t[k]? = some x) (ha : abW t p k = true) : pnm (cutT t p) (bstZ (cutT t p) (cutO t own p) x.1) = pnm t (bstZ t own x.1) ∧ decide (0 ≤ bstZ (cutT t p) (cutO t own p) x.1) = decide (0 ≤ bstZ t own x.1) := by
  obtain ⟨h1, h2⟩ := G.keep_bst hp hl hx ha
  rw [h1, h2]
  rcases G.bsW_place (Nat.le_of_eq hl) k with ⟨hb, _⟩ | ⟨q, hb, _, hq, hpq⟩
  · rw [hb, nuZ, if_pos (by decide)]
    exact ⟨by rw [pnm, pnm, nodeAt_neg (by decide), nodeAt_neg (by decide)], rfl⟩
  · rw [hb, nuZ, if_neg (by omega), Int.toNat_natCast, cut_pnm (G.abW_kid hpq ha) (by omega)]
    refine ⟨rfl, ?_⟩
    rw [decide_eq_true (show (0 : Int) ≤ (nuN t p q : Int) by omega), decide_eq_true (show (0 : Int) ≤ (q : Int) by omega)]
theorem Good.keep_plc (G : Good t most) (hp : p < t.length) {k : Nat} {x : Nd} (hx : t[k]? = some x) : plc (cutT t p) x.1 = if abW t p k = true then (nuN t p k : Int) else -1 := by
  have hk := (List.getElem?_eq_some_iff.1 hx).1
  rw [← pnm_at hx, G.cut_plc hp hk]
theorem Good.keep_head (G : Good t most) (hp : p < t.length) (hl : own.length = t.length) (hh : abW t p (hdW t own) = true) : pnm (cutT t p) (hdW (cutT t p) (cutO t own p) : Int) = pnm t (hdW t own : Int) := by
  rw [G.cut_headnm hp hl, G.hd_keep hl hp hh]
theorem Good.head_lt (G : Good t most) (hl : own.length = t.length) : hdW t own < t.length := by
  have h := (G.hdF_is (Nat.le_of_eq hl) own.length 0 (by rw [hl]; exact G.pos) (by omega)).1
  rw [hl] at h
  exact h
end
end Go.Proofs.Ytjodhagjfjgbcaa
