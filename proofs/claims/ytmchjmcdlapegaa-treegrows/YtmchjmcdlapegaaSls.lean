/-
  A struct in memory whose first fields are slices that it owns, one after the other: what an append to one of them leaves of all. It holds of every program.
-/
import Derived.Test.YtmchjmcdlapegaaWideKeep
namespace Go.Proofs.Ytmchjmcdlapegaa
open Go Go.RowKit
set_option maxRecDepth 10000

/-- The struct at b: its slices (cells an element, the slice, the cells that it holds), and what stands behind them. -/
structure Sls (w : World) (F : List Nat) (b : Nat) (ty : TypeId) (items : List (Nat × Value × List Value)) (tail : List Value) : Prop where
  blk : Blk w b ty (items.map (·.2.1) ++ tail)
  wide : ∀ x ∈ items, Wide x.1 w 0 x.2.1 x.2.2
  nb : ∀ x ∈ items, x.2.1.ownBlock ≠ some b
  apart : ∀ (i j : Nat) x y, i ≠ j → items[i]? = some x → items[j]? = some y → ∀ k, x.2.1.ownBlock = some k → y.2.1.ownBlock ≠ some k
  inb : b ∈ F
  inv : ∀ x ∈ items, ∀ k, x.2.1.ownBlock = some k → k ∈ F
  low : Low w F

theorem Sls.keep {w w' : World} {F G : List Nat} {b : Nat} {ty : TypeId} {items : List (Nat × Value × List Value)} {tail : List Value} (h : Sls w F b ty items tail) (hk : Kept G w w') (hF : Away F G) : Sls w' F b ty items tail :=
  ⟨h.blk.kept hk (hF b h.inb), fun x hx => (h.wide x hx).kept hk (fun j hj => hF j (h.inv x hx j hj)), h.nb, h.apart, h.inb, h.inv, h.low.keep hk.size⟩
theorem Sls.below {w w' : World} {F : List Nat} {b : Nat} {ty : TypeId} {items : List (Nat × Value × List Value)} {tail : List Value} (h : Sls w F b ty items tail) (hb : Below w.heap.size w w') : Sls w' F b ty items tail := h.keep (Kept.of_below [] hb) (fun _ _ hx => by cases hx)
theorem Sls.cell {w : World} {F : List Nat} {b : Nat} {ty : TypeId} {items : List (Nat × Value × List Value)} {tail : List Value} (h : Sls w F b ty items tail) {i : Nat} {x : Nat × Value × List Value} (hx : items[i]? = some x) : w.cell? ⟨b, i, none⟩ = some x.2.1 := by
  have hl := (List.getElem?_eq_some_iff.1 hx).1
  rw [h.blk.cell i, List.getElem?_append_left (by simpa using hl)]
  simp [hx]

theorem mem_set_or {α : Type} {l : List α} {i : Nat} {a x : α} (h : x ∈ l.set i a) : x = a ∨ ∃ j : Nat, j ≠ i ∧ l[j]? = some x := by
  obtain ⟨j, hj⟩ := List.getElem?_of_mem h
  rw [List.getElem?_set] at hj
  split at hj
  · split at hj
    · exact .inl (Option.some.inj hj).symm
    · cases hj
  · rename_i hne
    exact .inr ⟨j, fun e => hne e.symm, hj⟩

/-- One slice has grown, and is stored back. -/
theorem Sls.stored {w w' : World} {F : List Nat} {b i k : Nat} {ty : TypeId} {items : List (Nat × Value × List Value)} {tail : List Value} {v v' : Value} {xs xs' : List Value} (h : Sls w F b ty items tail) (hi : items[i]? = some (k, v, xs)) (hk : Kept (ownL v) w w')
    (hw : Wide k w' 0 v' xs') (hx0 : 0 < xs'.length) (ho : v'.ownBlock = v.ownBlock ∨ ∃ j, v'.ownBlock = some j ∧ w.heap.size ≤ j) :
    Sls (w'.setCell ⟨b, i, none⟩ v') (ownL v' ++ F) b ty (items.set i (k, v', xs')) tail ∧ Kept F w (w'.setCell ⟨b, i, none⟩ v') ∧ NewF w F (ownL v' ++ F) := by
  have hmi : (k, v, xs) ∈ items := List.mem_of_getElem? hi
  have hil := (List.getElem?_eq_some_iff.1 hi).1
  have hbl := h.low b h.inb
  have hF : ∀ x ∈ ownL v, x ∈ F := fun x hx => h.inv _ hmi x (mem_ownL.1 hx)
  have hbv : b ∉ ownL v := fun hx => h.nb _ hmi (mem_ownL.1 hx)
  have hb' : v'.ownBlock ≠ some b := fun e => by
    rcases ho with h1 | ⟨j, h1, h2⟩
    · exact h.nb _ hmi (h1.symm.trans e)
    · rw [h1] at e; cases e; omega
  have hk2 : Kept [b] w' (w'.setCell ⟨b, i, none⟩ v') := (Kept.refl _ _).setCell _ _ (.inl (by simp))
  have hap : ∀ (j : Nat) (x : Nat × Value × List Value), j ≠ i → items[j]? = some x → ∀ q, x.2.1.ownBlock = some q → v'.ownBlock ≠ some q := fun j x hj hx q hq e => by
    rcases ho with h1 | ⟨z, h1, h2⟩
    · exact h.apart j i x _ hj hx hi q hq (h1.symm.trans e)
    · rw [h1] at e; cases e
      have := h.low q (h.inv x (List.mem_of_getElem? hx) q hq)
      omega
  refine ⟨⟨?_, fun x hx => ?_, fun x hx => ?_, ?_, List.mem_append_right _ h.inb, fun x hx q hq => ?_, fun x hx => ?_⟩, (hk.mono hF).setCell _ _ (.inl h.inb), fun x hx => ?_⟩
  · have := (h.blk.kept hk hbv).set i v'
    rw [List.set_append_left _ _ (by simpa using hil)] at this
    rw [List.map_set]
    exact this
  · rcases mem_set_or hx with rfl | ⟨j, hj, hx⟩
    · exact hw.kept hk2 (fun q hq hm => by simp at hm; subst hm; exact hb' hq)
    · refine ((h.wide x (List.mem_of_getElem? hx)).kept hk (fun q hq hm => ?_)).kept hk2 (fun q hq hm => by simp at hm; subst hm; exact h.nb x (List.mem_of_getElem? hx) hq)
      exact h.apart j i x _ hj hx hi q hq (mem_ownL.1 hm)
  · rcases mem_set_or hx with rfl | ⟨j, hj, hx⟩
    · exact hb'
    · exact h.nb x (List.mem_of_getElem? hx)
  · intro p q x y hpq hx hy z hz
    rw [List.getElem?_set] at hx hy
    by_cases hp : i = p
    · subst hp
      rw [if_pos rfl, if_pos hil] at hx
      rw [if_neg hpq] at hy
      cases hx
      exact fun e => hap q y (Ne.symm hpq) hy z e hz
    · rw [if_neg hp] at hx
      by_cases hq : i = q
      · subst hq
        rw [if_pos rfl, if_pos hil] at hy
        cases hy
        exact hap p x hpq hx z hz
      · rw [if_neg hq] at hy
        exact h.apart p q x y hpq hx hy z hz
  · rcases mem_set_or hx with rfl | ⟨j, hj, hx⟩
    · exact List.mem_append_left _ (mem_ownL.2 hq)
    · exact List.mem_append_right _ (h.inv x (List.mem_of_getElem? hx) q hq)
  · rcases List.mem_append.1 hx with hx | hx
    · have := hw.ownLt hx0 x (mem_ownL.1 hx)
      simp [World.setCell]; exact this
    · have := h.low x hx
      have := hk.size
      simp [World.setCell]; omega
  · rcases List.mem_append.1 hx with hx | hx
    · rcases ho with h1 | ⟨j, h1, h2⟩
      · exact .inl (h.inv _ hmi x (h1 ▸ mem_ownL.1 hx))
      · rw [mem_ownL, h1] at hx; cases hx; exact .inr h2
    · exact .inl hx
end Go.Proofs.Ytmchjmcdlapegaa
