/-
  Rows of yes and no that lie in memory, as they are read; nothing of the program.
-/
import Derived.Test.YtnbdpalbompjlaaDoorBase
import Derived.Test.YtnbdpalbompjlaaDoorM1
import Derived.Test.YtnbdpalbompjlaaDoorM7
import Derived.Laws.MakeOwn
namespace Go.Proofs.YtnbdpalbompjlaaDoor
open Go.RowKit
set_option maxRecDepth 10000

/-- The slice (ao, n) reads as l, in block b from off on. -/
structure BRowAt (w : World) (B : Nat) (ao : Option Addr) (b off : Nat) (l : List Bool) : Prop where
  addr : 0 < l.length → ao = some ⟨b, off, none⟩
  lt : 0 < l.length → b < B
  cells : ∀ j x, l[j]? = some x → w.cell? ⟨b, off + j, none⟩ = some (.bool x)

/-- The value reads as l, in blocks below B. -/
def BRow (w : World) (B : Nat) (v : Value) (l : List Bool) : Prop := ∃ ao cap b off, v = .slice ao l.length cap ∧ l.length ≤ cap ∧ cap ≤ maxLen ∧ BRowAt w B ao b off l

theorem BRowAt.keep {w w' : World} {B b off : Nat} {ao : Option Addr} {l : List Bool} (h : BRowAt w B ao b off l) (hb : Below B w w') : BRowAt w' B ao b off l :=
  ⟨h.addr, h.lt, fun j x hj => by
    have hl : 0 < l.length := by have := (List.getElem?_eq_some_iff.1 hj).1; omega
    exact (hb.cell (p := ⟨b, off + j, none⟩) (h.lt hl)).trans (h.cells j x hj)⟩

theorem BRowAt.more {w : World} {B B' b off : Nat} {ao : Option Addr} {l : List Bool} (h : BRowAt w B ao b off l) (hB : B ≤ B') : BRowAt w B' ao b off l :=
  ⟨h.addr, fun h0 => Nat.lt_of_lt_of_le (h.lt h0) hB, h.cells⟩

theorem BRow.keep {w w' : World} {B : Nat} {v : Value} {l : List Bool} (h : BRow w B v l) (hb : Below B w w') : BRow w' B v l := by
  obtain ⟨ao, cap, b, off, rfl, hc, hm, h⟩ := h
  exact ⟨ao, cap, b, off, rfl, hc, hm, h.keep hb⟩

theorem BRow.more {w : World} {B B' : Nat} {v : Value} {l : List Bool} (h : BRow w B v l) (hB : B ≤ B') : BRow w B' v l := by
  obtain ⟨ao, cap, b, off, rfl, hc, hm, h⟩ := h
  exact ⟨ao, cap, b, off, rfl, hc, hm, h.more hB⟩

theorem BRow.nil (w : World) (B : Nat) : BRow w B (.slice none 0 0) [] :=
  ⟨none, 0, 0, 0, rfl, Nat.le_refl _, Nat.zero_le _, fun h => absurd h (by simp), fun h => absurd h (by simp), fun j x h => by simp at h⟩

theorem Held.brow {w : World} {base : Nat} {v : Value} {l : List Bool} (h : Held w base v (ov l)) : BRow w w.heap.size v l := by
  obtain ⟨n, cap, g, off, ao, rfl, h⟩ := h
  have hl := h.len
  rw [ov_length] at hl
  subst hl
  exact ⟨ao, cap, g, off, rfl, h.le, h.max, fun h0 => h.addr (Nat.lt_of_lt_of_le h0 h.le), fun h0 => h.lt (Nat.lt_of_lt_of_le h0 h.le), fun j x hj => h.cells j _ (ov_at hj)⟩

theorem BRowAt.take {w : World} {B b off : Nat} {ao : Option Addr} {l : List Bool} (h : BRowAt w B ao b off l) (k : Nat) : BRowAt w B ao b off (l.take k) :=
  ⟨fun h0 => h.addr (by rw [List.length_take] at h0; omega), fun h0 => h.lt (by rw [List.length_take] at h0; omega), fun j x hj => h.cells j x (by
    rw [List.getElem?_take] at hj
    split at hj
    · exact hj
    · cases hj)⟩

theorem BRowAt.drop {w : World} {B b off : Nat} {ao : Option Addr} {l : List Bool} (h : BRowAt w B ao b off l) (k : Nat) {ao' : Option Addr} (hao : k < l.length → ao' = some ⟨b, off + k, none⟩) : BRowAt w B ao' b (off + k) (l.drop k) :=
  ⟨fun h0 => hao (by rw [List.length_drop] at h0; omega), fun h0 => h.lt (by rw [List.length_drop] at h0; omega), fun j x hj => by
    rw [List.getElem?_drop] at hj
    rw [Nat.add_assoc]
    exact h.cells _ x hj⟩

/-- A row that was made, in a block of its own. -/
structure BMade (w : World) (g : Nat) (l : List Bool) : Prop where
  lt : g < w.heap.size
  cells : ∀ j x, l[j]? = some x → w.cell? ⟨g, j, none⟩ = some (.bool x)
  free : ∀ j, j < l.length → w.frozen? ⟨g, j, none⟩ = false

theorem bmade_new (w : World) (m : Nat) (e : TypeId) : BMade (w.alloc (.cells (madeCells (Value.bool false).cells m) e)) w.heap.size (List.replicate m false) := by
  have hs : (madeCells (Value.bool false).cells m).size = m := size_madeCells _ _
  refine ⟨by simp, fun j x hj => ?_, fun j hj => ?_⟩
  · rw [World.cell?_alloc_mark]
    have hjm : j < m := by
      have := (List.getElem?_eq_some_iff.1 hj).1
      simpa using this
    rw [List.getElem?_replicate, if_pos hjm] at hj
    cases hj
    rw [Array.getElem?_eq_getElem (by omega)]
    simp [madeCells, Value.cells, Nat.mod_one]
  · simp [World.frozen?_alloc_mark w (madeCells (Value.bool false).cells m) e 0 0 j]

theorem BMade.set {w : World} {g : Nat} {l : List Bool} (h : BMade w g l) (j : Nat) (hj : j < l.length) (x : Bool) : BMade (w.setCell ⟨g, j, none⟩ (.bool x)) g (l.set j x) := by
  obtain ⟨y, hy⟩ : ∃ y, l[j]? = some y := ⟨_, List.getElem?_eq_getElem hj⟩
  refine ⟨by simpa using h.lt, fun i z hi => ?_, fun i hi => ?_⟩
  · by_cases e : i = j
    · subst e
      rw [List.getElem?_set_self hj] at hi
      cases hi
      exact World.cell?_setCell_same _ _ _ (h.cells i y hy)
    · rw [List.getElem?_set_ne (by omega)] at hi
      rw [World.cell?_setCell_other _ _ _ _ (by intro e'; cases e'; exact e rfl)]
      exact h.cells i z hi
  · rw [List.length_set] at hi
    rw [World.frozen?_setCell]
    exact h.free i hi

theorem BMade.held {w : World} {g base : Nat} {l : List Bool} (h : BMade w g l) (hb : base ≤ g) (hm : l.length ≤ maxLen) : Held w base (.slice (some ⟨g, 0, none⟩) l.length l.length) (ov l) :=
  ⟨l.length, l.length, g, 0, _, rfl, (ov_length l).symm, Nat.le_refl _, hm, fun _ => rfl, fun a ha => by cases ha; exact hb, fun _ => h.lt,
    fun j u hj => by
      rw [ov, List.getElem?_map] at hj
      cases hx : l[j]? with
      | none => rw [hx] at hj; cases hj
      | some x => rw [hx] at hj; cases hj; rw [Nat.zero_add]; exact h.cells j x hx,
    fun j hj => by
      rw [Nat.zero_add, h.cells j _ (List.getElem?_eq_getElem hj)]; rfl,
    fun j hj => by rw [Nat.zero_add]; exact h.free j hj⟩

end Go.Proofs.YtnbdpalbompjlaaDoor
