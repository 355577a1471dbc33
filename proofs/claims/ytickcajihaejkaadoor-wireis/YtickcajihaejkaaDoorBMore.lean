/-
  Rows of yes and no: what append reads of them, rows that were made, bytes as a text.
-/
import Derived.Test.YtickcajihaejkaaDoorBGet
namespace Go.Proofs.YtickcajihaejkaaDoor
open Go.RowKit
set_option maxRecDepth 10000

def bstr (l : List UInt8) : ByteArray := ⟨l.toArray⟩
theorem bstr_size (l : List UInt8) : (bstr l).size = l.length := by simp [bstr, ByteArray.size]
theorem bstr_toList (l : List UInt8) : (bstr l).data.toList = l := by simp [bstr]
theorem bstr_self (s : ByteArray) : bstr s.data.toList = s := by apply ByteArray.ext; simp [bstr]

theorem BMade.row {w : World} {g : Nat} {l : List Bool} (h : BMade w g l) (hl : l.length ≤ 1000) : BRow w w.heap.size (.slice (some ⟨g, 0, none⟩) l.length l.length) l :=
  (h.held (base := g) (Nat.le_refl _) (by unfold maxLen; omega)).brow

theorem BMade.keep {w w' : World} {g : Nat} {l : List Bool} (h : BMade w g l) (hb : Below w.heap.size w w') : BMade w' g l :=
  ⟨Nat.lt_of_lt_of_le h.lt hb.size, fun j x hj => (hb.cell (p := ⟨g, j, none⟩) h.lt).trans (h.cells j x hj), fun j hj => (hb.frozen (p := ⟨g, j, none⟩) h.lt).trans (h.free j hj)⟩

theorem ov_one (l : List Bool) : ∀ u ∈ ov l, u.oneCell' = true := by
  intro u hu
  rw [ov, List.mem_map] at hu
  obtain ⟨x, _, rfl⟩ := hu
  rfl

/-- A row as append's source. -/
theorem BRow.src {P : Program} {w : World} {B : Nat} {ao : Option Addr} {n cap : Nat} {l : List Bool} (h : BRow w B (.slice ao n cap) l) (t e : TypeId) (ht : P.underlying t = some (.slice e)) : Src P 1 t (.slice ao n cap) n (ov l) w := by
  obtain ⟨ao', cap', b, off, he, hc, hm, h⟩ := h
  cases he
  by_cases h0 : l.length = 0
  · obtain rfl : l = [] := List.eq_nil_of_length_eq_zero h0
    cases ao with
    | none => exact Src.ofNil w ht cap
    | some a => exact Src.ofSlice w ht a 0 cap [] rfl (fun j u hj => by simp at hj) (fun u hu => by simp at hu)
  · have ha := h.addr (by omega)
    subst ha
    refine Src.ofSlice w ht ⟨b, off, none⟩ _ cap (ov l) (by rw [ov_length, Nat.mul_one]) (fun j u hj => ?_) (ov_one l)
    rw [ov, List.getElem?_map] at hj
    cases hx : l[j]? with
    | none => rw [hx] at hj; cases hj
    | some x => rw [hx] at hj; cases hj; rw [Addr.add_lit]; exact h.cells j x hx

theorem HeldAt.set {w : World} {base n cap g off : Nat} {ao : Option Addr} {xs : List Value} (h : HeldAt w base n cap g off ao xs) (j : Nat) (hj : j < n) (u : Value) : HeldAt (w.setCell ⟨g, off + j, none⟩ u) base n cap g off ao (xs.set j u) := by
  have hlen := h.len
  obtain ⟨y, hy⟩ : ∃ y, xs[j]? = some y := ⟨_, List.getElem?_eq_getElem (by omega)⟩
  refine ⟨by rw [List.length_set]; exact hlen, h.le, h.max, h.addr, h.own, fun hc => by simpa using h.lt hc, fun i z hi => ?_, fun i hi => ?_, fun i hi => ?_⟩
  · by_cases e : i = j
    · subst e
      rw [List.getElem?_set_self (by omega)] at hi
      cases hi
      exact World.cell?_setCell_same _ _ _ (h.cells i y hy)
    · rw [List.getElem?_set_ne (by omega)] at hi
      rw [World.cell?_setCell_other _ _ _ _ (by intro e'; injection e' with _ e'; omega)]
      exact h.cells i z hi
  · by_cases e : i = j
    · subst e
      rw [World.cell?_setCell_same _ _ _ (h.cells i y hy)]; rfl
    · rw [World.cell?_setCell_other _ _ _ _ (by intro e'; injection e' with _ e'; omega)]
      exact h.room i hi
  · rw [World.frozen?_setCell]; exact h.free i hi

theorem ov_append (l r : List Bool) : ov (l ++ r) = ov l ++ ov r := by simp [ov]
theorem ov_set (l : List Bool) (j : Nat) (x : Bool) : (ov l).set j (.bool x) = ov (l.set j x) := by simp [ov, List.map_set]
theorem toList_ne {a b : ByteArray} (h : a ≠ b) : ¬ (a.toList = b.toList) := fun e => h (by apply ByteArray.ext; apply Array.ext'; rw [← ByteArray.toList_eq, ← ByteArray.toList_eq, e])
end Go.Proofs.YtickcajihaejkaaDoor
