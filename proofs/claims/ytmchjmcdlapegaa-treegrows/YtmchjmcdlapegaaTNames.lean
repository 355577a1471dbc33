/-
  Rows of names ([]api.Root) as cells; a row that a loop over a function collects in a variable.
-/
import Derived.Test.YtmchjmcdlapegaaTOver
namespace Go.Proofs.Ytmchjmcdlapegaa
open Go Go.RowKit Go.Shelf
set_option maxRecDepth 10000

def rv (l : List (List UInt8)) : List Value := l.flatMap bv
def Rts (l : List (List UInt8)) : Prop := ∀ r ∈ l, r.length = 32
theorem rv_append (a b : List (List UInt8)) : rv (a ++ b) = rv a ++ rv b := by simp [rv]
theorem rv_sole (r : List UInt8) : rv [r] = bv r := by simp [rv]
theorem rv_length : ∀ (l : List (List UInt8)), Rts l → (rv l).length = l.length * 32
  | [], _ => rfl
  | x :: l, h => by
    have h1 := rv_length l (fun y hy => h y (List.mem_cons_of_mem _ hy))
    have h2 := h x List.mem_cons_self
    rw [rv, List.flatMap_cons, List.length_append, bv_length, h2, ← rv, h1, List.length_cons]
    omega
theorem rv_at : ∀ (l : List (List UInt8)) (i j : Nat) (r : List UInt8), Rts l → l[i]? = some r → j < 32 → (rv l)[i * 32 + j]? = (bv r)[j]?
  | [], i, j, x, _, h, _ => by simp at h
  | y :: l, 0, j, x, hT, h, hj => by
    simp at h
    subst h
    rw [rv, List.flatMap_cons, Nat.zero_mul, Nat.zero_add, List.getElem?_append_left (by rw [bv_length, hT y List.mem_cons_self]; exact hj)]
  | y :: l, i + 1, j, x, hT, h, hj => by
    have hx := hT y List.mem_cons_self
    rw [rv, List.flatMap_cons, List.getElem?_append_right (by rw [bv_length, hx]; omega), bv_length, hx, show (i + 1) * 32 + j - 32 = i * 32 + j by omega, ← rv]
    exact rv_at l i j x (fun z hz => hT z (List.mem_cons_of_mem _ hz)) (by simpa using h) hj
theorem Lies.name {w : World} {B b off : Nat} {ao : Option Addr} {l : List (List UInt8)} (h : Lies w B ao b off (rv l)) (hT : Rts l) {i : Nat} {r : List UInt8} (hi : l[i]? = some r) : ao = some ⟨b, off, none⟩ ∧ ∀ j v, (bv r)[j]? = some v → w.cell? ⟨b, off + i * 32 + j, none⟩ = some v := by
  have hl := (List.getElem?_eq_some_iff.1 hi).1
  refine ⟨h.addr (by rw [rv_length l hT]; omega), fun j v hj => ?_⟩
  have hjl : j < 32 := by
    have := (List.getElem?_eq_some_iff.1 hj).1
    rwa [bv_length, hT r (List.mem_of_getElem? hi)] at this
  rw [Nat.add_assoc]
  exact h.cells _ v ((rv_at l i j r hT hi hjl).trans hj)
theorem Rts.append {a b : List (List UInt8)} (h : Rts a) (k : Rts b) : Rts (a ++ b) := fun r hr => (List.mem_append.1 hr).elim (h r) (k r)
theorem Rts.sole {r : List UInt8} (h : r.length = 32) : Rts [r] := fun x hx => by rw [List.mem_singleton] at hx; rw [hx]; exact h
theorem Good.rts {t : List Nd} {most : Int} (G : Good t most) : Rts (rs t) := G.len

/-- The variable's block holds a slice that holds these names, in memory made since R. -/
def HoldsR (LB R : Nat) (xs : List (List UInt8)) (W : World) : Prop :=
  ∃ v, Blk W LB 32 [v] ∧ Wide 32 W R v (rv xs) ∧ ∀ j, v.ownBlock = some j → ∃ o, W.heap[j]? = some o ∧ o.isCells = true
theorem HoldsR.lt {LB R : Nat} {xs : List (List UInt8)} {W : World} (h : HoldsR LB R xs W) : LB < W.heap.size := by obtain ⟨v, h1, _⟩ := h; exact h1.lt
theorem sb_of {LB : Nat} {W : World} {t : TypeId} {v : Value} (h : Blk W LB t [v]) : SB LB W = LB :: ownL v := by
  unfold SB; rw [h.cell 0]; rfl
theorem HoldsR.stays {LB R : Nat} {xs : List (List UInt8)} {W W' : World} {row : Option Nat} (h : HoldsR LB R xs W) (hLB : LB < R) (hg : W.grownBy W' row) (hr : ∀ r, row = some r → Mine LB R W r) : HoldsR LB R xs W' := by
  obtain ⟨v, h1, h2, h3⟩ := h
  have hne : ∀ j, v.ownBlock = some j → row ≠ some j := fun j hj e => by
    have := (hr j e).2.1
    rw [sb_of h1] at this
    exact this (List.mem_cons_of_mem _ (mem_ownL.2 hj))
  refine ⟨v, blk_stays h1 hLB hg hr, h2.grown hg hne, fun j hj => ?_⟩
  obtain ⟨o, ho, hc⟩ := h3 j hj
  exact ⟨o, (hg.block j (Array.getElem?_eq_some_iff.1 ho).1 (fun e => hne j hj e.symm)).trans ho, hc⟩
theorem HoldsR.minds {LB R l : Nat} {xs : List (List UInt8)} {W : World} {o : Obj} (h : HoldsR LB R xs W) (hLB : LB < R) (hl : R ≤ l) (h0 : W.heap[l]? = some o) (hc : o.isCells = false) (o' : Obj) : HoldsR LB R xs (W.putObj l o') := by
  obtain ⟨v, h1, h2, h3⟩ := h
  have hne : ∀ j, v.ownBlock = some j → j ≠ l := fun j hj e => by
    obtain ⟨o2, h4, h5⟩ := h3 j hj
    subst e; rw [h0] at h4; cases h4; rw [hc] at h5; cases h5
  refine ⟨v, blk_minds h1 hLB hl o', h2.kept (F := [l]) ⟨rfl, rfl, rfl, Nat.le_of_eq (World.putObj_size).symm, fun k _ hk => World.putObj_heap_other (by simpa using hk)⟩ (fun j hj hm => by simp at hm; exact hne j hj hm), fun j hj => ?_⟩
  obtain ⟨o2, h4, h5⟩ := h3 j hj
  exact ⟨o2, (World.putObj_heap_other (hne j hj)).trans h4, h5⟩
theorem HoldsR.below {LB R : Nat} {xs : List (List UInt8)} {W W' : World} (h : HoldsR LB R xs W) (hb : Below W.heap.size W W') : HoldsR LB R xs W' := by
  obtain ⟨v, h1, h2, h3⟩ := h
  refine ⟨v, h1.below hb h1.lt, h2.below hb, fun j hj => ?_⟩
  obtain ⟨o, ho, hc⟩ := h3 j hj
  exact ⟨o, (hb.block j (Array.getElem?_eq_some_iff.1 ho).1).trans ho, hc⟩
theorem holds_new {W : World} {LB R : Nat} (h : Blk W LB 32 [.slice none 0 0]) : HoldsR LB R [] W := ⟨_, h, wide_nil0 32 W R, fun j hj => by simp [Value.ownBlock] at hj⟩

/-- 'list = append(list, name)', in a round. -/
theorem HoldsR.collected {LB R : Nat} {xs : List (List UInt8)} {W W1 : World} {v v' : Value} {o : Obj} {r : List UInt8} (h1 : Blk W LB 32 [v]) (h3 : ∀ j, v.ownBlock = some j → ∃ o, W.heap[j]? = some o ∧ o.isCells = true) (hLB : LB < R)
    (h2 : Wide 32 W R v (rv xs)) (hw : Wide 32 W1 R v' (rv xs ++ bv r)) (hg : Grew (W.alloc o) v W1 v') (hr : r.length = 32) :
    HoldsR LB R (xs ++ [r]) (W1.setCell ⟨LB, 0, none⟩ v') ∧ KeepsFrom R W (W1.setCell ⟨LB, 0, none⟩ v') ∧ KpB LB R W (W1.setCell ⟨LB, 0, none⟩ v') ∧ Blk W1 LB 32 [v] ∧ (∀ B0, B0 ≤ LB → Below B0 W (W1.setCell ⟨LB, 0, none⟩ v')) ∧ Kept (LB :: ownL v) W (W1.setCell ⟨LB, 0, none⟩ v') := by
  have hvo : ∀ j, v.ownBlock = some j → R ≤ j := h2.own
  have hx0 : 0 < (rv xs ++ bv r).length := by rw [List.length_append, bv_length, hr]; omega
  have hk1 : Kept (ownL v) W W1 := (Kept.of_below _ ((Below.refl _ W).alloc (Nat.le_refl _) o)).trans (Kept.of_grown _ hg.grown (fun j hj => mem_ownL.2 hj)) (NewF.refl _ _)
  have hLv : LB ∉ ownL v := fun hm => by have := hvo LB (mem_ownL.1 hm); omega
  have hb1 : Blk W1 LB 32 [v] := h1.kept hk1 hLv
  have hLv' : v'.ownBlock ≠ some LB := fun e => by have := hw.own LB e; omega
  have hk2 : Kept [LB] W1 (W1.setCell ⟨LB, 0, none⟩ v') := (Kept.refl _ _).setCell _ _ (.inl (by simp))
  have hk : Kept (LB :: ownL v) W (W1.setCell ⟨LB, 0, none⟩ v') := (hk1.mono (fun x hx => List.mem_cons_of_mem _ hx)).trans (hk2.mono (fun x hx => by simp at hx; rw [hx]; exact List.mem_cons_self)) (NewF.refl _ _)
  have hb2 : Blk (W1.setCell ⟨LB, 0, none⟩ v') LB 32 [v'] := hb1.set 0 v'
  have hw2 : Wide 32 (W1.setCell ⟨LB, 0, none⟩ v') R v' (rv (xs ++ [r])) := by
    rw [rv_append, rv_sole]
    exact hw.kept hk2 (fun j hj hm => by simp at hm; subst hm; exact hLv' hj)
  refine ⟨⟨v', hb2, hw2, fun j hj => ?_⟩, ⟨hk.size, fun k o2 hkR h0 hc => (hk.block k (Array.getElem?_eq_some_iff.1 h0).1 (fun hm => ?_)).trans h0⟩, KpB.of_kept hk (fun x hx => by rw [sb_of h1]; exact hx) (fun x hx => ?_), hb1, fun B0 hB => hk.below (by have := h1.lt; omega) (fun x hx => ?_), hk⟩
  · obtain ⟨n, cap, g, off, ao, e, ha⟩ := hw2
    have hc : 0 < cap := by
      have h5 := ha.len
      have h6 := ha.le
      rw [rv_append, rv_sole] at h5
      rcases Nat.eq_zero_or_pos n with hn | hn
      · rw [hn, Nat.zero_mul] at h5; omega
      · omega
    rw [e, ha.addr hc] at hj
    simp [Value.ownBlock] at hj
    subst hj
    have h7 := ha.room 0 (Nat.mul_pos hc (by decide))
    cases hq : (W1.setCell ⟨LB, 0, none⟩ v').heap[g]? with
    | none => simp [World.cell?, hq] at h7
    | some ob =>
      refine ⟨ob, rfl, ?_⟩
      cases ob with
      | cells _ _ _ => rfl
      | _ => simp [World.cell?, hq] at h7
  · rcases List.mem_cons.1 hm with rfl | hm
    · omega
    · obtain ⟨o3, h4, h5⟩ := h3 k (mem_ownL.1 hm)
      rw [h0] at h4; cases h4; rw [hc] at h5; cases h5
  · rw [sb_of hb2] at hx
    rw [sb_of h1]
    rcases List.mem_cons.1 hx with rfl | hx
    · exact .inl List.mem_cons_self
    · rcases hg.own with h5 | ⟨j, h5, h6⟩
      · exact .inl (List.mem_cons_of_mem _ (mem_ownL.2 (h5 ▸ mem_ownL.1 hx)))
      · rw [mem_ownL, h5] at hx
        cases hx
        simp at h6
        exact .inr (by omega)
  · rcases List.mem_cons.1 hx with rfl | hx
    · exact hB
    · have := hvo x (mem_ownL.1 hx); omega
end Go.Proofs.Ytmchjmcdlapegaa
