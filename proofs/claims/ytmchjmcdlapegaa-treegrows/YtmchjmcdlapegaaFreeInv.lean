/-
  Regions whose operations come in any order, with one condition of one's own on which have come up, their values and the world (..Free has a condition on each value alone). It holds of every program.
-/
import Derived.Test.YtmchjmcdlapegaaFree
namespace Go.Proofs.Ytmchjmcdlapegaa
open Go Go.RowKit

variable {P : Program}

def turnOn (h : Nat → Bool) (i : Nat) : Nat → Bool := fun j => if j = i then true else h j
def turnTo (s : Nat → Value) (i : Nat) (v : Value) : Nat → Value := fun j => if j = i then v else s j

def freeStepsI (P : Program) (ops : Array Oper) (Inv : (Nat → Bool) → (Nat → Value) → World → Prop) (s : Nat → Value) : Nat → List Oper → Act → Prop
  | _, [], _ => True
  | i, o :: t, a => (∀ h w, h i = false → (∀ j ∈ waits o, h j = true) → Inv h s w → stepAt P ops o a w fun v w' => Inv (turnOn h i) (turnTo s i v) w') ∧ freeStepsI P ops Inv s (i + 1) t (a.put o.dst (s i))

theorem stepsI_at {Inv : (Nat → Bool) → (Nat → Value) → World → Prop} {ops : Array Oper} {s : Nat → Value} : ∀ (t : List Oper) (k : Nat) (a : Act) (i : Nat) (o : Oper), freeStepsI P ops Inv s k t a → t[i]? = some o →
    ∀ h w, h (k + i) = false → (∀ j ∈ waits o, h j = true) → Inv h s w → stepAt P ops o (putAll s k (t.take i) a) w fun v w' => Inv (turnOn h (k + i)) (turnTo s (k + i) v) w'
  | [], _, _, i, o, _, h => by simp at h
  | o0 :: t, k, a, 0, o, hs, h => by
    simp only [List.getElem?_cons_zero, Option.some.injEq] at h
    subst h
    exact hs.1
  | o0 :: t, k, a, i + 1, o, hs, h => by
    have := stepsI_at t (k + 1) (a.put o0.dst (s k)) i o hs.2 (by simpa using h)
    rw [List.take_succ_cons, putAll, show k + (i + 1) = k + 1 + i by omega]
    exact this

/-- The marks as a function. -/
def onAt (h : Array Bool) : Nat → Bool := fun j => h.getD j false
theorem onAt_set {h : Array Bool} {i n : Nat} (hz : h.size = n) (hi : i < n) : onAt (h.setIfInBounds i true) = turnOn (onAt h) i := by
  funext j
  unfold onAt turnOn
  by_cases hj : j = i
  · subst hj; simp [hz, hi]
  · rw [if_neg hj, getD_set_ne false (Ne.symm hj)]

variable {Inv : (Nat → Bool) → (Nat → Value) → World → Prop} {Q : Exit → Act → World → Prop} {l : List Oper} {n : Nat} {a0 : Act}

theorem freeI_then (hn : n ≤ l.length) (hb : backB l n = true) (hB : slotsB l n a0.tmps.size = true) (htail : n = l.length ∨ (Region.sinkB .any l.toArray n = true ∧ Region.chainB .any l.toArray n = true)) (hseq : Region.seqB .any l.toArray (l.length - n) n (marks (Array.replicate n true) (l.length - n)) = true)
    (hsteps : ∀ s, freeStepsI P l.toArray Inv s 0 (l.take n) a0)
    (hend : ∀ h s w', (∀ i, i < n → h i = true) → Inv h s w' → wpList P l.toArray Q (l.drop n) (putAll s 0 (l.take n) a0) w') :
    ∀ (f : Nat) (h : Array Bool) (s : Nat → Value) (a : Act) (w : World), h.size = n → wanting h n ≤ f → HeadInv .any l.toArray n (marks h (l.length - n)) → Cur l n a0 h s a → Inv (onAt h) s w →
      wpAny P .any l.toArray Q (f + (l.length - n)) (marks h (l.length - n)) a w := by
  intro f
  induction f with
  | zero =>
    intro h s a w hz hf inv c hI
    have hall := wanting_zero (Nat.le_zero.1 hf)
    obtain rfl : h = Array.replicate n true := by
      apply Array.ext
      · simpa using hz
      · intro i h1 h2
        have := hall i (by omega)
        simpa [Array.getD_eq_getD_getElem?, h1] using this
    rw [c.whole hB, Nat.zero_add]
    exact tail_any (l.drop n) n _ _ _ w (fun j => by simp [List.getElem?_drop]) (by simp) (by simpa using hseq) (hend _ s w (fun i hi => by simp [onAt, hi]) hI)
  | succ f ih =>
    intro h s a w hz hf inv c hI
    by_cases hex : ∃ j, j < n ∧ h.getD j true = false
    · obtain ⟨j, hj, hun⟩ := hex
      rw [show f + 1 + (l.length - n) = (f + (l.length - n)) + 1 by omega]
      have hmv := head_moves hb hz j hj hun
      refine ⟨fun he => ?_, fun i hi => ?_⟩
      · cases h0 : Region.ready .any (l.take n).toArray h with
        | nil => exact absurd h0 hmv
        | cons k ks =>
          have hk : k ∈ Region.ready .any (l.take n).toArray h := by rw [h0]; simp
          have hkn : k < n := by
            obtain ⟨_, o, ho, _⟩ := mem_ready.1 hk
            have := (Array.getElem?_eq_some_iff.1 ho).1
            simp at this
            omega
          have := (ready_head (g := l.length - n) hb hz hkn).1 hk
          rw [he] at this
          cases this
      · have hin : i < n := by
          rcases htail with he | ⟨hs, hc⟩
          · obtain ⟨_, o, ho, _⟩ := mem_ready.1 hi
            have := (Array.getElem?_eq_some_iff.1 ho).1
            simp at this
            omega
          · refine Nat.lt_of_not_le fun hle => ?_
            by_cases hnl : n < l.length
            · exact tail_waits hs hc (by simpa using hnl) inv _ j rfl hj (by rw [marks_low true (by omega)]; exact hun) i hle hi
            · obtain ⟨_, o, ho, _⟩ := mem_ready.1 hi
              have := (Array.getElem?_eq_some_iff.1 ho).1
              simp at this
              omega
        obtain ⟨hui, o, ho, hafter⟩ := mem_ready.1 hi
        rw [marks_low true (by omega)] at hui
        obtain ⟨o', d, ho', hd, hdz, hu, hlk, hpl⟩ := slots_spec hB hin
        obtain rfl : o = o' := by
          have : l[i]? = some o := by simpa using ho
          exact Option.some.inj (this.symm.trans ho')
        obtain ⟨ob, hob, hback, _⟩ := back_spec hb hin
        obtain rfl : o = ob := Option.some.inj (ho'.symm.trans hob)
        have hw : ∀ j ∈ waits o, h.getD j false = true ∧ j < n := fun j hj => by
          unfold waits at hj
          obtain ⟨e, he, rfl⟩ := List.mem_map.1 hj
          obtain ⟨he1, he2⟩ := List.mem_filter.1 he
          have he1' : e ∈ o.after := by simpa using he1
          have h1 := hback e he1' he2
          have h2 := hafter e he1' he2
          rw [marks_low false (by omega)] at h2
          exact ⟨h2, by omega⟩
        have hst := stepsI_at (l.take n) 0 a0 i o (hsteps s) (by rw [List.getElem?_take, if_pos hin]; exact ho') (onAt h) w (by
          rw [Nat.zero_add]
          unfold onAt
          have : i < h.size := by omega
          simpa [Array.getD_eq_getD_getElem?, this] using hui) (fun j hj => (hw j hj).1) hI
        rw [Nat.zero_add, List.take_take, Nat.min_eq_left (by omega)] at hst
        refine wpOp_of_step (b := putAll s 0 (l.take i) a0) ho hpl (c.looks hB rfl hin ho' fun j hj => (hw j hj).1) hd (by rw [putAll_size]; exact hdz) hst fun v w' hv => ?_
        have inv' := inv.set hi hin
        rw [marks_set (by omega)] at inv' ⊢
        refine ih (h.setIfInBounds i true) (turnTo s i v) _ w' (by simpa using hz) (by have := wanting_less hz hin hui; omega) inv' (c.step hB hz rfl hin ho' hd hui v) ?_
        rw [onAt_set hz hin]
        exact hv
    · have hf' : wanting h n ≤ 0 := by
        unfold wanting
        rw [Nat.le_zero, List.length_eq_zero_iff, List.filter_eq_nil_iff]
        intro j hj
        have hjn := List.mem_range.1 hj
        cases hv : h.getD j true with
        | true => simp
        | false => exact absurd ⟨j, hjn, hv⟩ hex
      have hall := wanting_zero (Nat.le_zero.1 hf')
      obtain rfl : h = Array.replicate n true := by
        apply Array.ext
        · simpa using hz
        · intro i h1 h2
          have := hall i (by omega)
          simpa [Array.getD_eq_getD_getElem?, h1] using this
      rw [c.whole hB]
      exact tail_any (l.drop n) n _ _ _ w (fun j => by simp [List.getElem?_drop]) (by simp) (by simpa using hseq) (hend _ s w (fun i hi => by simp [onAt, hi]) hI)

theorem wp_region_freeI {id : Nat} {w : World} (n : Nat) (Inv : (Nat → Bool) → (Nat → Value) → World → Prop) (hm : P.follows .mixedOrders = true) (hB : freeB l n a0.tmps.size = true) (hI : ∀ s, Inv (fun _ => false) s w.drew)
    (hsteps : ∀ s, freeStepsI P l.toArray Inv s 0 (l.take n) a0)
    (hend : ∀ h s w', (∀ i, i < n → h i = true) → Inv h s w' → wpList P l.toArray Q (l.drop n) (putAll s 0 (l.take n) a0) w') : (Code.region id l.toArray true).wp P Q a0 w := by
  simp only [freeB, Bool.and_eq_true, Bool.or_eq_true, decide_eq_true_eq] at hB
  obtain ⟨⟨⟨⟨hn, hb⟩, hs⟩, ht⟩, hq⟩ := hB
  refine wp_region_any hm ?_
  have h2 := freeI_then (P := P) (Q := Q) hn hb hs ht hq hsteps hend n (Array.replicate n false) (fun _ => undef) a0 w.drew (by simp) (by unfold wanting; exact Nat.le_trans (List.length_filter_le _ _) (by simp)) ⟨by simp [marks]; omega, fun j oj _ hl => by
      exfalso
      by_cases hj : j < n
      · rw [marks_low false (by simpa using hj)] at hl
        simp [hj] at hl
      · simp [marks, Array.getD_eq_getD_getElem?] at hl
        simp [Array.getElem?_replicate] at hl
        split at hl <;> simp at hl, fun t ht ht' => by
      have h3 : t < n + (l.length - n) := by simp at ht'; omega
      simp [marks, Array.getD_eq_getD_getElem?, h3]⟩ (Cur.start l n a0 _) (by
      have e : onAt (Array.replicate n false) = fun _ => false := by
        funext j
        unfold onAt
        by_cases hj : j < n <;> simp [Array.getD_eq_getD_getElem?, hj]
      rw [e]
      exact hI _)
  have e : marks (Array.replicate n false) (l.length - n) = Array.replicate l.toArray.size false := by
    unfold marks
    rw [Array.replicate_append_replicate]
    congr 1
    simp
    omega
  rw [e, show n + (l.length - n) = l.toArray.size by simp; omega] at h2
  exact h2
end Go.Proofs.Ytmchjmcdlapegaa
