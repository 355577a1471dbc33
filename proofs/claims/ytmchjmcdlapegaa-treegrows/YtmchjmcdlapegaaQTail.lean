/-
  A region that draws its order, in two parts: the first n operations, which are quiet in a class of worlds, make a region of their own; the others wait for all of them, and come in one order. So the first part is walked once, by the library's walk of quiet regions, and then the others. It holds of every program.
-/
import Derived.StillTail
import Derived.Deep.Quiet
import Derived.Below
namespace Go.Proofs.Ytmchjmcdlapegaa
open Go Go.RowKit

variable {P : Program} {C : World → Prop}

/-- The head's marks, and none of the tail's. -/
def marks (h : Array Bool) (g : Nat) : Array Bool := h ++ Array.replicate g false

theorem marks_low {h : Array Bool} {g j : Nat} (d : Bool) (hj : j < h.size) : (marks h g).getD j d = h.getD j d := by
  simp [marks, Array.getD_eq_getD_getElem?, Array.getElem?_append_left hj]
theorem marks_set {h : Array Bool} {g i : Nat} (hi : i < h.size) : (marks h g).setIfInBounds i true = marks (h.setIfInBounds i true) g := by
  unfold marks
  apply Array.ext_getElem?
  intro j
  by_cases hij : i = j
  · subst hij
    simp [Array.getElem?_append, hi]
  · rw [Array.getElem?_setIfInBounds_ne hij]
    by_cases hj : j < h.size
    · rw [Array.getElem?_append_left hj, Array.getElem?_append_left (by simpa using hj), Array.getElem?_setIfInBounds_ne hij]
    · rw [Array.getElem?_append_right (by omega), Array.getElem?_append_right (by simp; omega)]
      simp

/-- Each of the first n operations looks back alone. -/
def backB (l : List Oper) (n : Nat) : Bool :=
  (List.range n).all fun i => match l[i]? with
    | some o => (o.after.all fun e => !Region.binds .any e || decide (e.on < i)) && (match o.guard with | none => true | some (k, _) => decide (k < i))
    | none => false

theorem back_spec {l : List Oper} {n i : Nat} (h : backB l n = true) (hi : i < n) : ∃ o, l[i]? = some o ∧ (∀ e ∈ o.after, Region.binds .any e = true → e.on < i) ∧ ∀ k b, o.guard = some (k, b) → k < i := by
  have h1 := List.all_eq_true.1 h i (List.mem_range.2 hi)
  cases ho : l[i]? with
  | none => rw [ho] at h1; cases h1
  | some o =>
    rw [ho] at h1
    simp only [Bool.and_eq_true] at h1
    refine ⟨o, rfl, fun e he hbi => by simpa [hbi] using (Array.all_eq_true_iff_forall_mem.1 h1.1) e he, fun k b hg => ?_⟩
    have h2 := h1.2
    rw [hg] at h2
    simpa using h2

theorem take_at {l : List Oper} {n i : Nat} (hi : i < n) : (l.take n).toArray[i]? = l.toArray[i]? := by
  simp [hi]

/-- What may come up next in the head may come up in the whole, and the other way round. -/
theorem ready_head {l : List Oper} {n g i : Nat} {h : Array Bool} (hb : backB l n = true) (hs : h.size = n) (hi : i < n) :
    i ∈ Region.ready .any (l.take n).toArray h ↔ i ∈ Region.ready .any l.toArray (marks h g) := by
  rw [mem_ready, mem_ready, marks_low true (by omega), take_at hi]
  obtain ⟨o, ho, hd, _⟩ := back_spec hb hi
  have ho' : l.toArray[i]? = some o := by simpa using ho
  constructor
  · rintro ⟨h1, o', h2, h3⟩
    obtain rfl : o = o' := Option.some.inj (ho'.symm.trans h2)
    exact ⟨h1, o, h2, fun e he hbi => by rw [marks_low false (by have := hd e he hbi; omega)]; exact h3 e he hbi⟩
  · rintro ⟨h1, o', h2, h3⟩
    obtain rfl : o = o' := Option.some.inj (ho'.symm.trans h2)
    exact ⟨h1, o, h2, fun e he hbi => by have := h3 e he hbi; rwa [marks_low false (by have := hd e he hbi; omega)] at this⟩

/-- As long as one of the head is wanting, one of it may come up: the first that is wanting. -/
theorem head_moves {l : List Oper} {n : Nat} {h : Array Bool} (hb : backB l n = true) (hs : h.size = n) : ∀ i, i < n → h.getD i true = false → Region.ready .any (l.take n).toArray h ≠ [] := by
  intro i
  induction i using Nat.strongRecOn with
  | _ i ih =>
    intro hi hun
    by_cases hall : ∀ j, j < i → h.getD j true = true
    · obtain ⟨o, ho, hd, _⟩ := back_spec hb hi
      have hm : i ∈ Region.ready .any (l.take n).toArray h := mem_ready.2 ⟨hun, o, by rw [take_at hi]; simpa using ho, fun e he hbi => by
        have h1 := hd e he hbi
        have h2 := hall e.on h1
        have h3 : e.on < h.size := by omega
        simpa [Array.getD_eq_getD_getElem?, h3] using h2⟩
      intro h0
      rw [h0] at hm
      cases hm
    · have ⟨j, hj⟩ : ∃ j, ¬ (j < i → h.getD j true = true) := Classical.not_forall.1 hall
      have hji : j < i := Classical.byContradiction fun h => hj fun h' => absurd h' h
      exact ih j hji (by omega) (by
        cases hv : h.getD j true with
        | false => rfl
        | true => exact absurd (fun _ => hv) hj)

/-- .. so where nothing may come up, nothing is wanting. -/
theorem head_whole {l : List Oper} {n : Nat} {h : Array Bool} (hb : backB l n = true) (hs : h.size = n) (h0 : Region.ready .any (l.take n).toArray h = []) : h = Array.replicate n true := by
  apply Array.ext
  · simpa using hs
  · intro i h1 h2
    have hi : i < n := by omega
    have : h.getD i true = true := by
      cases hv : h.getD i true with
      | true => rfl
      | false => exact absurd h0 (head_moves hb hs i hi hv)
    simpa [Array.getD_eq_getD_getElem?, h1] using this

theorem qOp_head {l : List Oper} {n i : Nat} {K : Act → Prop} {a : Act} (hb : backB l n = true) (hi : i < n) (h : qOp P (l.take n).toArray C i K a) : qOp P l.toArray C i K a := by
  obtain ⟨o, ho, _, hg⟩ := back_spec hb hi
  have ho' : l.toArray[i]? = some o := by simpa using ho
  unfold qOp at h ⊢
  rw [take_at hi, ho'] at h
  rw [ho']
  have hw : Region.wanted o (yielded (l.take n).toArray a.tmps) = Region.wanted o (yielded l.toArray a.tmps) := by
    unfold Region.wanted
    cases hgd : o.guard with
    | none => rfl
    | some p =>
      obtain ⟨k, b⟩ := p
      have hk := hg k b hgd
      simp only [yielded, take_at (l := l) (show k < n by omega)]
  simpa [hw] using h

/-- The tail, in its one order; fuel may be left over. -/
theorem tail_any {md : Region.Mode} {ops : Array Oper} {Q : Exit → Act → World → Prop} : ∀ (t : List Oper) (k g : Nat) (m : Array Bool) (a : Act) (w : World), (∀ j, t[j]? = ops[k + j]?) → t.length ≤ g → Region.seqB md ops t.length k m = true →
    wpList P ops Q t a w → wpAny P md ops Q g m a w
  | [], k, g, m, a, w, _, _, hB, h => by
    have h0 : Region.ready md ops m = [] := by simpa [Region.seqB] using hB
    cases g with
    | zero => exact ⟨h0, h⟩
    | succ g => exact ⟨fun _ => h, fun i hi => by rw [h0] at hi; cases hi⟩
  | o :: t, k, g, m, a, w, hl, hg, hB, h => by
    obtain ⟨g, rfl⟩ : ∃ g', g = g' + 1 := ⟨g - 1, by simp at hg; omega⟩
    simp only [List.length_cons, Region.seqB, Bool.and_eq_true, decide_eq_true_eq] at hB
    refine ⟨fun h1 => absurd (hB.1.symm.trans h1) (by simp), fun i hi => ?_⟩
    obtain rfl : i = k := by rw [hB.1] at hi; simpa using hi
    have ho : ops[i]? = some o := by simpa using (hl 0).symm
    refine wpOp_mono (fun a' w' h' => tail_any t (i + 1) g _ a' w' (fun j => ?_) (by simp at hg; omega) hB.2 h') (by unfold wpOp; simp only [ho]; exact h)
    have := hl (j + 1)
    simpa [Nat.add_assoc, Nat.add_comm 1 j] using this

theorem head_then {l : List Oper} {n g : Nat} {Q : Exit → Act → World → Prop} {Q' : Act → Prop} (hb : backB l n = true) (hs : Region.sinkB .any l.toArray n = true) (hc : Region.chainB .any l.toArray n = true) (hn : n < l.toArray.size)
    (hend : ∀ k a w, g ≤ k → C w → Q' a → wpAny P .any l.toArray Q k (marks (Array.replicate n true) g) a w) :
    ∀ (f : Nat) (h : Array Bool) (a : Act) (w : World), h.size = n → HeadInv .any l.toArray n (marks h g) → C w → wpAnyQ P .any (l.take n).toArray C Q' f h a → wpAny P .any l.toArray Q (f + g) (marks h g) a w
  | 0, h, a, w, hz, _, hw, hq => by
    rw [head_whole hb hz hq.1]
    exact hend _ a w (by omega) hw hq.2
  | f + 1, h, a, w, hz, inv, hw, hq => by
    cases h0 : Region.ready .any (l.take n).toArray h with
    | nil =>
      rw [head_whole hb hz h0]
      exact hend _ a w (by omega) hw (hq.1 h0)
    | cons j js =>
      have hj : j ∈ Region.ready .any (l.take n).toArray h := by rw [h0]; simp
      have hjn : j < n := by
        obtain ⟨_, o, ho, _⟩ := mem_ready.1 hj
        have := (Array.getElem?_eq_some_iff.1 ho).1
        simp at this
        omega
      have hju : (marks h g).getD j true = false := by rw [marks_low true (by omega)]; exact (mem_ready.1 hj).1
      rw [show f + 1 + g = (f + g) + 1 by omega]
      refine ⟨fun he => ?_, fun i hi => ?_⟩
      · have := (ready_head (g := g) hb hz hjn).1 hj
        rw [he] at this
        cases this
      · have hin : i < n := Nat.lt_of_not_le fun hle => tail_waits hs hc hn inv _ j rfl hjn hju i hle hi
        have hi' := (ready_head hb hz hin).2 hi
        have inv' := inv.set hi hin
        rw [marks_set (by omega)] at inv' ⊢
        exact wpOp_of_qOp hw (fun a' w' hw' hq' => head_then hb hs hc hn hend f _ a' w' (by simpa using hz) inv' hw' hq') (qOp_head hb hin (hq.2 i hi'))

/-- All that is asked of the region. -/
def twoB (l : List Oper) (n : Nat) : Bool :=
  decide (n < l.length) && backB l n && Region.sinkB .any l.toArray n && Region.chainB .any l.toArray n && Region.lexB .any (l.take n).toArray && Region.seqB .any l.toArray (l.length - n) n (marks (Array.replicate n true) (l.length - n))

theorem wp_region_quiet_tail {id : Nat} {Q : Exit → Act → World → Prop} {a : Act} {w : World} {l : List Oper} (n : Nat) (hm : P.follows .mixedOrders = true) (hB : twoB l n = true) (hC : C w.drew)
    (h : wpQuiet P (l.take n).toArray C (fun a' => ∀ w', C w' → wpList P l.toArray Q (l.drop n) a' w') (l.take n) a) : (Code.region id l.toArray true).wp P Q a w := by
  simp only [twoB, Bool.and_eq_true, decide_eq_true_eq] at hB
  obtain ⟨⟨⟨⟨⟨hn, hb⟩, hs⟩, hc⟩, hx⟩, hq⟩ := hB
  simp only [Region.lexB, Bool.and_eq_true] at hx
  refine wp_region_any hm ?_
  have hl : (l.take n).length = n := by simp; omega
  have h1 := wpAnyQ_lex (P := P) (C := C) (md := .any) hx.1 (l.take n) 0 (Array.replicate (l.take n).toArray.size false) a (by simp) (by simpa using hx.2) h
  rw [hl] at h1
  have h2 := head_then (P := P) (C := C) (Q := Q) (Q' := fun a' => ∀ w', C w' → wpList P l.toArray Q (l.drop n) a' w') (g := l.length - n) hb hs hc (by simpa using hn) (fun k a' w' hk hw' hq' => tail_any (l.drop n) n k _ a' w' (fun j => by simp [List.getElem?_drop]) (by simp; omega) (by simpa using hq) (hq' w' hw')) n (Array.replicate n false) a w.drew (by simp)
    ⟨by simp [marks]; omega, fun j oj _ hl => by
      exfalso
      by_cases hj : j < n
      · rw [marks_low false (by simpa using hj)] at hl
        simp [hj] at hl
      · simp [marks, Array.getD_eq_getD_getElem?] at hl
        simp [Array.getElem?_replicate] at hl
        split at hl <;> simp at hl, fun t ht ht' => by
      have h3 : t < n + (l.length - n) := by simp at ht'; omega
      simp [marks, Array.getD_eq_getD_getElem?, h3]⟩ hC (by simpa [hl] using h1)
  have e : marks (Array.replicate n false) (l.length - n) = Array.replicate l.toArray.size false := by
    unfold marks
    rw [Array.replicate_append_replicate]
    congr 1
    simp
    omega
  rw [e, show n + (l.length - n) = l.toArray.size by simp; omega] at h2
  exact h2

/-- .. in the worlds that some draws lead to. -/
theorem wp_region_draws_tail {id : Nat} {Q : Exit → Act → World → Prop} {a : Act} {w : World} {l : List Oper} (n : Nat) (hm : P.follows .mixedOrders = true) (hB : twoB l n = true)
    (h : wpQuiet P (l.take n).toArray (fun w' => ∃ n, w' = w.drewN n) (fun a' => ∀ w', (∃ n, w' = w.drewN n) → wpList P l.toArray Q (l.drop n) a' w') (l.take n) a) : (Code.region id l.toArray true).wp P Q a w :=
  wp_region_quiet_tail n hm hB ⟨1, rfl⟩ h
end Go.Proofs.Ytmchjmcdlapegaa
