/-
  The texts QTail, Free, FreeInv, FreeKill, one behind the other.
-/
import Derived.StillTail
import Derived.Deep.Quiet
import Derived.Below
/-
  A region that draws its order, in two parts: the first n operations, which are quiet in a class of worlds, make a region of their own; the others wait for all of them, and come in one order. So the first part is walked once, by the library's walk of quiet regions, and then the others. It holds of every program.
-/
namespace Go.Proofs.Ytoinigcfcjllcaa
open Go Go.RowKit

variable {P : Program} {C : World → Prop}

/-- The head's marks, and none of the tail's. -/
def marks (h : Array Bool) (g : Nat) : Array Bool := h ++ Array.replicate g false

theorem marks_low {h : Array Bool} {g j : Nat} (d : Bool) (hj : j < h.size) : (marks h g).getD j d = h.getD j d := by
  simp [marks, Array.getD_eq_getD_getElem?, Array.getElem?_append_left hj]
theorem marks_set {h : Array Bool} {g i : Nat} (hi : i < h.size) : (marks h g).setIfInBounds i true = marks (h.setIfInBounds i true) g := by
  unfold marks
  apply Array.ext_getElem?
  intro j
  by_cases hij : i = j
  · subst hij
    simp [Array.getElem?_append, hi]
  · rw [Array.getElem?_setIfInBounds_ne hij]
    by_cases hj : j < h.size
    · rw [Array.getElem?_append_left hj, Array.getElem?_append_left (by simpa using hj), Array.getElem?_setIfInBounds_ne hij]
    · rw [Array.getElem?_append_right (by omega), Array.getElem?_append_right (by simp; omega)]
      simp

/-- Each of the first n operations looks back alone. -/
def backB (l : List Oper) (n : Nat) : Bool :=
  (List.range n).all fun i => match l[i]? with
    | some o => (o.after.all fun e => !Region.binds .any e || decide (e.on < i)) && (match o.guard with | none => true | some (k, _) => decide (k < i))
    | none => false

theorem back_spec {l : List Oper} {n i : Nat} (h : backB l n = true) (hi : i < n) : ∃ o, l[i]? = some o ∧ (∀ e ∈ o.after, Region.binds .any e = true → e.on < i) ∧ ∀ k b, o.guard = some (k, b) → k < i := by
  have h1 := List.all_eq_true.1 h i (List.mem_range.2 hi)
  cases ho : l[i]? with
  | none => rw [ho] at h1; cases h1
  | some o =>
    rw [ho] at h1
    simp only [Bool.and_eq_true] at h1
    refine ⟨o, rfl, fun e he hbi => by simpa [hbi] using (Array.all_eq_true_iff_forall_mem.1 h1.1) e he, fun k b hg => ?_⟩
    have h2 := h1.2
    rw [hg] at h2
    simpa using h2

theorem take_at {l : List Oper} {n i : Nat} (hi : i < n) : (l.take n).toArray[i]? = l.toArray[i]? := by
  simp [hi]

/-- What may come up next in the head may come up in the whole, and the other way round. -/
theorem ready_head {l : List Oper} {n g i : Nat} {h : Array Bool} (hb : backB l n = true) (hs : h.size = n) (hi : i < n) :
    i ∈ Region.ready .any (l.take n).toArray h ↔ i ∈ Region.ready .any l.toArray (marks h g) := by
  rw [mem_ready, mem_ready, marks_low true (by omega), take_at hi]
  obtain ⟨o, ho, hd, _⟩ := back_spec hb hi
  have ho' : l.toArray[i]? = some o := by simpa using ho
  constructor
  · rintro ⟨h1, o', h2, h3⟩
    obtain rfl : o = o' := Option.some.inj (ho'.symm.trans h2)
    exact ⟨h1, o, h2, fun e he hbi => by rw [marks_low false (by have := hd e he hbi; omega)]; exact h3 e he hbi⟩
  · rintro ⟨h1, o', h2, h3⟩
    obtain rfl : o = o' := Option.some.inj (ho'.symm.trans h2)
    exact ⟨h1, o, h2, fun e he hbi => by have := h3 e he hbi; rwa [marks_low false (by have := hd e he hbi; omega)] at this⟩

/-- As long as one of the head is wanting, one of it may come up: the first that is wanting. -/
theorem head_moves {l : List Oper} {n : Nat} {h : Array Bool} (hb : backB l n = true) (hs : h.size = n) : ∀ i, i < n → h.getD i true = false → Region.ready .any (l.take n).toArray h ≠ [] := by
  intro i
  induction i using Nat.strongRecOn with
  | _ i ih =>
    intro hi hun
    by_cases hall : ∀ j, j < i → h.getD j true = true
    · obtain ⟨o, ho, hd, _⟩ := back_spec hb hi
      have hm : i ∈ Region.ready .any (l.take n).toArray h := mem_ready.2 ⟨hun, o, by rw [take_at hi]; simpa using ho, fun e he hbi => by
        have h1 := hd e he hbi
        have h2 := hall e.on h1
        have h3 : e.on < h.size := by omega
        simpa [Array.getD_eq_getD_getElem?, h3] using h2⟩
      intro h0
      rw [h0] at hm
      cases hm
    · have ⟨j, hj⟩ : ∃ j, ¬ (j < i → h.getD j true = true) := Classical.not_forall.1 hall
      have hji : j < i := Classical.byContradiction fun h => hj fun h' => absurd h' h
      exact ih j hji (by omega) (by
        cases hv : h.getD j true with
        | false => rfl
        | true => exact absurd (fun _ => hv) hj)

/-- .. so where nothing may come up, nothing is wanting. -/
theorem head_whole {l : List Oper} {n : Nat} {h : Array Bool} (hb : backB l n = true) (hs : h.size = n) (h0 : Region.ready .any (l.take n).toArray h = []) : h = Array.replicate n true := by
  apply Array.ext
  · simpa using hs
  · intro i h1 h2
    have hi : i < n := by omega
    have : h.getD i true = true := by
      cases hv : h.getD i true with
      | true => rfl
      | false => exact absurd h0 (head_moves hb hs i hi hv)
    simpa [Array.getD_eq_getD_getElem?, h1] using this

theorem qOp_head {l : List Oper} {n i : Nat} {K : Act → Prop} {a : Act} (hb : backB l n = true) (hi : i < n) (h : qOp P (l.take n).toArray C i K a) : qOp P l.toArray C i K a := by
  obtain ⟨o, ho, _, hg⟩ := back_spec hb hi
  have ho' : l.toArray[i]? = some o := by simpa using ho
  unfold qOp at h ⊢
  rw [take_at hi, ho'] at h
  rw [ho']
  have hw : Region.wanted o (yielded (l.take n).toArray a.tmps) = Region.wanted o (yielded l.toArray a.tmps) := by
    unfold Region.wanted
    cases hgd : o.guard with
    | none => rfl
    | some p =>
      obtain ⟨k, b⟩ := p
      have hk := hg k b hgd
      simp only [yielded, take_at (l := l) (show k < n by omega)]
  simpa [hw] using h

/-- The tail, in its one order; fuel may be left over. -/
theorem tail_any {md : Region.Mode} {ops : Array Oper} {Q : Exit → Act → World → Prop} : ∀ (t : List Oper) (k g : Nat) (m : Array Bool) (a : Act) (w : World), (∀ j, t[j]? = ops[k + j]?) → t.length ≤ g → Region.seqB md ops t.length k m = true →
    wpList P ops Q t a w → wpAny P md ops Q g m a w
  | [], k, g, m, a, w, _, _, hB, h => by
    have h0 : Region.ready md ops m = [] := by simpa [Region.seqB] using hB
    cases g with
    | zero => exact ⟨h0, h⟩
    | succ g => exact ⟨fun _ => h, fun i hi => by rw [h0] at hi; cases hi⟩
  | o :: t, k, g, m, a, w, hl, hg, hB, h => by
    obtain ⟨g, rfl⟩ : ∃ g', g = g' + 1 := ⟨g - 1, by simp at hg; omega⟩
    simp only [List.length_cons, Region.seqB, Bool.and_eq_true, decide_eq_true_eq] at hB
    refine ⟨fun h1 => absurd (hB.1.symm.trans h1) (by simp), fun i hi => ?_⟩
    obtain rfl : i = k := by rw [hB.1] at hi; simpa using hi
    have ho : ops[i]? = some o := by simpa using (hl 0).symm
    refine wpOp_mono (fun a' w' h' => tail_any t (i + 1) g _ a' w' (fun j => ?_) (by simp at hg; omega) hB.2 h') (by unfold wpOp; simp only [ho]; exact h)
    have := hl (j + 1)
    simpa [Nat.add_assoc, Nat.add_comm 1 j] using this

theorem head_then {l : List Oper} {n g : Nat} {Q : Exit → Act → World → Prop} {Q' : Act → Prop} (hb : backB l n = true) (hs : Region.sinkB .any l.toArray n = true) (hc : Region.chainB .any l.toArray n = true) (hn : n < l.toArray.size)
    (hend : ∀ k a w, g ≤ k → C w → Q' a → wpAny P .any l.toArray Q k (marks (Array.replicate n true) g) a w) :
    ∀ (f : Nat) (h : Array Bool) (a : Act) (w : World), h.size = n → HeadInv .any l.toArray n (marks h g) → C w → wpAnyQ P .any (l.take n).toArray C Q' f h a → wpAny P .any l.toArray Q (f + g) (marks h g) a w
  | 0, h, a, w, hz, _, hw, hq => by
    rw [head_whole hb hz hq.1]
    exact hend _ a w (by omega) hw hq.2
  | f + 1, h, a, w, hz, inv, hw, hq => by
    cases h0 : Region.ready .any (l.take n).toArray h with
    | nil =>
      rw [head_whole hb hz h0]
      exact hend _ a w (by omega) hw (hq.1 h0)
    | cons j js =>
      have hj : j ∈ Region.ready .any (l.take n).toArray h := by rw [h0]; simp
      have hjn : j < n := by
        obtain ⟨_, o, ho, _⟩ := mem_ready.1 hj
        have := (Array.getElem?_eq_some_iff.1 ho).1
        simp at this
        omega
      have hju : (marks h g).getD j true = false := by rw [marks_low true (by omega)]; exact (mem_ready.1 hj).1
      rw [show f + 1 + g = (f + g) + 1 by omega]
      refine ⟨fun he => ?_, fun i hi => ?_⟩
      · have := (ready_head (g := g) hb hz hjn).1 hj
        rw [he] at this
        cases this
      · have hin : i < n := Nat.lt_of_not_le fun hle => tail_waits hs hc hn inv _ j rfl hjn hju i hle hi
        have hi' := (ready_head hb hz hin).2 hi
        have inv' := inv.set hi hin
        rw [marks_set (by omega)] at inv' ⊢
        exact wpOp_of_qOp hw (fun a' w' hw' hq' => head_then hb hs hc hn hend f _ a' w' (by simpa using hz) inv' hw' hq') (qOp_head hb hin (hq.2 i hi'))

/-- All that is asked of the region. -/
def twoB (l : List Oper) (n : Nat) : Bool :=
  decide (n < l.length) && backB l n && Region.sinkB .any l.toArray n && Region.chainB .any l.toArray n && Region.lexB .any (l.take n).toArray && Region.seqB .any l.toArray (l.length - n) n (marks (Array.replicate n true) (l.length - n))

theorem wp_region_quiet_tail {id : Nat} {Q : Exit → Act → World → Prop} {a : Act} {w : World} {l : List Oper} (n : Nat) (hm : P.follows .mixedOrders = true) (hB : twoB l n = true) (hC : C w.drew)
    (h : wpQuiet P (l.take n).toArray C (fun a' => ∀ w', C w' → wpList P l.toArray Q (l.drop n) a' w') (l.take n) a) : (Code.region id l.toArray true).wp P Q a w := by
  simp only [twoB, Bool.and_eq_true, decide_eq_true_eq] at hB
  obtain ⟨⟨⟨⟨⟨hn, hb⟩, hs⟩, hc⟩, hx⟩, hq⟩ := hB
  simp only [Region.lexB, Bool.and_eq_true] at hx
  refine wp_region_any hm ?_
  have hl : (l.take n).length = n := by simp; omega
  have h1 := wpAnyQ_lex (P := P) (C := C) (md := .any) hx.1 (l.take n) 0 (Array.replicate (l.take n).toArray.size false) a (by simp) (by simpa using hx.2) h
  rw [hl] at h1
  have h2 := head_then (P := P) (C := C) (Q := Q) (Q' := fun a' => ∀ w', C w' → wpList P l.toArray Q (l.drop n) a' w') (g := l.length - n) hb hs hc (by simpa using hn) (fun k a' w' hk hw' hq' => tail_any (l.drop n) n k _ a' w' (fun j => by simp [List.getElem?_drop]) (by simp; omega) (by simpa using hq) (hq' w' hw')) n (Array.replicate n false) a w.drew (by simp)
    ⟨by simp [marks]; omega, fun j oj _ hl => by
      exfalso
      by_cases hj : j < n
      · rw [marks_low false (by simpa using hj)] at hl
        simp [hj] at hl
      · simp [marks, Array.getD_eq_getD_getElem?] at hl
        simp [Array.getElem?_replicate] at hl
        split at hl <;> simp at hl, fun t ht ht' => by
      have h3 : t < n + (l.length - n) := by simp at ht'; omega
      simp [marks, Array.getD_eq_getD_getElem?, h3]⟩ hC (by simpa [hl] using h1)
  have e : marks (Array.replicate n false) (l.length - n) = Array.replicate l.toArray.size false := by
    unfold marks
    rw [Array.replicate_append_replicate]
    congr 1
    simp
    omega
  rw [e, show n + (l.length - n) = l.toArray.size by simp; omega] at h2
  exact h2

/-- .. in the worlds that some draws lead to. -/
theorem wp_region_draws_tail {id : Nat} {Q : Exit → Act → World → Prop} {a : Act} {w : World} {l : List Oper} (n : Nat) (hm : P.follows .mixedOrders = true) (hB : twoB l n = true)
    (h : wpQuiet P (l.take n).toArray (fun w' => ∃ n, w' = w.drewN n) (fun a' => ∀ w', (∃ n, w' = w.drewN n) → wpList P l.toArray Q (l.drop n) a' w') (l.take n) a) : (Code.region id l.toArray true).wp P Q a w :=
  wp_region_quiet_tail n hm hB ⟨1, rfl⟩ h
end Go.Proofs.Ytoinigcfcjllcaa

/-
  A region that draws its order, in two parts. Of the first n operations each is looked at once, in any world of a class G that is closed under what is made anew: given what is known (V) of the values that it waits for, it answers a value of which V is known again; what is known stays so while others make memory. The others wait for all of them, and come in one order. It holds of every program.
-/
namespace Go.Proofs.Ytoinigcfcjllcaa
open Go Go.RowKit

variable {P : Program}

/-- The operations' slots, one behind the other, hold s's values. -/
def putAll (s : Nat → Value) : Nat → List Oper → Act → Act
  | _, [], a => a
  | i, o :: t, a => putAll s (i + 1) t (a.put o.dst (s i))

/-- One operation, at its slot: whatever is asked of all frames whose slot holds a value as R says, it leads to. -/
def stepAt (P : Program) (ops : Array Oper) (o : Oper) (a : Act) (w : World) (R : Value → World → Prop) : Prop :=
  match o.dst with
  | none => False
  | some d => ∀ K : Act → World → Prop, (∀ a' w', a'.defers = a.defers → R (a'.eval (.tmp d)) w' → K a' w') → if Region.wanted o (yielded ops a.tmps) = true then o.wp P a w K (fun _ _ _ => False) else K (a.put o.dst undef) w

/-- What an operation waits for. -/
def waits (o : Oper) : List Nat := (o.after.toList.filter fun e => Region.binds .any e).map (·.on)

def freeSteps (P : Program) (ops : Array Oper) (G : World → Prop) (V : Nat → Value → World → Prop) (s : Nat → Value) : Nat → List Oper → Act → Prop
  | _, [], _ => True
  | i, o :: t, a => (∀ w, G w → (∀ j ∈ waits o, V j (s j) w) → stepAt P ops o a w fun v w' => V i v w' ∧ Below w.heap.size w w') ∧ freeSteps P ops G V s (i + 1) t (a.put o.dst (s i))

/-- What an operation looks at, as far as the head makes it, it waits for; and it stands ahead of it. -/
def looksB (l : List Oper) (n i : Nat) (o : Oper) : Bool :=
  (o.looksAt l.toArray).all fun d => (List.range n).all fun j => match l[j]? with
    | some oj => oj.dst != some d || (decide (j < i) && (waits o).contains j)
    | none => false

def plainB (o : Oper) : Bool := match o.op with
  | .select .. => false
  | .defer .. => false
  | .go .. => false
  | _ => true

def slotsB (l : List Oper) (n z : Nat) : Bool :=
  (List.range n).all fun i => match l[i]? with
    | some o => (match o.dst with
        | some d => decide (d < z) && (List.range n).all fun j => (match l[j]? with
            | some oj => i == j || oj.dst != some d
            | none => false)
        | none => false) && looksB l n i o && plainB o
    | none => false

theorem slots_spec {l : List Oper} {n z i : Nat} (h : slotsB l n z = true) (hi : i < n) : ∃ o d, l[i]? = some o ∧ o.dst = some d ∧ d < z ∧ (∀ j oj, j < n → l[j]? = some oj → oj.dst = some d → i = j) ∧ looksB l n i o = true ∧ plainB o = true := by
  have h1 := List.all_eq_true.1 h i (List.mem_range.2 hi)
  cases ho : l[i]? with
  | none => rw [ho] at h1; cases h1
  | some o =>
    rw [ho] at h1
    simp only [Bool.and_eq_true] at h1
    obtain ⟨⟨h2, h3⟩, h4⟩ := h1
    cases hd : o.dst with
    | none => rw [hd] at h2; cases h2
    | some d =>
      rw [hd] at h2
      simp only [Bool.and_eq_true, decide_eq_true_eq] at h2
      refine ⟨o, d, rfl, hd, h2.1, fun j oj hj hoj hdj => ?_, h3, h4⟩
      have h5 := List.all_eq_true.1 h2.2 j (List.mem_range.2 hj)
      rw [hoj] at h5
      simp only [Bool.or_eq_true, beq_iff_eq, bne_iff_ne, ne_eq] at h5
      rcases h5 with h5 | h5
      · exact h5
      · exact absurd hdj h5

theorem looks_spec {l : List Oper} {n i : Nat} {o : Oper} (h : looksB l n i o = true) {d j : Nat} (hd : d ∈ o.looksAt l.toArray) (hj : j < n) {oj : Oper} (hoj : l[j]? = some oj) (hdj : oj.dst = some d) : j < i ∧ j ∈ waits o := by
  have h1 := List.all_eq_true.1 (List.all_eq_true.1 h d hd) j (List.mem_range.2 hj)
  rw [hoj] at h1
  simp only [Bool.or_eq_true, bne_iff_ne, ne_eq, Bool.and_eq_true, decide_eq_true_eq] at h1
  rcases h1 with h1 | ⟨h1, h2⟩
  · exact absurd hdj h1
  · exact ⟨h1, by simpa using h2⟩

theorem put_size (a : Act) (d : Option Tmp) (v : Value) : (a.put d v).tmps.size = a.tmps.size := by cases d <;> simp [Act.put]
theorem put_defers (a : Act) (d : Option Tmp) (v : Value) : (a.put d v).defers = a.defers := by cases d <;> rfl
theorem put_at (a : Act) (d : Tmp) (v : Value) (h : d < a.tmps.size) : (a.put (some d) v).tmps[d]? = some v := by simp [Act.put, h]
theorem put_other (a : Act) (d : Option Tmp) (t : Tmp) (v : Value) (h : d ≠ some t) : (a.put d v).tmps[t]? = a.tmps[t]? := by
  cases d with
  | none => rfl
  | some d => simp [Act.put, Array.getElem?_setIfInBounds_ne (show d ≠ t from fun e => h (by rw [e]))]

theorem putAll_size (s : Nat → Value) : ∀ (i : Nat) (t : List Oper) (a : Act), (putAll s i t a).tmps.size = a.tmps.size
  | _, [], _ => rfl
  | i, o :: t, a => by rw [putAll, putAll_size s (i + 1) t, put_size]
theorem putAll_defers (s : Nat → Value) : ∀ (i : Nat) (t : List Oper) (a : Act), (putAll s i t a).defers = a.defers
  | _, [], _ => rfl
  | i, o :: t, a => by rw [putAll, putAll_defers s (i + 1) t, put_defers]
theorem putAll_other (s : Nat → Value) (d : Tmp) : ∀ (i : Nat) (t : List Oper) (a : Act), (∀ (k : Nat) (o : Oper), t[k]? = some o → o.dst ≠ some d) → (putAll s i t a).tmps[d]? = a.tmps[d]?
  | _, [], _, _ => rfl
  | i, o :: t, a, h => by
    rw [putAll, putAll_other s d (i + 1) t _ (fun k o' hk => h (k + 1) o' (by simpa using hk)), put_other _ _ _ _ (h 0 o rfl)]
theorem putAll_at (s : Nat → Value) (d : Tmp) : ∀ (i : Nat) (t : List Oper) (a : Act) (k : Nat) (o : Oper), t[k]? = some o → o.dst = some d → d < a.tmps.size → (∀ (j : Nat) (o' : Oper), t[j]? = some o' → o'.dst = some d → j = k) → (putAll s i t a).tmps[d]? = some (s (i + k))
  | _, [], _, k, o, h, _, _, _ => by simp at h
  | i, o0 :: t, a, 0, o, h, hd, hz, hu => by
    simp only [List.getElem?_cons_zero, Option.some.injEq] at h
    subst h
    rw [putAll, putAll_other s d (i + 1) t _ (fun k o' hk he => absurd (hu (k + 1) o' (by simpa using hk) he) (by omega)), hd, Nat.add_zero]
    exact put_at a d _ hz
  | i, o0 :: t, a, k + 1, o, h, hd, hz, hu => by
    rw [putAll, putAll_at s d (i + 1) t (a.put o0.dst (s i)) k o (by simpa using h) hd (by rw [put_size]; exact hz) (fun j o' hj he => by have := hu (j + 1) o' (by simpa using hj) he; omega)]
    congr 2
    omega

/-- The frame, where the operations marked in h have come up. -/
structure Cur (l : List Oper) (n : Nat) (a0 : Act) (h : Array Bool) (s : Nat → Value) (a : Act) : Prop where
  size : a.tmps.size = a0.tmps.size
  defers : a.defers = a0.defers
  done : ∀ j o d, j < n → l[j]? = some o → o.dst = some d → h.getD j false = true → a.tmps[d]? = some (s j)
  other : ∀ d, (∀ j o, j < n → l[j]? = some o → h.getD j false = true → o.dst ≠ some d) → a.tmps[d]? = a0.tmps[d]?

theorem Cur.start (l : List Oper) (n : Nat) (a : Act) (s : Nat → Value) : Cur l n a (Array.replicate n false) s a :=
  ⟨rfl, rfl, fun j o d hj _ _ h => by simp [hj] at h, fun _ _ => rfl⟩

theorem Cur.step {l : List Oper} {n : Nat} {a0 a : Act} {h : Array Bool} {s : Nat → Value} (c : Cur l n a0 h s a) {z i : Nat} (hB : slotsB l n z = true) (hz : h.size = n) (hzz : a0.tmps.size = z) {o : Oper} {d : Tmp} (hi : i < n) (ho : l[i]? = some o) (hd : o.dst = some d) (hun : h.getD i true = false) (v : Value) :
    Cur l n a0 (h.setIfInBounds i true) (fun j => if j = i then v else s j) (a.put o.dst v) := by
  obtain ⟨o', d', ho', hd', hdz, hu, _, _⟩ := slots_spec hB hi
  obtain rfl : o = o' := Option.some.inj (ho.symm.trans ho')
  obtain rfl : d = d' := Option.some.inj (hd.symm.trans hd')
  have hset : ∀ j, j ≠ i → (h.setIfInBounds i true).getD j false = h.getD j false := fun j hj => getD_set_ne false (Ne.symm hj)
  refine ⟨by rw [put_size]; exact c.size, by rw [put_defers]; exact c.defers, fun j oj dj hj hoj hdj hl => ?_, fun t ht => ?_⟩
  · by_cases hji : j = i
    · subst hji
      obtain rfl : oj = o := Option.some.inj (hoj.symm.trans ho)
      obtain rfl : dj = d := Option.some.inj (hdj.symm.trans hd)
      rw [if_pos rfl, hd]
      exact put_at a dj v (by rw [c.size, hzz]; exact hdz)
    · rw [if_neg hji, put_other _ _ _ _ (fun e => hji (hu j oj hj hoj (by rw [hdj, ← e, hd])).symm)]
      exact c.done j oj dj hj hoj hdj (by rw [← hset j hji]; exact hl)
  · have hne : o.dst ≠ some t := ht i o hi ho (by simp [hz, hi])
    rw [put_other _ _ _ _ hne]
    refine c.other t fun j oj hj hoj hl => ht j oj hj hoj ?_
    by_cases hji : j = i
    · subst hji; simp [hz, hi]
    · rw [hset j hji]; exact hl

/-- At the end all slots hold their values. -/
theorem Cur.whole {l : List Oper} {n : Nat} {a0 a : Act} {s : Nat → Value} (c : Cur l n a0 (Array.replicate n true) s a) (hB : slotsB l n a0.tmps.size = true) : a = putAll s 0 (l.take n) a0 := by
  have hat : ∀ t, a.tmps[t]? = (putAll s 0 (l.take n) a0).tmps[t]? := fun t => by
    by_cases he : ∃ j o, j < n ∧ l[j]? = some o ∧ o.dst = some t
    · obtain ⟨j, o, hj, ho, hd⟩ := he
      obtain ⟨o', d', ho', hd', hdz, hu, _, _⟩ := slots_spec hB hj
      obtain rfl : o = o' := Option.some.inj (ho.symm.trans ho')
      obtain rfl : t = d' := Option.some.inj (hd.symm.trans hd')
      rw [c.done j o t hj ho hd (by simp [hj]), putAll_at s t 0 (l.take n) a0 j o (by rw [List.getElem?_take, if_pos hj]; exact ho) hd hdz (fun k o' hk hd2 => by
        rw [List.getElem?_take] at hk
        split at hk
        · rename_i hkn; exact (hu k o' hkn hk hd2).symm
        · cases hk), Nat.zero_add]
    · have hno : ∀ j o, j < n → l[j]? = some o → o.dst ≠ some t := fun j o hj ho hd => he ⟨j, o, hj, ho, hd⟩
      rw [c.other t (fun j o hj ho _ => hno j o hj ho), putAll_other s t 0 (l.take n) a0 (fun k o hk => by
        rw [List.getElem?_take] at hk
        split at hk
        · rename_i hkn; exact hno k o hkn hk
        · cases hk)]
  have ht : a.tmps = (putAll s 0 (l.take n) a0).tmps := Array.ext_getElem? hat
  have hd : a.defers = (putAll s 0 (l.take n) a0).defers := by rw [putAll_defers]; exact c.defers
  cases a
  cases hq : putAll s 0 (l.take n) a0
  rw [hq] at ht hd
  simp only at ht hd
  rw [ht, hd]

/-- What an operation looks at reads in the frame at hand as in the one of the walk in the text's order. -/
theorem Cur.looks {l : List Oper} {n z i : Nat} {a0 a : Act} {h : Array Bool} {s : Nat → Value} (c : Cur l n a0 h s a) (hB : slotsB l n z = true) (hzz : a0.tmps.size = z) (hi : i < n) {o : Oper} (ho : l[i]? = some o) (hw : ∀ j ∈ waits o, h.getD j false = true) :
    ∀ t ∈ o.looksAt l.toArray, a.tmps[t]? = (putAll s 0 (l.take i) a0).tmps[t]? := fun t ht => by
  obtain ⟨o', d', ho', hd', _, _, hlk, _⟩ := slots_spec hB hi
  obtain rfl : o = o' := Option.some.inj (ho.symm.trans ho')
  by_cases he : ∃ j oj, j < n ∧ l[j]? = some oj ∧ oj.dst = some t
  · obtain ⟨j, oj, hj, hoj, hdj⟩ := he
    obtain ⟨oj', dj', hoj', hdj', hdz, hu, _, _⟩ := slots_spec hB hj
    obtain rfl : oj = oj' := Option.some.inj (hoj.symm.trans hoj')
    obtain rfl : t = dj' := Option.some.inj (hdj.symm.trans hdj')
    obtain ⟨hji, hjw⟩ := looks_spec hlk ht hj hoj hdj
    rw [c.done j oj t hj hoj hdj (hw j hjw), putAll_at s t 0 (l.take i) a0 j oj (by rw [List.getElem?_take, if_pos hji]; exact hoj) hdj (by rw [hzz]; exact hdz) (fun k o' hk hd2 => by
      rw [List.getElem?_take] at hk
      split at hk
      · rename_i hkn; exact (hu k o' (by omega) hk hd2).symm
      · cases hk), Nat.zero_add]
  · have hno : ∀ j o, j < n → l[j]? = some o → o.dst ≠ some t := fun j o hj ho hd => he ⟨j, o, hj, ho, hd⟩
    rw [c.other t (fun j o hj ho _ => hno j o hj ho), putAll_other s t 0 (l.take i) a0 (fun k o hk => by
      rw [List.getElem?_take] at hk
      split at hk
      · rename_i hkn; exact hno k o (by omega) hk
      · cases hk)]

theorem exec_same {ops : Array Oper} {o : Oper} {a b : Act} (hp : plainB o = true) (h : ∀ t ∈ o.looksAt ops, a.tmps[t]? = b.tmps[t]?) : execOp a.eval o = execOp b.eval o := by
  refine execOp_congr o (fun cs c e => by unfold plainB at hp; rw [e] at hp; cases hp) fun x hx => ?_
  cases x with
  | tmp t =>
    have := h t (List.mem_append_left _ (List.mem_filterMap.2 ⟨.tmp t, by simpa using hx, rfl⟩))
    simp [Act.eval, Array.getD_eq_getD_getElem?, this]
  | _ => rfl

theorem wanted_same {ops : Array Oper} {o : Oper} {a b : Act} (h : ∀ t ∈ o.looksAt ops, a.tmps[t]? = b.tmps[t]?) : Region.wanted o (yielded ops a.tmps) = Region.wanted o (yielded ops b.tmps) := by
  unfold Region.wanted
  cases hg : o.guard with
  | none => rfl
  | some gw =>
    obtain ⟨g, want⟩ := gw
    have hy : yielded ops a.tmps g = yielded ops b.tmps g := by
      unfold yielded
      cases ht : (ops[g]?).bind (·.dst) with
      | none => rfl
      | some t =>
        have := h t (by simp [Oper.looksAt, hg, ht])
        simp [this]
    simp only [hy]

theorem eval_put_same (a : Act) (d : Tmp) (v : Value) (h : d < a.tmps.size) : (a.put (some d) v).eval (.tmp d) = v := by
  simp [Act.eval, Act.put, h]

theorem not_letsOut (h : LetsOut (fun _ _ _ => False)) : False := by obtain ⟨_, _, h⟩ := h; exact h

/-- A step, in whatever frame reads alike. -/
theorem wpOp_of_step {ops : Array Oper} {i : Nat} {o : Oper} {a b : Act} {w : World} {R : Value → World → Prop} {K : Act → World → Prop} {Q : Exit → Act → World → Prop} (ho : ops[i]? = some o) (hp : plainB o = true) (h : ∀ t ∈ o.looksAt ops, a.tmps[t]? = b.tmps[t]?) {d : Tmp} (hd : o.dst = some d) (hz : d < b.tmps.size)
    (hs : stepAt P ops o b w R) (hK : ∀ v w', R v w' → K (a.put o.dst v) w') : wpOp P ops Q i K a w := by
  unfold stepAt at hs
  rw [hd] at hs
  have hs := hs (fun a' w' => a'.defers = b.defers ∧ R (a'.eval (.tmp d)) w') (fun _ _ h1 h2 => ⟨h1, h2⟩)
  unfold wpOp
  simp only [ho]
  rw [wanted_same h]
  split
  · rename_i hw
    rw [if_pos hw] at hs
    refine .inl ?_
    unfold Oper.wp at hs ⊢
    rw [exec_same hp h]
    generalize hr : (execOp b.eval o).run P w = r at *
    cases r with
    | ok x w' =>
      cases x <;> simp only [Oper.upon] at hs ⊢
      case value v => rw [hd, eval_put_same _ _ _ hz] at hs; exact hK v w' hs.2
      case skip => rw [hd, eval_put_same _ _ _ hz] at hs; exact hK undef w' hs.2
      case enter f args =>
        refine Calls.mono hs fun e w'' he => ?_
        cases e with
        | returned v => simp only at he ⊢; rw [hd, eval_put_same _ _ _ hz] at he; exact hK v w'' he.2
        | panicked c => exact absurd he (by simp)
        | outgrown => exact (not_letsOut he).elim
      case row row args =>
        refine Rows.mono hs fun v w'' he => ?_
        rw [hd, eval_put_same _ _ _ hz] at he
        exact hK v w'' he.2
      case defer e =>
        have h1 := hs.1
        rw [put_defers] at h1
        exact absurd (congrArg List.length h1) (by simp)
    | halt x w' => cases x <;> simp only [Oper.upon] at hs
  · rename_i hw
    rw [if_neg hw, eval_put_same _ _ _ hz] at hs
    exact hK undef w hs.2

theorem steps_at {G : World → Prop} {V : Nat → Value → World → Prop} {ops : Array Oper} {s : Nat → Value} : ∀ (t : List Oper) (k : Nat) (a : Act) (i : Nat) (o : Oper), freeSteps P ops G V s k t a → t[i]? = some o →
    ∀ w, G w → (∀ j ∈ waits o, V j (s j) w) → stepAt P ops o (putAll s k (t.take i) a) w fun v w' => V (k + i) v w' ∧ Below w.heap.size w w'
  | [], _, _, i, o, _, h => by simp at h
  | o0 :: t, k, a, 0, o, hs, h => by
    simp only [List.getElem?_cons_zero, Option.some.injEq] at h
    subst h
    exact hs.1
  | o0 :: t, k, a, i + 1, o, hs, h => by
    have := steps_at t (k + 1) (a.put o0.dst (s k)) i o hs.2 (by simpa using h)
    rw [List.take_succ_cons, putAll, show k + (i + 1) = k + 1 + i by omega]
    exact this

/-- So many are wanting. -/
def wanting (h : Array Bool) (n : Nat) : Nat := ((List.range n).filter fun j => h.getD j true == false).length
theorem wanting_zero {h : Array Bool} {n : Nat} (h0 : wanting h n = 0) : ∀ j, j < n → h.getD j true = true := fun j hj => by
  have h1 := List.eq_nil_of_length_eq_zero h0
  cases hv : h.getD j true with
  | true => rfl
  | false =>
    have : j ∈ (List.range n).filter fun j => h.getD j true == false := List.mem_filter.2 ⟨List.mem_range.2 hj, by simp [hv]⟩
    rw [h1] at this
    cases this
theorem filter_less {α : Type} (p q : α → Bool) : ∀ (l : List α) (x : α), x ∈ l → p x = true → q x = false → (∀ y, q y = true → p y = true) → (l.filter q).length < (l.filter p).length
  | [], _, h, _, _, _ => by cases h
  | y :: l, x, h, hp, hq, hqp => by
    have hle : ∀ l : List α, (l.filter q).length ≤ (l.filter p).length := fun l => by
      induction l with
      | nil => simp
      | cons z l ih =>
        rw [List.filter_cons, List.filter_cons]
        by_cases hz : q z = true
        · rw [if_pos hz, if_pos (hqp z hz)]; simp; exact ih
        · rw [if_neg hz]
          split
          · simp; omega
          · exact ih
    rw [List.filter_cons, List.filter_cons]
    rcases List.mem_cons.1 h with rfl | h
    · rw [if_neg (by simp [hq]), if_pos hp]
      have := hle l
      simp
      omega
    · have := filter_less p q l x h hp hq hqp
      by_cases hz : q y = true
      · rw [if_pos hz, if_pos (hqp y hz)]; simp; exact this
      · rw [if_neg hz]; split <;> simp <;> omega
theorem wanting_less {h : Array Bool} {n i : Nat} (hz : h.size = n) (hi : i < n) (hun : h.getD i true = false) : wanting (h.setIfInBounds i true) n < wanting h n :=
  filter_less _ _ _ i (List.mem_range.2 hi) (by simp [hun]) (by simp [hz, hi]) fun j hj => by
    by_cases hji : i = j
    · subst hji; simp [hz, hi] at hj
    · rw [getD_set_ne true hji] at hj; exact hj

def freeB (l : List Oper) (n z : Nat) : Bool :=
  decide (n ≤ l.length) && backB l n && slotsB l n z && (decide (n = l.length) || (Region.sinkB .any l.toArray n && Region.chainB .any l.toArray n)) && Region.seqB .any l.toArray (l.length - n) n (marks (Array.replicate n true) (l.length - n))

variable {G : World → Prop} {V : Nat → Value → World → Prop} {Q : Exit → Act → World → Prop} {l : List Oper} {n : Nat} {a0 : Act}

theorem free_then (hn : n ≤ l.length) (hb : backB l n = true) (hB : slotsB l n a0.tmps.size = true) (htail : n = l.length ∨ (Region.sinkB .any l.toArray n = true ∧ Region.chainB .any l.toArray n = true)) (hseq : Region.seqB .any l.toArray (l.length - n) n (marks (Array.replicate n true) (l.length - n)) = true)
    (hGB : ∀ w w', G w → Below w.heap.size w w' → G w') (hVB : ∀ i v w w', V i v w → Below w.heap.size w w' → V i v w')
    (hsteps : ∀ s, freeSteps P l.toArray G V s 0 (l.take n) a0)
    (hend : ∀ s w', G w' → (∀ i, i < n → V i (s i) w') → wpList P l.toArray Q (l.drop n) (putAll s 0 (l.take n) a0) w') :
    ∀ (f : Nat) (h : Array Bool) (s : Nat → Value) (a : Act) (w : World), h.size = n → wanting h n ≤ f → HeadInv .any l.toArray n (marks h (l.length - n)) → Cur l n a0 h s a → G w → (∀ i, i < n → h.getD i false = true → V i (s i) w) →
      wpAny P .any l.toArray Q (f + (l.length - n)) (marks h (l.length - n)) a w := by
  intro f
  induction f with
  | zero =>
    intro h s a w hz hf inv c hG hV
    have hall := wanting_zero (Nat.le_zero.1 hf)
    obtain rfl : h = Array.replicate n true := by
      apply Array.ext
      · simpa using hz
      · intro i h1 h2
        have := hall i (by omega)
        simpa [Array.getD_eq_getD_getElem?, h1] using this
    rw [c.whole hB, Nat.zero_add]
    exact tail_any (l.drop n) n _ _ _ w (fun j => by simp [List.getElem?_drop]) (by simp) (by simpa using hseq) (hend s w hG fun i hi => hV i hi (by simp [hi]))
  | succ f ih =>
    intro h s a w hz hf inv c hG hV
    by_cases hex : ∃ j, j < n ∧ h.getD j true = false
    · obtain ⟨j, hj, hun⟩ := hex
      rw [show f + 1 + (l.length - n) = (f + (l.length - n)) + 1 by omega]
      have hmv := head_moves hb hz j hj hun
      refine ⟨fun he => ?_, fun i hi => ?_⟩
      · cases h0 : Region.ready .any (l.take n).toArray h with
        | nil => exact absurd h0 hmv
        | cons k ks =>
          have hk : k ∈ Region.ready .any (l.take n).toArray h := by rw [h0]; simp
          have hkn : k < n := by
            obtain ⟨_, o, ho, _⟩ := mem_ready.1 hk
            have := (Array.getElem?_eq_some_iff.1 ho).1
            simp at this
            omega
          have := (ready_head (g := l.length - n) hb hz hkn).1 hk
          rw [he] at this
          cases this
      · have hin : i < n := by
          rcases htail with he | ⟨hs, hc⟩
          · obtain ⟨_, o, ho, _⟩ := mem_ready.1 hi
            have := (Array.getElem?_eq_some_iff.1 ho).1
            simp at this
            omega
          · refine Nat.lt_of_not_le fun hle => ?_
            by_cases hnl : n < l.length
            · exact tail_waits hs hc (by simpa using hnl) inv _ j rfl hj (by rw [marks_low true (by omega)]; exact hun) i hle hi
            · obtain ⟨_, o, ho, _⟩ := mem_ready.1 hi
              have := (Array.getElem?_eq_some_iff.1 ho).1
              simp at this
              omega
        obtain ⟨hui, o, ho, hafter⟩ := mem_ready.1 hi
        rw [marks_low true (by omega)] at hui
        obtain ⟨o', d, ho', hd, hdz, hu, hlk, hpl⟩ := slots_spec hB hin
        obtain rfl : o = o' := by
          have : l[i]? = some o := by simpa using ho
          exact Option.some.inj (this.symm.trans ho')
        obtain ⟨ob, hob, hback, _⟩ := back_spec hb hin
        obtain rfl : o = ob := Option.some.inj (ho'.symm.trans hob)
        have hw : ∀ j ∈ waits o, h.getD j false = true ∧ j < n := fun j hj => by
          unfold waits at hj
          obtain ⟨e, he, rfl⟩ := List.mem_map.1 hj
          obtain ⟨he1, he2⟩ := List.mem_filter.1 he
          have he1' : e ∈ o.after := by simpa using he1
          have h1 := hback e he1' he2
          have h2 := hafter e he1' he2
          rw [marks_low false (by omega)] at h2
          exact ⟨h2, by omega⟩
        have hst := steps_at (l.take n) 0 a0 i o (hsteps s) (by rw [List.getElem?_take, if_pos hin]; exact ho') w hG (fun j hj => hV j (hw j hj).2 (hw j hj).1)
        rw [Nat.zero_add, List.take_take, Nat.min_eq_left (by omega)] at hst
        refine wpOp_of_step (b := putAll s 0 (l.take i) a0) ho hpl (c.looks hB rfl hin ho' fun j hj => (hw j hj).1) hd (by rw [putAll_size]; exact hdz) hst fun v w' ⟨hv, hbel⟩ => ?_
        have inv' := inv.set hi hin
        rw [marks_set (by omega)] at inv' ⊢
        refine ih (h.setIfInBounds i true) (fun j => if j = i then v else s j) _ w' (by simpa using hz) (by have := wanting_less hz hin hui; omega) inv' (c.step hB hz rfl hin ho' hd hui v) (hGB w w' hG hbel) fun k hk hkd => ?_
        by_cases hki : k = i
        · subst hki
          rw [if_pos rfl]
          exact hv
        · rw [if_neg hki]
          rw [getD_set_ne false (Ne.symm hki)] at hkd
          exact hVB k _ w w' (hV k hk hkd) hbel
    · have hf' : wanting h n ≤ 0 := by
        unfold wanting
        rw [Nat.le_zero, List.length_eq_zero_iff, List.filter_eq_nil_iff]
        intro j hj
        have hjn := List.mem_range.1 hj
        cases hv : h.getD j true with
        | true => simp
        | false => exact absurd ⟨j, hjn, hv⟩ hex
      have hall := wanting_zero (Nat.le_zero.1 hf')
      obtain rfl : h = Array.replicate n true := by
        apply Array.ext
        · simpa using hz
        · intro i h1 h2
          have := hall i (by omega)
          simpa [Array.getD_eq_getD_getElem?, h1] using this
      rw [c.whole hB]
      exact tail_any (l.drop n) n _ _ _ w (fun j => by simp [List.getElem?_drop]) (by simp) (by simpa using hseq) (hend s w hG fun i hi => hV i hi (by simp [hi]))

theorem wp_region_free {id : Nat} {w : World} (n : Nat) (G : World → Prop) (V : Nat → Value → World → Prop) (hm : P.follows .mixedOrders = true) (hB : freeB l n a0.tmps.size = true) (hG : G w.drew)
    (hGB : ∀ w w', G w → Below w.heap.size w w' → G w') (hVB : ∀ i v w w', V i v w → Below w.heap.size w w' → V i v w')
    (hsteps : ∀ s, freeSteps P l.toArray G V s 0 (l.take n) a0)
    (hend : ∀ s w', G w' → (∀ i, i < n → V i (s i) w') → wpList P l.toArray Q (l.drop n) (putAll s 0 (l.take n) a0) w') : (Code.region id l.toArray true).wp P Q a0 w := by
  simp only [freeB, Bool.and_eq_true, Bool.or_eq_true, decide_eq_true_eq] at hB
  obtain ⟨⟨⟨⟨hn, hb⟩, hs⟩, ht⟩, hq⟩ := hB
  refine wp_region_any hm ?_
  have h2 := free_then (P := P) (Q := Q) hn hb hs ht hq hGB hVB hsteps hend n (Array.replicate n false) (fun _ => undef) a0 w.drew (by simp) (by unfold wanting; exact Nat.le_trans (List.length_filter_le _ _) (by simp)) ⟨by simp [marks]; omega, fun j oj _ hl => by
      exfalso
      by_cases hj : j < n
      · rw [marks_low false (by simpa using hj)] at hl
        simp [hj] at hl
      · simp [marks, Array.getD_eq_getD_getElem?] at hl
        simp [Array.getElem?_replicate] at hl
        split at hl <;> simp at hl, fun t ht ht' => by
      have h3 : t < n + (l.length - n) := by simp at ht'; omega
      simp [marks, Array.getD_eq_getD_getElem?, h3]⟩ (Cur.start l n a0 _) hG (fun i hi hd => by simp [hi] at hd)
  have e : marks (Array.replicate n false) (l.length - n) = Array.replicate l.toArray.size false := by
    unfold marks
    rw [Array.replicate_append_replicate]
    congr 1
    simp
    omega
  rw [e, show n + (l.length - n) = l.toArray.size by simp; omega] at h2
  exact h2
end Go.Proofs.Ytoinigcfcjllcaa

/-
  Regions whose operations come in any order, with one condition of one's own on which have come up, their values and the world (..Free has a condition on each value alone). It holds of every program.
-/
namespace Go.Proofs.Ytoinigcfcjllcaa
open Go Go.RowKit

variable {P : Program}

def turnOn (h : Nat → Bool) (i : Nat) : Nat → Bool := fun j => if j = i then true else h j
def turnTo (s : Nat → Value) (i : Nat) (v : Value) : Nat → Value := fun j => if j = i then v else s j

def freeStepsI (P : Program) (ops : Array Oper) (Inv : (Nat → Bool) → (Nat → Value) → World → Prop) (s : Nat → Value) : Nat → List Oper → Act → Prop
  | _, [], _ => True
  | i, o :: t, a => (∀ h w, h i = false → (∀ j ∈ waits o, h j = true) → Inv h s w → stepAt P ops o a w fun v w' => Inv (turnOn h i) (turnTo s i v) w') ∧ freeStepsI P ops Inv s (i + 1) t (a.put o.dst (s i))

theorem stepsI_at {Inv : (Nat → Bool) → (Nat → Value) → World → Prop} {ops : Array Oper} {s : Nat → Value} : ∀ (t : List Oper) (k : Nat) (a : Act) (i : Nat) (o : Oper), freeStepsI P ops Inv s k t a → t[i]? = some o →
    ∀ h w, h (k + i) = false → (∀ j ∈ waits o, h j = true) → Inv h s w → stepAt P ops o (putAll s k (t.take i) a) w fun v w' => Inv (turnOn h (k + i)) (turnTo s (k + i) v) w'
  | [], _, _, i, o, _, h => by simp at h
  | o0 :: t, k, a, 0, o, hs, h => by
    simp only [List.getElem?_cons_zero, Option.some.injEq] at h
    subst h
    exact hs.1
  | o0 :: t, k, a, i + 1, o, hs, h => by
    have := stepsI_at t (k + 1) (a.put o0.dst (s k)) i o hs.2 (by simpa using h)
    rw [List.take_succ_cons, putAll, show k + (i + 1) = k + 1 + i by omega]
    exact this

/-- The marks as a function. -/
def onAt (h : Array Bool) : Nat → Bool := fun j => h.getD j false
theorem onAt_set {h : Array Bool} {i n : Nat} (hz : h.size = n) (hi : i < n) : onAt (h.setIfInBounds i true) = turnOn (onAt h) i := by
  funext j
  unfold onAt turnOn
  by_cases hj : j = i
  · subst hj; simp [hz, hi]
  · rw [if_neg hj, getD_set_ne false (Ne.symm hj)]

variable {Inv : (Nat → Bool) → (Nat → Value) → World → Prop} {Q : Exit → Act → World → Prop} {l : List Oper} {n : Nat} {a0 : Act}

theorem freeI_then (hn : n ≤ l.length) (hb : backB l n = true) (hB : slotsB l n a0.tmps.size = true) (htail : n = l.length ∨ (Region.sinkB .any l.toArray n = true ∧ Region.chainB .any l.toArray n = true)) (hseq : Region.seqB .any l.toArray (l.length - n) n (marks (Array.replicate n true) (l.length - n)) = true)
    (hsteps : ∀ s, freeStepsI P l.toArray Inv s 0 (l.take n) a0)
    (hend : ∀ h s w', (∀ i, i < n → h i = true) → Inv h s w' → wpList P l.toArray Q (l.drop n) (putAll s 0 (l.take n) a0) w') :
    ∀ (f : Nat) (h : Array Bool) (s : Nat → Value) (a : Act) (w : World), h.size = n → wanting h n ≤ f → HeadInv .any l.toArray n (marks h (l.length - n)) → Cur l n a0 h s a → Inv (onAt h) s w →
      wpAny P .any l.toArray Q (f + (l.length - n)) (marks h (l.length - n)) a w := by
  intro f
  induction f with
  | zero =>
    intro h s a w hz hf inv c hI
    have hall := wanting_zero (Nat.le_zero.1 hf)
    obtain rfl : h = Array.replicate n true := by
      apply Array.ext
      · simpa using hz
      · intro i h1 h2
        have := hall i (by omega)
        simpa [Array.getD_eq_getD_getElem?, h1] using this
    rw [c.whole hB, Nat.zero_add]
    exact tail_any (l.drop n) n _ _ _ w (fun j => by simp [List.getElem?_drop]) (by simp) (by simpa using hseq) (hend _ s w (fun i hi => by simp [onAt, hi]) hI)
  | succ f ih =>
    intro h s a w hz hf inv c hI
    by_cases hex : ∃ j, j < n ∧ h.getD j true = false
    · obtain ⟨j, hj, hun⟩ := hex
      rw [show f + 1 + (l.length - n) = (f + (l.length - n)) + 1 by omega]
      have hmv := head_moves hb hz j hj hun
      refine ⟨fun he => ?_, fun i hi => ?_⟩
      · cases h0 : Region.ready .any (l.take n).toArray h with
        | nil => exact absurd h0 hmv
        | cons k ks =>
          have hk : k ∈ Region.ready .any (l.take n).toArray h := by rw [h0]; simp
          have hkn : k < n := by
            obtain ⟨_, o, ho, _⟩ := mem_ready.1 hk
            have := (Array.getElem?_eq_some_iff.1 ho).1
            simp at this
            omega
          have := (ready_head (g := l.length - n) hb hz hkn).1 hk
          rw [he] at this
          cases this
      · have hin : i < n := by
          rcases htail with he | ⟨hs, hc⟩
          · obtain ⟨_, o, ho, _⟩ := mem_ready.1 hi
            have := (Array.getElem?_eq_some_iff.1 ho).1
            simp at this
            omega
          · refine Nat.lt_of_not_le fun hle => ?_
            by_cases hnl : n < l.length
            · exact tail_waits hs hc (by simpa using hnl) inv _ j rfl hj (by rw [marks_low true (by omega)]; exact hun) i hle hi
            · obtain ⟨_, o, ho, _⟩ := mem_ready.1 hi
              have := (Array.getElem?_eq_some_iff.1 ho).1
              simp at this
              omega
        obtain ⟨hui, o, ho, hafter⟩ := mem_ready.1 hi
        rw [marks_low true (by omega)] at hui
        obtain ⟨o', d, ho', hd, hdz, hu, hlk, hpl⟩ := slots_spec hB hin
        obtain rfl : o = o' := by
          have : l[i]? = some o := by simpa using ho
          exact Option.some.inj (this.symm.trans ho')
        obtain ⟨ob, hob, hback, _⟩ := back_spec hb hin
        obtain rfl : o = ob := Option.some.inj (ho'.symm.trans hob)
        have hw : ∀ j ∈ waits o, h.getD j false = true ∧ j < n := fun j hj => by
          unfold waits at hj
          obtain ⟨e, he, rfl⟩ := List.mem_map.1 hj
          obtain ⟨he1, he2⟩ := List.mem_filter.1 he
          have he1' : e ∈ o.after := by simpa using he1
          have h1 := hback e he1' he2
          have h2 := hafter e he1' he2
          rw [marks_low false (by omega)] at h2
          exact ⟨h2, by omega⟩
        have hst := stepsI_at (l.take n) 0 a0 i o (hsteps s) (by rw [List.getElem?_take, if_pos hin]; exact ho') (onAt h) w (by
          rw [Nat.zero_add]
          unfold onAt
          have : i < h.size := by omega
          simpa [Array.getD_eq_getD_getElem?, this] using hui) (fun j hj => (hw j hj).1) hI
        rw [Nat.zero_add, List.take_take, Nat.min_eq_left (by omega)] at hst
        refine wpOp_of_step (b := putAll s 0 (l.take i) a0) ho hpl (c.looks hB rfl hin ho' fun j hj => (hw j hj).1) hd (by rw [putAll_size]; exact hdz) hst fun v w' hv => ?_
        have inv' := inv.set hi hin
        rw [marks_set (by omega)] at inv' ⊢
        refine ih (h.setIfInBounds i true) (turnTo s i v) _ w' (by simpa using hz) (by have := wanting_less hz hin hui; omega) inv' (c.step hB hz rfl hin ho' hd hui v) ?_
        rw [onAt_set hz hin]
        exact hv
    · have hf' : wanting h n ≤ 0 := by
        unfold wanting
        rw [Nat.le_zero, List.length_eq_zero_iff, List.filter_eq_nil_iff]
        intro j hj
        have hjn := List.mem_range.1 hj
        cases hv : h.getD j true with
        | true => simp
        | false => exact absurd ⟨j, hjn, hv⟩ hex
      have hall := wanting_zero (Nat.le_zero.1 hf')
      obtain rfl : h = Array.replicate n true := by
        apply Array.ext
        · simpa using hz
        · intro i h1 h2
          have := hall i (by omega)
          simpa [Array.getD_eq_getD_getElem?, h1] using this
      rw [c.whole hB]
      exact tail_any (l.drop n) n _ _ _ w (fun j => by simp [List.getElem?_drop]) (by simp) (by simpa using hseq) (hend _ s w (fun i hi => by simp [onAt, hi]) hI)

theorem wp_region_freeI {id : Nat} {w : World} (n : Nat) (Inv : (Nat → Bool) → (Nat → Value) → World → Prop) (hm : P.follows .mixedOrders = true) (hB : freeB l n a0.tmps.size = true) (hI : ∀ s, Inv (fun _ => false) s w.drew)
    (hsteps : ∀ s, freeStepsI P l.toArray Inv s 0 (l.take n) a0)
    (hend : ∀ h s w', (∀ i, i < n → h i = true) → Inv h s w' → wpList P l.toArray Q (l.drop n) (putAll s 0 (l.take n) a0) w') : (Code.region id l.toArray true).wp P Q a0 w := by
  simp only [freeB, Bool.and_eq_true, Bool.or_eq_true, decide_eq_true_eq] at hB
  obtain ⟨⟨⟨⟨hn, hb⟩, hs⟩, ht⟩, hq⟩ := hB
  refine wp_region_any hm ?_
  have h2 := freeI_then (P := P) (Q := Q) hn hb hs ht hq hsteps hend n (Array.replicate n false) (fun _ => undef) a0 w.drew (by simp) (by unfold wanting; exact Nat.le_trans (List.length_filter_le _ _) (by simp)) ⟨by simp [marks]; omega, fun j oj _ hl => by
      exfalso
      by_cases hj : j < n
      · rw [marks_low false (by simpa using hj)] at hl
        simp [hj] at hl
      · simp [marks, Array.getD_eq_getD_getElem?] at hl
        simp [Array.getElem?_replicate] at hl
        split at hl <;> simp at hl, fun t ht ht' => by
      have h3 : t < n + (l.length - n) := by simp at ht'; omega
      simp [marks, Array.getD_eq_getD_getElem?, h3]⟩ (Cur.start l n a0 _) (by
      have e : onAt (Array.replicate n false) = fun _ => false := by
        funext j
        unfold onAt
        by_cases hj : j < n <;> simp [Array.getD_eq_getD_getElem?, hj]
      rw [e]
      exact hI _)
  have e : marks (Array.replicate n false) (l.length - n) = Array.replicate l.toArray.size false := by
    unfold marks
    rw [Array.replicate_append_replicate]
    congr 1
    simp
    omega
  rw [e, show n + (l.length - n) = l.toArray.size by simp; omega] at h2
  exact h2
end Go.Proofs.Ytoinigcfcjllcaa

/-
  Regions whose operations come in any order, where what is known of a value may end (D: of no use any more): so that an operation may write into memory that an earlier one made. 'ps': pairs (j, k): where j has come up, k has. It holds of every program.
-/
namespace Go.Proofs.Ytoinigcfcjllcaa
open Go Go.RowKit

variable {P : Program}

def pairsB (l : List Oper) (ps : List (Nat × Nat)) : Bool := ps.all fun x => match l[x.1]? with
  | some o => (waits o).any fun m => m == x.2 || ps.contains (m, x.2)
  | none => false
def KeptP (ps : List (Nat × Nat)) (h : Nat → Bool) : Prop := ∀ j k, (j, k) ∈ ps → h j = true → h k = true

theorem turnOn_self (h : Nat → Bool) (i : Nat) : turnOn h i i = true := by simp [turnOn]
theorem turnOn_of {h : Nat → Bool} {i j : Nat} (hj : h j = true) : turnOn h i j = true := by unfold turnOn; split <;> simp_all
theorem turnOn_ne {h : Nat → Bool} {i j : Nat} (hj : j ≠ i) : turnOn h i j = h j := by simp [turnOn, hj]
theorem turnTo_self (s : Nat → Value) (i : Nat) (v : Value) : turnTo s i v i = v := by simp [turnTo]
theorem turnTo_ne {s : Nat → Value} {i j : Nat} {v : Value} (hj : j ≠ i) : turnTo s i v j = s j := by simp [turnTo, hj]

theorem KeptP.step {l : List Oper} {ps : List (Nat × Nat)} (hB : pairsB l ps = true) {h : Nat → Bool} (hk : KeptP ps h) {i : Nat} {o : Oper} (ho : l[i]? = some o) (hw : ∀ j ∈ waits o, h j = true) : KeptP ps (turnOn h i) := by
  intro j k hjk hj
  by_cases e : j = i
  · subst e
    have h1 := List.all_eq_true.1 hB _ hjk
    simp only [ho] at h1
    obtain ⟨m, hm, h2⟩ := List.any_eq_true.1 h1
    simp only [Bool.or_eq_true, beq_iff_eq, List.contains_iff_mem] at h2
    rcases h2 with rfl | h2
    · exact turnOn_of (hw m hm)
    · exact turnOn_of (hk m k h2 (hw m hm))
  · rw [turnOn_ne e] at hj
    exact turnOn_of (hk j k hjk hj)

structure InvK (G : World → Prop) (V : Nat → Value → World → Prop) (D : (Nat → Bool) → Nat → Bool) (ps : List (Nat × Nat)) (h : Nat → Bool) (s : Nat → Value) (w : World) : Prop where
  g : G w
  v : ∀ i, h i = true → D h i = false → V i (s i) w
  e : KeptP ps h

/-- What a step must leave: the value's own V; and what is known of the others, as far as it is of use. -/
def Leaves (G : World → Prop) (V : Nat → Value → World → Prop) (D : (Nat → Bool) → Nat → Bool) (s : Nat → Value) (i : Nat) (h : Nat → Bool) (w : World) (v : Value) (w' : World) : Prop :=
  V i v w' ∧ (Below w.heap.size w w' ∨ (G w' ∧ ∀ j, h j = true → D (turnOn h i) j = false → V j (s j) w'))

def freeStepsK (P : Program) (ops : Array Oper) (G : World → Prop) (V : Nat → Value → World → Prop) (D : (Nat → Bool) → Nat → Bool) (ps : List (Nat × Nat)) (s : Nat → Value) : Nat → List Oper → Act → Prop
  | _, [], _ => True
  | i, o :: t, a => (∀ h w, h i = false → KeptP ps h → G w → (∀ j ∈ waits o, h j = true) → (∀ j, h j = true → D h j = false → V j (s j) w) → stepAt P ops o a w (Leaves G V D s i h w)) ∧ freeStepsK P ops G V D ps s (i + 1) t (a.put o.dst (s i))

theorem stepAt_mono {ops : Array Oper} {o : Oper} {a : Act} {w : World} {R R' : Value → World → Prop} (h : stepAt P ops o a w R) (hR : ∀ v w', R v w' → R' v w') : stepAt P ops o a w R' := by
  unfold stepAt at h ⊢
  cases hd : o.dst with
  | none => rw [hd] at h; exact h
  | some d =>
    rw [hd] at h
    exact fun K hK => h K fun a' w' h1 h2 => hK a' w' h1 (hR _ _ h2)

theorem stepsI_of_K {l : List Oper} {G : World → Prop} {V : Nat → Value → World → Prop} {D : (Nat → Bool) → Nat → Bool} {ps : List (Nat × Nat)} {s : Nat → Value} {n : Nat}
    (hGB : ∀ w w', G w → Below w.heap.size w w' → G w') (hVB : ∀ i v w w', V i v w → Below w.heap.size w w' → V i v w') (hD : ∀ h i j, D h j = true → D (turnOn h i) j = true) (hB : pairsB l ps = true) :
    ∀ (t : List Oper) (k : Nat) (a : Act), (∀ j, t[j]? = (l.take n)[k + j]?) → freeStepsK P l.toArray G V D ps s k t a → freeStepsI P l.toArray (InvK G V D ps) s k t a
  | [], _, _, _, _ => trivial
  | o :: t, k, a, hl, hs => by
    refine ⟨fun h w hk hw hI => ?_, stepsI_of_K (n := n) hGB hVB hD hB t (k + 1) _ (fun j => ?_) hs.2⟩
    · have ho : l[k]? = some o := by
        have h0 := hl 0
        simp only [List.getElem?_cons_zero, Nat.add_zero] at h0
        rw [List.getElem?_take] at h0
        split at h0
        · exact h0.symm
        · cases h0
      refine stepAt_mono (hs.1 h w hk hI.e hI.g hw hI.v) fun v w' ⟨h1, h2⟩ => ⟨?_, fun j hj hd => ?_, hI.e.step hB ho hw⟩
      · rcases h2 with h2 | h2
        · exact hGB w w' hI.g h2
        · exact h2.1
      · by_cases e : j = k
        · subst e; rw [turnTo_self]; exact h1
        · rw [turnOn_ne e] at hj
          rw [turnTo_ne e]
          rcases h2 with h2 | h2
          · refine hVB j _ w w' (hI.v j hj ?_) h2
            cases hx : D h j with
            | false => rfl
            | true => rw [hD h k j hx] at hd; cases hd
          · exact h2.2 j hj hd
    · have := hl (j + 1)
      simpa [Nat.add_assoc, Nat.add_comm 1 j] using this

theorem wp_region_freeK {id : Nat} {Q : Exit → Act → World → Prop} {l : List Oper} {a0 : Act} {w : World} (n : Nat) (G : World → Prop) (V : Nat → Value → World → Prop) (D : (Nat → Bool) → Nat → Bool) (ps : List (Nat × Nat)) (hm : P.follows .mixedOrders = true) (hB : freeB l n a0.tmps.size = true) (hP : pairsB l ps = true) (hG : G w.drew)
    (hGB : ∀ w w', G w → Below w.heap.size w w' → G w') (hVB : ∀ i v w w', V i v w → Below w.heap.size w w' → V i v w') (hD : ∀ h i j, D h j = true → D (turnOn h i) j = true)
    (hsteps : ∀ s, freeStepsK P l.toArray G V D ps s 0 (l.take n) a0)
    (hend : ∀ h s w', (∀ i, i < n → h i = true) → G w' → (∀ i, h i = true → D h i = false → V i (s i) w') → wpList P l.toArray Q (l.drop n) (putAll s 0 (l.take n) a0) w') : (Code.region id l.toArray true).wp P Q a0 w :=
  wp_region_freeI n (InvK G V D ps) hm hB (fun s => ⟨hG, (fun i h => by cases h), (fun j k _ h => by cases h)⟩) (fun s => stepsI_of_K (n := n) hGB hVB hD hP (l.take n) 0 a0 (fun j => by rw [Nat.zero_add]) (hsteps s)) fun h s w' h1 h2 => hend h s w' h1 h2.g h2.v
end Go.Proofs.Ytoinigcfcjllcaa
