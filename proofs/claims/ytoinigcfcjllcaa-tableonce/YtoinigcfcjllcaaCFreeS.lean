/-
  The texts FreeS, one behind the other.
-/
import Derived.Test.YtoinigcfcjllcaaOnceM2
import Derived.Test.YtoinigcfcjllcaaOnceM3
/-
  As ..FreeKill, but an operation of the head may have no slot (a store): regions in which a store may come up ahead of an operation that reads, as in 'x, ok := f(..)' where x lies in a block of its own. It holds of every program.
-/
namespace Go.Proofs.Ytoinigcfcjllcaa
open Go Go.RowKit

variable {P : Program}

/-- One operation, with a slot or without one. -/
def stepS (P : Program) (ops : Array Oper) (o : Oper) (a : Act) (w : World) (R : Value → World → Prop) : Prop :=
  match o.dst with
  | none => ∀ K : Act → World → Prop, (∀ w', R undef w' → K a w') → if Region.wanted o (yielded ops a.tmps) = true then o.wp P a w K (fun _ _ _ => False) else K a w
  | some _ => stepAt P ops o a w R

theorem stepS_of {ops : Array Oper} {o : Oper} {a : Act} {w : World} {R : Value → World → Prop} {d : Tmp} (hd : o.dst = some d) (h : stepAt P ops o a w R) : stepS P ops o a w R := by
  unfold stepS
  rw [hd]
  exact h
theorem stepS_mono {ops : Array Oper} {o : Oper} {a : Act} {w : World} {R R' : Value → World → Prop} (h : stepS P ops o a w R) (hR : ∀ v w', R v w' → R' v w') : stepS P ops o a w R' := by
  unfold stepS at h ⊢
  split
  · rename_i hd
    rw [hd] at h
    exact fun K hK => h K fun w' h1 => hK w' (hR _ _ h1)
  · rename_i d hd
    rw [hd] at h
    exact stepAt_mono h hR
/-- A store: no slot, no guard. -/
theorem stepS_skip {ops : Array Oper} {o : Oper} {a : Act} {w w' : World} {R : Value → World → Prop} (hd : o.dst = none) (hw : Region.wanted o (yielded ops a.tmps) = true) (hrun : (execOp a.eval o).run P w = .ok .skip w') (h : R undef w') : stepS P ops o a w R := by
  unfold stepS
  rw [hd]
  intro K hK
  rw [if_pos hw]
  unfold Oper.wp
  rw [hrun]
  simp only [Oper.upon]
  rw [hd]
  exact hK w' h

def slotsS (l : List Oper) (n z : Nat) : Bool :=
  (List.range n).all fun i => match l[i]? with
    | some o => (match o.dst with
        | some d => decide (d < z) && (List.range n).all fun j => (match l[j]? with
            | some oj => i == j || oj.dst != some d
            | none => false)
        | none => true) && looksB l n i o && plainB o
    | none => false

theorem slotsS_spec {l : List Oper} {n z i : Nat} (h : slotsS l n z = true) (hi : i < n) : ∃ o, l[i]? = some o ∧ (∀ d, o.dst = some d → d < z ∧ ∀ j oj, j < n → l[j]? = some oj → oj.dst = some d → i = j) ∧ looksB l n i o = true ∧ plainB o = true := by
  have h1 := List.all_eq_true.1 h i (List.mem_range.2 hi)
  cases ho : l[i]? with
  | none => rw [ho] at h1; cases h1
  | some o =>
    rw [ho] at h1
    simp only [Bool.and_eq_true] at h1
    obtain ⟨⟨h2, h3⟩, h4⟩ := h1
    refine ⟨o, rfl, fun d hd => ?_, h3, h4⟩
    rw [hd] at h2
    simp only [Bool.and_eq_true, decide_eq_true_eq] at h2
    refine ⟨h2.1, fun j oj hj hoj hdj => ?_⟩
    have h5 := List.all_eq_true.1 h2.2 j (List.mem_range.2 hj)
    rw [hoj] at h5
    simp only [Bool.or_eq_true, beq_iff_eq, bne_iff_ne, ne_eq] at h5
    rcases h5 with h5 | h5
    · exact h5
    · exact absurd hdj h5

theorem Cur.stepS {l : List Oper} {n : Nat} {a0 a : Act} {h : Array Bool} {s : Nat → Value} (c : Cur l n a0 h s a) {z i : Nat} (hB : slotsS l n z = true) (hz : h.size = n) (hzz : a0.tmps.size = z) {o : Oper} (hi : i < n) (ho : l[i]? = some o) (v : Value) :
    Cur l n a0 (h.setIfInBounds i true) (fun j => if j = i then v else s j) (a.put o.dst v) := by
  have hset : ∀ j, j ≠ i → (h.setIfInBounds i true).getD j false = h.getD j false := fun j hj => getD_set_ne false (Ne.symm hj)
  refine ⟨by rw [put_size]; exact c.size, by rw [put_defers]; exact c.defers, fun j oj dj hj hoj hdj hl => ?_, fun t ht => ?_⟩
  · obtain ⟨oj', hoj', hsp, _, _⟩ := slotsS_spec hB hj
    obtain rfl : oj = oj' := Option.some.inj (hoj.symm.trans hoj')
    obtain ⟨hdz, hu⟩ := hsp dj hdj
    by_cases hji : j = i
    · subst hji
      obtain rfl : oj = o := Option.some.inj (hoj.symm.trans ho)
      rw [if_pos rfl, hdj]
      exact put_at a dj v (by rw [c.size, hzz]; exact hdz)
    · rw [if_neg hji, put_other _ _ _ _ (fun e => hji (hu i o hi ho e))]
      exact c.done j oj dj hj hoj hdj (by rw [← hset j hji]; exact hl)
  · have hne : o.dst ≠ some t := ht i o hi ho (by simp [hz, hi])
    rw [put_other _ _ _ _ hne]
    refine c.other t fun j oj hj hoj hl => ht j oj hj hoj ?_
    by_cases hji : j = i
    · subst hji; simp [hz, hi]
    · rw [hset j hji]; exact hl

theorem Cur.wholeS {l : List Oper} {n : Nat} {a0 a : Act} {s : Nat → Value} (c : Cur l n a0 (Array.replicate n true) s a) (hB : slotsS l n a0.tmps.size = true) : a = putAll s 0 (l.take n) a0 := by
  have hat : ∀ t, a.tmps[t]? = (putAll s 0 (l.take n) a0).tmps[t]? := fun t => by
    by_cases he : ∃ j o, j < n ∧ l[j]? = some o ∧ o.dst = some t
    · obtain ⟨j, o, hj, ho, hd⟩ := he
      obtain ⟨o', ho', hsp, _, _⟩ := slotsS_spec hB hj
      obtain rfl : o = o' := Option.some.inj (ho.symm.trans ho')
      obtain ⟨hdz, hu⟩ := hsp t hd
      rw [c.done j o t hj ho hd (by simp [hj]), putAll_at s t 0 (l.take n) a0 j o (by rw [List.getElem?_take, if_pos hj]; exact ho) hd hdz (fun k o' hk hd2 => by
        rw [List.getElem?_take] at hk
        split at hk
        · rename_i hkn; exact (hu k o' hkn hk hd2).symm
        · cases hk), Nat.zero_add]
    · have hno : ∀ j o, j < n → l[j]? = some o → o.dst ≠ some t := fun j o hj ho hd => he ⟨j, o, hj, ho, hd⟩
      rw [c.other t (fun j o hj ho _ => hno j o hj ho), putAll_other s t 0 (l.take n) a0 (fun k o hk => by
        rw [List.getElem?_take] at hk
        split at hk
        · rename_i hkn; exact hno k o hkn hk
        · cases hk)]
  have ht : a.tmps = (putAll s 0 (l.take n) a0).tmps := Array.ext_getElem? hat
  have hd : a.defers = (putAll s 0 (l.take n) a0).defers := by rw [putAll_defers]; exact c.defers
  cases a
  cases hq : putAll s 0 (l.take n) a0
  rw [hq] at ht hd
  simp only at ht hd
  rw [ht, hd]

theorem Cur.looksS {l : List Oper} {n z i : Nat} {a0 a : Act} {h : Array Bool} {s : Nat → Value} (c : Cur l n a0 h s a) (hB : slotsS l n z = true) (hzz : a0.tmps.size = z) (hi : i < n) {o : Oper} (ho : l[i]? = some o) (hw : ∀ j ∈ waits o, h.getD j false = true) :
    ∀ t ∈ o.looksAt l.toArray, a.tmps[t]? = (putAll s 0 (l.take i) a0).tmps[t]? := fun t ht => by
  obtain ⟨o', ho', _, hlk, _⟩ := slotsS_spec hB hi
  obtain rfl : o = o' := Option.some.inj (ho.symm.trans ho')
  by_cases he : ∃ j oj, j < n ∧ l[j]? = some oj ∧ oj.dst = some t
  · obtain ⟨j, oj, hj, hoj, hdj⟩ := he
    obtain ⟨oj', hoj', hsp, _, _⟩ := slotsS_spec hB hj
    obtain rfl : oj = oj' := Option.some.inj (hoj.symm.trans hoj')
    obtain ⟨hdz, hu⟩ := hsp t hdj
    obtain ⟨hji, hjw⟩ := looks_spec hlk ht hj hoj hdj
    rw [c.done j oj t hj hoj hdj (hw j hjw), putAll_at s t 0 (l.take i) a0 j oj (by rw [List.getElem?_take, if_pos hji]; exact hoj) hdj (by rw [hzz]; exact hdz) (fun k o' hk hd2 => by
      rw [List.getElem?_take] at hk
      split at hk
      · rename_i hkn; exact (hu k o' (by omega) hk hd2).symm
      · cases hk), Nat.zero_add]
  · have hno : ∀ j o, j < n → l[j]? = some o → o.dst ≠ some t := fun j o hj ho hd => he ⟨j, o, hj, ho, hd⟩
    rw [c.other t (fun j o hj ho _ => hno j o hj ho), putAll_other s t 0 (l.take i) a0 (fun k o hk => by
      rw [List.getElem?_take] at hk
      split at hk
      · rename_i hkn; exact hno k o (by omega) hk
      · cases hk)]

theorem wpOp_of_stepS {ops : Array Oper} {i : Nat} {o : Oper} {a b : Act} {w : World} {R : Value → World → Prop} {K : Act → World → Prop} {Q : Exit → Act → World → Prop} (ho : ops[i]? = some o) (hp : plainB o = true) (h : ∀ t ∈ o.looksAt ops, a.tmps[t]? = b.tmps[t]?) (hz : ∀ d, o.dst = some d → d < b.tmps.size)
    (hs : stepS P ops o b w R) (hK : ∀ v w', R v w' → K (a.put o.dst v) w') : wpOp P ops Q i K a w := by
  cases hd : o.dst with
  | some d =>
    unfold stepS at hs
    rw [hd] at hs
    exact wpOp_of_step ho hp h hd (hz d hd) hs hK
  | none =>
    unfold stepS at hs
    rw [hd] at hs hK
    simp only at hs
    have hs := hs (fun a' w' => a' = b ∧ R undef w') (fun _ h1 => ⟨rfl, h1⟩)
    have hK' : ∀ w', R undef w' → K a w' := fun w' h1 => hK undef w' h1
    unfold wpOp
    simp only [ho]
    rw [wanted_same h]
    split
    · rename_i hw
      rw [if_pos hw] at hs
      refine .inl ?_
      unfold Oper.wp at hs ⊢
      rw [exec_same hp h]
      generalize hr : (execOp b.eval o).run P w = r at *
      cases r with
      | ok x w' =>
        cases x <;> simp only [Oper.upon, hd] at hs ⊢
        case value v => exact hK' w' hs.2
        case skip => exact hK' w' hs.2
        case enter f args =>
          refine Calls.mono hs fun e w'' he => ?_
          cases e with
          | returned v => simp only at he ⊢; exact hK' w'' he.2
          | panicked c => exact absurd he (by simp)
          | outgrown => exact (not_letsOut he).elim
        case row row args =>
          refine Rows.mono hs fun v w'' he => ?_
          exact hK' w'' he.2
        case defer e =>
          have h1 := congrArg (fun q : Act => q.defers.length) hs.1
          exact absurd h1 (by simp [Act.put])
      | halt x w' => cases x <;> simp only [Oper.upon] at hs
    · rename_i hw
      rw [if_neg hw] at hs
      rw [hd]
      exact hK' w hs.2

def freeStepsIS (P : Program) (ops : Array Oper) (Inv : (Nat → Bool) → (Nat → Value) → World → Prop) (s : Nat → Value) : Nat → List Oper → Act → Prop
  | _, [], _ => True
  | i, o :: t, a => (∀ h w, h i = false → (∀ j ∈ waits o, h j = true) → Inv h s w → stepS P ops o a w fun v w' => Inv (turnOn h i) (turnTo s i v) w') ∧ freeStepsIS P ops Inv s (i + 1) t (a.put o.dst (s i))

theorem stepsIS_at {Inv : (Nat → Bool) → (Nat → Value) → World → Prop} {ops : Array Oper} {s : Nat → Value} : ∀ (t : List Oper) (k : Nat) (a : Act) (i : Nat) (o : Oper), freeStepsIS P ops Inv s k t a → t[i]? = some o →
    ∀ h w, h (k + i) = false → (∀ j ∈ waits o, h j = true) → Inv h s w → stepS P ops o (putAll s k (t.take i) a) w fun v w' => Inv (turnOn h (k + i)) (turnTo s (k + i) v) w'
  | [], _, _, i, o, _, h => by simp at h
  | o0 :: t, k, a, 0, o, hs, h => by
    simp only [List.getElem?_cons_zero, Option.some.injEq] at h
    subst h
    exact hs.1
  | o0 :: t, k, a, i + 1, o, hs, h => by
    have := stepsIS_at t (k + 1) (a.put o0.dst (s k)) i o hs.2 (by simpa using h)
    rw [List.take_succ_cons, putAll, show k + (i + 1) = k + 1 + i by omega]
    exact this

def freeBS (l : List Oper) (n z : Nat) : Bool :=
  decide (n ≤ l.length) && backB l n && slotsS l n z && (decide (n = l.length) || (Region.sinkB .any l.toArray n && Region.chainB .any l.toArray n)) && Region.seqB .any l.toArray (l.length - n) n (marks (Array.replicate n true) (l.length - n))

variable {Inv : (Nat → Bool) → (Nat → Value) → World → Prop} {Q : Exit → Act → World → Prop} {l : List Oper} {n : Nat} {a0 : Act}

theorem freeIS_then (hn : n ≤ l.length) (hb : backB l n = true) (hB : slotsS l n a0.tmps.size = true) (htail : n = l.length ∨ (Region.sinkB .any l.toArray n = true ∧ Region.chainB .any l.toArray n = true)) (hseq : Region.seqB .any l.toArray (l.length - n) n (marks (Array.replicate n true) (l.length - n)) = true)
    (hsteps : ∀ s, freeStepsIS P l.toArray Inv s 0 (l.take n) a0)
    (hend : ∀ h s w', (∀ i, i < n → h i = true) → Inv h s w' → wpList P l.toArray Q (l.drop n) (putAll s 0 (l.take n) a0) w') :
    ∀ (f : Nat) (h : Array Bool) (s : Nat → Value) (a : Act) (w : World), h.size = n → wanting h n ≤ f → HeadInv .any l.toArray n (marks h (l.length - n)) → Cur l n a0 h s a → Inv (onAt h) s w →
      wpAny P .any l.toArray Q (f + (l.length - n)) (marks h (l.length - n)) a w := by
  intro f
  induction f with
  | zero =>
    intro h s a w hz hf inv c hI
    have hall := wanting_zero (Nat.le_zero.1 hf)
    obtain rfl : h = Array.replicate n true := by
      apply Array.ext
      · simpa using hz
      · intro i h1 h2
        have := hall i (by omega)
        simpa [Array.getD_eq_getD_getElem?, h1] using this
    rw [c.wholeS hB, Nat.zero_add]
    exact tail_any (l.drop n) n _ _ _ w (fun j => by simp [List.getElem?_drop]) (by simp) (by simpa using hseq) (hend _ s w (fun i hi => by simp [onAt, hi]) hI)
  | succ f ih =>
    intro h s a w hz hf inv c hI
    by_cases hex : ∃ j, j < n ∧ h.getD j true = false
    · obtain ⟨j, hj, hun⟩ := hex
      rw [show f + 1 + (l.length - n) = (f + (l.length - n)) + 1 by omega]
      have hmv := head_moves hb hz j hj hun
      refine ⟨fun he => ?_, fun i hi => ?_⟩
      · cases h0 : Region.ready .any (l.take n).toArray h with
        | nil => exact absurd h0 hmv
        | cons k ks =>
          have hk : k ∈ Region.ready .any (l.take n).toArray h := by rw [h0]; simp
          have hkn : k < n := by
            obtain ⟨_, o, ho, _⟩ := mem_ready.1 hk
            have := (Array.getElem?_eq_some_iff.1 ho).1
            simp at this
            omega
          have := (ready_head (g := l.length - n) hb hz hkn).1 hk
          rw [he] at this
          cases this
      · have hin : i < n := by
          rcases htail with he | ⟨hs, hc⟩
          · obtain ⟨_, o, ho, _⟩ := mem_ready.1 hi
            have := (Array.getElem?_eq_some_iff.1 ho).1
            simp at this
            omega
          · refine Nat.lt_of_not_le fun hle => ?_
            by_cases hnl : n < l.length
            · exact tail_waits hs hc (by simpa using hnl) inv _ j rfl hj (by rw [marks_low true (by omega)]; exact hun) i hle hi
            · obtain ⟨_, o, ho, _⟩ := mem_ready.1 hi
              have := (Array.getElem?_eq_some_iff.1 ho).1
              simp at this
              omega
        obtain ⟨hui, o, ho, hafter⟩ := mem_ready.1 hi
        rw [marks_low true (by omega)] at hui
        obtain ⟨o', ho', hsp, hlk, hpl⟩ := slotsS_spec hB hin
        obtain rfl : o = o' := by
          have : l[i]? = some o := by simpa using ho
          exact Option.some.inj (this.symm.trans ho')
        obtain ⟨ob, hob, hback, _⟩ := back_spec hb hin
        obtain rfl : o = ob := Option.some.inj (ho'.symm.trans hob)
        have hw : ∀ j ∈ waits o, h.getD j false = true ∧ j < n := fun j hj => by
          unfold waits at hj
          obtain ⟨e, he, rfl⟩ := List.mem_map.1 hj
          obtain ⟨he1, he2⟩ := List.mem_filter.1 he
          have he1' : e ∈ o.after := by simpa using he1
          have h1 := hback e he1' he2
          have h2 := hafter e he1' he2
          rw [marks_low false (by omega)] at h2
          exact ⟨h2, by omega⟩
        have hst := stepsIS_at (l.take n) 0 a0 i o (hsteps s) (by rw [List.getElem?_take, if_pos hin]; exact ho') (onAt h) w (by
          rw [Nat.zero_add]
          unfold onAt
          have : i < h.size := by omega
          simpa [Array.getD_eq_getD_getElem?, this] using hui) (fun j hj => (hw j hj).1) hI
        rw [Nat.zero_add, List.take_take, Nat.min_eq_left (by omega)] at hst
        refine wpOp_of_stepS (b := putAll s 0 (l.take i) a0) ho hpl (c.looksS hB rfl hin ho' fun j hj => (hw j hj).1) (fun d hd => by rw [putAll_size]; exact (hsp d hd).1) hst fun v w' hv => ?_
        have inv' := inv.set hi hin
        rw [marks_set (by omega)] at inv' ⊢
        refine ih (h.setIfInBounds i true) (turnTo s i v) _ w' (by simpa using hz) (by have := wanting_less hz hin hui; omega) inv' (c.stepS hB hz rfl hin ho' v) ?_
        rw [onAt_set hz hin]
        exact hv
    · have hf' : wanting h n ≤ 0 := by
        unfold wanting
        rw [Nat.le_zero, List.length_eq_zero_iff, List.filter_eq_nil_iff]
        intro j hj
        have hjn := List.mem_range.1 hj
        cases hv : h.getD j true with
        | true => simp
        | false => exact absurd ⟨j, hjn, hv⟩ hex
      have hall := wanting_zero (Nat.le_zero.1 hf')
      obtain rfl : h = Array.replicate n true := by
        apply Array.ext
        · simpa using hz
        · intro i h1 h2
          have := hall i (by omega)
          simpa [Array.getD_eq_getD_getElem?, h1] using this
      rw [c.wholeS hB]
      exact tail_any (l.drop n) n _ _ _ w (fun j => by simp [List.getElem?_drop]) (by simp) (by simpa using hseq) (hend _ s w (fun i hi => by simp [onAt, hi]) hI)

theorem wp_region_freeIS {id : Nat} {w : World} (n : Nat) (Inv : (Nat → Bool) → (Nat → Value) → World → Prop) (hm : P.follows .mixedOrders = true) (hB : freeBS l n a0.tmps.size = true) (hI : ∀ s, Inv (fun _ => false) s w.drew)
    (hsteps : ∀ s, freeStepsIS P l.toArray Inv s 0 (l.take n) a0)
    (hend : ∀ h s w', (∀ i, i < n → h i = true) → Inv h s w' → wpList P l.toArray Q (l.drop n) (putAll s 0 (l.take n) a0) w') : (Code.region id l.toArray true).wp P Q a0 w := by
  simp only [freeBS, Bool.and_eq_true, Bool.or_eq_true, decide_eq_true_eq] at hB
  obtain ⟨⟨⟨⟨hn, hb⟩, hs⟩, ht⟩, hq⟩ := hB
  refine wp_region_any hm ?_
  have h2 := freeIS_then (P := P) (Q := Q) hn hb hs ht hq hsteps hend n (Array.replicate n false) (fun _ => undef) a0 w.drew (by simp) (by unfold wanting; exact Nat.le_trans (List.length_filter_le _ _) (by simp)) ⟨by simp [marks]; omega, fun j oj _ hl => by
      exfalso
      by_cases hj : j < n
      · rw [marks_low false (by simpa using hj)] at hl
        simp [hj] at hl
      · simp [marks, Array.getD_eq_getD_getElem?] at hl
        simp [Array.getElem?_replicate] at hl
        split at hl <;> simp at hl, fun t ht ht' => by
      have h3 : t < n + (l.length - n) := by simp at ht'; omega
      simp [marks, Array.getD_eq_getD_getElem?, h3]⟩ (Cur.start l n a0 _) (by
      have e : onAt (Array.replicate n false) = fun _ => false := by
        funext j
        unfold onAt
        by_cases hj : j < n <;> simp [Array.getD_eq_getD_getElem?, hj]
      rw [e]
      exact hI _)
  have e : marks (Array.replicate n false) (l.length - n) = Array.replicate l.toArray.size false := by
    unfold marks
    rw [Array.replicate_append_replicate]
    congr 1
    simp
    omega
  rw [e, show n + (l.length - n) = l.toArray.size by simp; omega] at h2
  exact h2
def freeStepsKS (P : Program) (ops : Array Oper) (G : World → Prop) (V : Nat → Value → World → Prop) (D : (Nat → Bool) → Nat → Bool) (ps : List (Nat × Nat)) (s : Nat → Value) : Nat → List Oper → Act → Prop
  | _, [], _ => True
  | i, o :: t, a => (∀ h w, h i = false → KeptP ps h → G w → (∀ j ∈ waits o, h j = true) → (∀ j, h j = true → D h j = false → V j (s j) w) → stepS P ops o a w (Leaves G V D s i h w)) ∧ freeStepsKS P ops G V D ps s (i + 1) t (a.put o.dst (s i))

theorem stepsIS_of_K {l : List Oper} {G : World → Prop} {V : Nat → Value → World → Prop} {D : (Nat → Bool) → Nat → Bool} {ps : List (Nat × Nat)} {s : Nat → Value} {n : Nat}
    (hGB : ∀ w w', G w → Below w.heap.size w w' → G w') (hVB : ∀ i v w w', V i v w → Below w.heap.size w w' → V i v w') (hD : ∀ h i j, D h j = true → D (turnOn h i) j = true) (hB : pairsB l ps = true) :
    ∀ (t : List Oper) (k : Nat) (a : Act), (∀ j, t[j]? = (l.take n)[k + j]?) → freeStepsKS P l.toArray G V D ps s k t a → freeStepsIS P l.toArray (InvK G V D ps) s k t a
  | [], _, _, _, _ => trivial
  | o :: t, k, a, hl, hs => by
    refine ⟨fun h w hk hw hI => ?_, stepsIS_of_K (n := n) hGB hVB hD hB t (k + 1) _ (fun j => ?_) hs.2⟩
    · have ho : l[k]? = some o := by
        have h0 := hl 0
        simp only [List.getElem?_cons_zero, Nat.add_zero] at h0
        rw [List.getElem?_take] at h0
        split at h0
        · exact h0.symm
        · cases h0
      refine stepS_mono (hs.1 h w hk hI.e hI.g hw hI.v) fun v w' ⟨h1, h2⟩ => ⟨?_, fun j hj hd => ?_, hI.e.step hB ho hw⟩
      · rcases h2 with h2 | h2
        · exact hGB w w' hI.g h2
        · exact h2.1
      · by_cases e : j = k
        · subst e; rw [turnTo_self]; exact h1
        · rw [turnOn_ne e] at hj
          rw [turnTo_ne e]
          rcases h2 with h2 | h2
          · refine hVB j _ w w' (hI.v j hj ?_) h2
            cases hx : D h j with
            | false => rfl
            | true => rw [hD h k j hx] at hd; cases hd
          · exact h2.2 j hj hd
    · have := hl (j + 1)
      simpa [Nat.add_assoc, Nat.add_comm 1 j] using this

theorem wp_region_freeKS {id : Nat} {Q : Exit → Act → World → Prop} {l : List Oper} {a0 : Act} {w : World} (n : Nat) (G : World → Prop) (V : Nat → Value → World → Prop) (D : (Nat → Bool) → Nat → Bool) (ps : List (Nat × Nat)) (hm : P.follows .mixedOrders = true) (hB : freeBS l n a0.tmps.size = true) (hP : pairsB l ps = true) (hG : G w.drew)
    (hGB : ∀ w w', G w → Below w.heap.size w w' → G w') (hVB : ∀ i v w w', V i v w → Below w.heap.size w w' → V i v w') (hD : ∀ h i j, D h j = true → D (turnOn h i) j = true)
    (hsteps : ∀ s, freeStepsKS P l.toArray G V D ps s 0 (l.take n) a0)
    (hend : ∀ h s w', (∀ i, i < n → h i = true) → G w' → (∀ i, h i = true → D h i = false → V i (s i) w') → wpList P l.toArray Q (l.drop n) (putAll s 0 (l.take n) a0) w') : (Code.region id l.toArray true).wp P Q a0 w :=
  wp_region_freeIS n (InvK G V D ps) hm hB (fun s => ⟨hG, (fun i h => by cases h), (fun j k _ h => by cases h)⟩) (fun s => stepsIS_of_K (n := n) hGB hVB hD hP (l.take n) 0 a0 (fun j => by rw [Nat.zero_add]) (hsteps s)) fun h s w' h1 h2 => hend h s w' h1 h2.g h2.v
/-- What a step leaves, where one operation (m) writes: T is known from then on. -/
def LeavesT (G : World → Prop) (V : Nat → Value → World → Prop) (D : (Nat → Bool) → Nat → Bool) (m : Nat) (T : (Nat → Value) → World → Prop) (s : Nat → Value) (i : Nat) (h : Nat → Bool) (w : World) (v : Value) (w' : World) : Prop :=
  Leaves G V D s i h w v w' ∧ (i = m → T (turnTo s i v) w') ∧ (h m = true → T s w → T (turnTo s i v) w')

def freeStepsT (P : Program) (ops : Array Oper) (G : World → Prop) (V : Nat → Value → World → Prop) (D : (Nat → Bool) → Nat → Bool) (ps : List (Nat × Nat)) (m : Nat) (T : (Nat → Value) → World → Prop) (s : Nat → Value) : Nat → List Oper → Act → Prop
  | _, [], _ => True
  | i, o :: t, a => (∀ h w, h i = false → KeptP ps h → G w → (∀ j ∈ waits o, h j = true) → (∀ j, h j = true → D h j = false → V j (s j) w) → stepS P ops o a w (LeavesT G V D m T s i h w)) ∧ freeStepsT P ops G V D ps m T s (i + 1) t (a.put o.dst (s i))

/-- A step that is always ahead of m. -/
theorem stepS_early {ops : Array Oper} {o : Oper} {a : Act} {w : World} {G : World → Prop} {V : Nat → Value → World → Prop} {D : (Nat → Bool) → Nat → Bool} {ps : List (Nat × Nat)} {m i : Nat} {T : (Nat → Value) → World → Prop} {s : Nat → Value} {h : Nat → Bool}
    (hne : i ≠ m) (hp : (m, i) ∈ ps) (hK : KeptP ps h) (hi : h i = false) (hs : stepS P ops o a w (Leaves G V D s i h w)) : stepS P ops o a w (LeavesT G V D m T s i h w) :=
  stepS_mono hs fun v w' hl => ⟨hl, fun e => absurd e hne, fun hm => absurd (hK m i hp hm) (by rw [hi]; simp)⟩
/-- A step that only reads, and may come up behind m. -/
theorem stepS_late {ops : Array Oper} {o : Oper} {a : Act} {w : World} {G : World → Prop} {V : Nat → Value → World → Prop} {D : (Nat → Bool) → Nat → Bool} {m i : Nat} {T : (Nat → Value) → World → Prop} {s : Nat → Value} {h : Nat → Bool}
    (hne : i ≠ m) (hT : ∀ v, T s w → T (turnTo s i v) w) (hs : stepS P ops o a w (fun v w' => V i v w ∧ w' = w)) : stepS P ops o a w (LeavesT G V D m T s i h w) :=
  stepS_mono hs fun v w' hl => by
    obtain ⟨h1, rfl⟩ := hl
    exact ⟨⟨h1, .inl (Below.refl _ _)⟩, fun e => absurd e hne, fun _ ht => hT v ht⟩

theorem stepsIS_of_T {l : List Oper} {G : World → Prop} {V : Nat → Value → World → Prop} {D : (Nat → Bool) → Nat → Bool} {ps : List (Nat × Nat)} {m : Nat} {T : (Nat → Value) → World → Prop} {s : Nat → Value} {n : Nat}
    (hGB : ∀ w w', G w → Below w.heap.size w w' → G w') (hVB : ∀ i v w w', V i v w → Below w.heap.size w w' → V i v w') (hD : ∀ h i j, D h j = true → D (turnOn h i) j = true) (hB : pairsB l ps = true) :
    ∀ (t : List Oper) (k : Nat) (a : Act), (∀ j, t[j]? = (l.take n)[k + j]?) → freeStepsT P l.toArray G V D ps m T s k t a → freeStepsIS P l.toArray (fun h s w => InvK G V D ps h s w ∧ (h m = true → T s w)) s k t a
  | [], _, _, _, _ => trivial
  | o :: t, k, a, hl, hs => by
    refine ⟨fun h w hk hw hI => ?_, stepsIS_of_T (n := n) hGB hVB hD hB t (k + 1) _ (fun j => ?_) hs.2⟩
    · obtain ⟨hI, hT⟩ := hI
      have ho : l[k]? = some o := by
        have h0 := hl 0
        simp only [List.getElem?_cons_zero, Nat.add_zero] at h0
        rw [List.getElem?_take] at h0
        split at h0
        · exact h0.symm
        · cases h0
      refine stepS_mono (hs.1 h w hk hI.e hI.g hw hI.v) fun v w' ⟨⟨h1, h2⟩, h3, h4⟩ => ⟨⟨?_, fun j hj hd => ?_, hI.e.step hB ho hw⟩, fun hm => ?_⟩
      · rcases h2 with h2 | h2
        · exact hGB w w' hI.g h2
        · exact h2.1
      · by_cases e : j = k
        · subst e; rw [turnTo_self]; exact h1
        · rw [turnOn_ne e] at hj
          rw [turnTo_ne e]
          rcases h2 with h2 | h2
          · refine hVB j _ w w' (hI.v j hj ?_) h2
            cases hx : D h j with
            | false => rfl
            | true => rw [hD h k j hx] at hd; cases hd
          · exact h2.2 j hj hd
      · by_cases e : k = m
        · exact h3 e
        · rw [turnOn_ne (fun q => e q.symm)] at hm
          exact h4 hm (hT hm)
    · have := hl (j + 1)
      simpa [Nat.add_assoc, Nat.add_comm 1 j] using this

theorem wp_region_freeT {id : Nat} {Q : Exit → Act → World → Prop} {l : List Oper} {a0 : Act} {w : World} (n : Nat) (G : World → Prop) (V : Nat → Value → World → Prop) (D : (Nat → Bool) → Nat → Bool) (ps : List (Nat × Nat)) (m : Nat) (hmn : m < n) (T : (Nat → Value) → World → Prop) (hm : P.follows .mixedOrders = true) (hB : freeBS l n a0.tmps.size = true) (hP : pairsB l ps = true) (hG : G w.drew)
    (hGB : ∀ w w', G w → Below w.heap.size w w' → G w') (hVB : ∀ i v w w', V i v w → Below w.heap.size w w' → V i v w') (hD : ∀ h i j, D h j = true → D (turnOn h i) j = true)
    (hsteps : ∀ s, freeStepsT P l.toArray G V D ps m T s 0 (l.take n) a0)
    (hend : ∀ h s w', (∀ i, i < n → h i = true) → G w' → (∀ i, h i = true → D h i = false → V i (s i) w') → T s w' → wpList P l.toArray Q (l.drop n) (putAll s 0 (l.take n) a0) w') : (Code.region id l.toArray true).wp P Q a0 w :=
  wp_region_freeIS n (fun h s w => InvK G V D ps h s w ∧ (h m = true → T s w)) hm hB (fun s => ⟨⟨hG, (fun i h => by cases h), (fun j k _ h => by cases h)⟩, fun h => by cases h⟩) (fun s => stepsIS_of_T (n := n) hGB hVB hD hP (l.take n) 0 a0 (fun j => by rw [Nat.zero_add]) (hsteps s)) fun h s w' h1 h2 => hend h s w' h1 h2.1.g h2.1.v (h2.2 (h1 m hmn))
end Go.Proofs.Ytoinigcfcjllcaa
