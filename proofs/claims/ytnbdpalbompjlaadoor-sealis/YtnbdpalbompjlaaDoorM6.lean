/-
  The texts Free, FreeLaws, MacOf, one behind the other.
-/
import Derived.Test.YtnbdpalbompjlaaDoorM2
import Derived.Test.YtnbdpalbompjlaaDoorM5
/-
  A region that draws its order, in two parts. Of the first n operations each is looked at once, in any world of a class G that is closed under what is made anew: given what is known (V) of the values that it waits for, it answers a value of which V is known again; what is known stays so while others make memory. The others wait for all of them, and come in one order. It holds of every program.
-/
namespace Go.Proofs.YtnbdpalbompjlaaDoor
open Go Go.RowKit

variable {P : Program}

/-- The operations' slots, one behind the other, hold s's values. -/
def putAll (s : Nat → Value) : Nat → List Oper → Act → Act
  | _, [], a => a
  | i, o :: t, a => putAll s (i + 1) t (a.put o.dst (s i))

/-- One operation, at its slot: whatever is asked of all frames whose slot holds a value as R says, it leads to. -/
def stepAt (P : Program) (ops : Array Oper) (o : Oper) (a : Act) (w : World) (R : Value → World → Prop) : Prop :=
  match o.dst with
  | none => False
  | some d => ∀ K : Act → World → Prop, (∀ a' w', a'.defers = a.defers → R (a'.eval (.tmp d)) w' → K a' w') → if Region.wanted o (yielded ops a.tmps) = true then o.wp P a w K (fun _ _ _ => False) else K (a.put o.dst undef) w

/-- What an operation waits for. -/
def waits (o : Oper) : List Nat := (o.after.toList.filter fun e => Region.binds .any e).map (·.on)

def freeSteps (P : Program) (ops : Array Oper) (G : World → Prop) (V : Nat → Value → World → Prop) (s : Nat → Value) : Nat → List Oper → Act → Prop
  | _, [], _ => True
  | i, o :: t, a => (∀ w, G w → (∀ j ∈ waits o, V j (s j) w) → stepAt P ops o a w fun v w' => V i v w' ∧ Below w.heap.size w w') ∧ freeSteps P ops G V s (i + 1) t (a.put o.dst (s i))

/-- What an operation looks at, as far as the head makes it, it waits for; and it stands ahead of it. -/
def looksB (l : List Oper) (n i : Nat) (o : Oper) : Bool :=
  (o.looksAt l.toArray).all fun d => (List.range n).all fun j => match l[j]? with
    | some oj => oj.dst != some d || (decide (j < i) && (waits o).contains j)
    | none => false

def plainB (o : Oper) : Bool := match o.op with
  | .select .. => false
  | .defer .. => false
  | .go .. => false
  | _ => true

def slotsB (l : List Oper) (n z : Nat) : Bool :=
  (List.range n).all fun i => match l[i]? with
    | some o => (match o.dst with
        | some d => decide (d < z) && (List.range n).all fun j => (match l[j]? with
            | some oj => i == j || oj.dst != some d
            | none => false)
        | none => false) && looksB l n i o && plainB o
    | none => false

theorem slots_spec {l : List Oper} {n z i : Nat} (h : slotsB l n z = true) (hi : i < n) : ∃ o d, l[i]? = some o ∧ o.dst = some d ∧ d < z ∧ (∀ j oj, j < n → l[j]? = some oj → oj.dst = some d → i = j) ∧ looksB l n i o = true ∧ plainB o = true := by
  have h1 := List.all_eq_true.1 h i (List.mem_range.2 hi)
  cases ho : l[i]? with
  | none => rw [ho] at h1; cases h1
  | some o =>
    rw [ho] at h1
    simp only [Bool.and_eq_true] at h1
    obtain ⟨⟨h2, h3⟩, h4⟩ := h1
    cases hd : o.dst with
    | none => rw [hd] at h2; cases h2
    | some d =>
      rw [hd] at h2
      simp only [Bool.and_eq_true, decide_eq_true_eq] at h2
      refine ⟨o, d, rfl, hd, h2.1, fun j oj hj hoj hdj => ?_, h3, h4⟩
      have h5 := List.all_eq_true.1 h2.2 j (List.mem_range.2 hj)
      rw [hoj] at h5
      simp only [Bool.or_eq_true, beq_iff_eq, bne_iff_ne, ne_eq] at h5
      rcases h5 with h5 | h5
      · exact h5
      · exact absurd hdj h5

theorem looks_spec {l : List Oper} {n i : Nat} {o : Oper} (h : looksB l n i o = true) {d j : Nat} (hd : d ∈ o.looksAt l.toArray) (hj : j < n) {oj : Oper} (hoj : l[j]? = some oj) (hdj : oj.dst = some d) : j < i ∧ j ∈ waits o := by
  have h1 := List.all_eq_true.1 (List.all_eq_true.1 h d hd) j (List.mem_range.2 hj)
  rw [hoj] at h1
  simp only [Bool.or_eq_true, bne_iff_ne, ne_eq, Bool.and_eq_true, decide_eq_true_eq] at h1
  rcases h1 with h1 | ⟨h1, h2⟩
  · exact absurd hdj h1
  · exact ⟨h1, by simpa using h2⟩

theorem put_size (a : Act) (d : Option Tmp) (v : Value) : (a.put d v).tmps.size = a.tmps.size := by cases d <;> simp [Act.put]
theorem put_defers (a : Act) (d : Option Tmp) (v : Value) : (a.put d v).defers = a.defers := by cases d <;> rfl
theorem put_at (a : Act) (d : Tmp) (v : Value) (h : d < a.tmps.size) : (a.put (some d) v).tmps[d]? = some v := by simp [Act.put, h]
theorem put_other (a : Act) (d : Option Tmp) (t : Tmp) (v : Value) (h : d ≠ some t) : (a.put d v).tmps[t]? = a.tmps[t]? := by
  cases d with
  | none => rfl
  | some d => simp [Act.put, Array.getElem?_setIfInBounds_ne (show d ≠ t from fun e => h (by rw [e]))]

theorem putAll_size (s : Nat → Value) : ∀ (i : Nat) (t : List Oper) (a : Act), (putAll s i t a).tmps.size = a.tmps.size
  | _, [], _ => rfl
  | i, o :: t, a => by rw [putAll, putAll_size s (i + 1) t, put_size]
theorem putAll_defers (s : Nat → Value) : ∀ (i : Nat) (t : List Oper) (a : Act), (putAll s i t a).defers = a.defers
  | _, [], _ => rfl
  | i, o :: t, a => by rw [putAll, putAll_defers s (i + 1) t, put_defers]
theorem putAll_other (s : Nat → Value) (d : Tmp) : ∀ (i : Nat) (t : List Oper) (a : Act), (∀ (k : Nat) (o : Oper), t[k]? = some o → o.dst ≠ some d) → (putAll s i t a).tmps[d]? = a.tmps[d]?
  | _, [], _, _ => rfl
  | i, o :: t, a, h => by
    rw [putAll, putAll_other s d (i + 1) t _ (fun k o' hk => h (k + 1) o' (by simpa using hk)), put_other _ _ _ _ (h 0 o rfl)]
theorem putAll_at (s : Nat → Value) (d : Tmp) : ∀ (i : Nat) (t : List Oper) (a : Act) (k : Nat) (o : Oper), t[k]? = some o → o.dst = some d → d < a.tmps.size → (∀ (j : Nat) (o' : Oper), t[j]? = some o' → o'.dst = some d → j = k) → (putAll s i t a).tmps[d]? = some (s (i + k))
  | _, [], _, k, o, h, _, _, _ => by simp at h
  | i, o0 :: t, a, 0, o, h, hd, hz, hu => by
    simp only [List.getElem?_cons_zero, Option.some.injEq] at h
    subst h
    rw [putAll, putAll_other s d (i + 1) t _ (fun k o' hk he => absurd (hu (k + 1) o' (by simpa using hk) he) (by omega)), hd, Nat.add_zero]
    exact put_at a d _ hz
  | i, o0 :: t, a, k + 1, o, h, hd, hz, hu => by
    rw [putAll, putAll_at s d (i + 1) t (a.put o0.dst (s i)) k o (by simpa using h) hd (by rw [put_size]; exact hz) (fun j o' hj he => by have := hu (j + 1) o' (by simpa using hj) he; omega)]
    congr 2
    omega

/-- The frame, where the operations marked in h have come up. -/
structure Cur (l : List Oper) (n : Nat) (a0 : Act) (h : Array Bool) (s : Nat → Value) (a : Act) : Prop where
  size : a.tmps.size = a0.tmps.size
  defers : a.defers = a0.defers
  done : ∀ j o d, j < n → l[j]? = some o → o.dst = some d → h.getD j false = true → a.tmps[d]? = some (s j)
  other : ∀ d, (∀ j o, j < n → l[j]? = some o → h.getD j false = true → o.dst ≠ some d) → a.tmps[d]? = a0.tmps[d]?

theorem Cur.start (l : List Oper) (n : Nat) (a : Act) (s : Nat → Value) : Cur l n a (Array.replicate n false) s a :=
  ⟨rfl, rfl, fun j o d hj _ _ h => by simp [hj] at h, fun _ _ => rfl⟩

theorem Cur.step {l : List Oper} {n : Nat} {a0 a : Act} {h : Array Bool} {s : Nat → Value} (c : Cur l n a0 h s a) {z i : Nat} (hB : slotsB l n z = true) (hz : h.size = n) (hzz : a0.tmps.size = z) {o : Oper} {d : Tmp} (hi : i < n) (ho : l[i]? = some o) (hd : o.dst = some d) (hun : h.getD i true = false) (v : Value) :
    Cur l n a0 (h.setIfInBounds i true) (fun j => if j = i then v else s j) (a.put o.dst v) := by
  obtain ⟨o', d', ho', hd', hdz, hu, _, _⟩ := slots_spec hB hi
  obtain rfl : o = o' := Option.some.inj (ho.symm.trans ho')
  obtain rfl : d = d' := Option.some.inj (hd.symm.trans hd')
  have hset : ∀ j, j ≠ i → (h.setIfInBounds i true).getD j false = h.getD j false := fun j hj => getD_set_ne false (Ne.symm hj)
  refine ⟨by rw [put_size]; exact c.size, by rw [put_defers]; exact c.defers, fun j oj dj hj hoj hdj hl => ?_, fun t ht => ?_⟩
  · by_cases hji : j = i
    · subst hji
      obtain rfl : oj = o := Option.some.inj (hoj.symm.trans ho)
      obtain rfl : dj = d := Option.some.inj (hdj.symm.trans hd)
      rw [if_pos rfl, hd]
      exact put_at a dj v (by rw [c.size, hzz]; exact hdz)
    · rw [if_neg hji, put_other _ _ _ _ (fun e => hji (hu j oj hj hoj (by rw [hdj, ← e, hd])).symm)]
      exact c.done j oj dj hj hoj hdj (by rw [← hset j hji]; exact hl)
  · have hne : o.dst ≠ some t := ht i o hi ho (by simp [hz, hi])
    rw [put_other _ _ _ _ hne]
    refine c.other t fun j oj hj hoj hl => ht j oj hj hoj ?_
    by_cases hji : j = i
    · subst hji; simp [hz, hi]
    · rw [hset j hji]; exact hl

/-- At the end all slots hold their values. -/
theorem Cur.whole {l : List Oper} {n : Nat} {a0 a : Act} {s : Nat → Value} (c : Cur l n a0 (Array.replicate n true) s a) (hB : slotsB l n a0.tmps.size = true) : a = putAll s 0 (l.take n) a0 := by
  have hat : ∀ t, a.tmps[t]? = (putAll s 0 (l.take n) a0).tmps[t]? := fun t => by
    by_cases he : ∃ j o, j < n ∧ l[j]? = some o ∧ o.dst = some t
    · obtain ⟨j, o, hj, ho, hd⟩ := he
      obtain ⟨o', d', ho', hd', hdz, hu, _, _⟩ := slots_spec hB hj
      obtain rfl : o = o' := Option.some.inj (ho.symm.trans ho')
      obtain rfl : t = d' := Option.some.inj (hd.symm.trans hd')
      rw [c.done j o t hj ho hd (by simp [hj]), putAll_at s t 0 (l.take n) a0 j o (by rw [List.getElem?_take, if_pos hj]; exact ho) hd hdz (fun k o' hk hd2 => by
        rw [List.getElem?_take] at hk
        split at hk
        · rename_i hkn; exact (hu k o' hkn hk hd2).symm
        · cases hk), Nat.zero_add]
    · have hno : ∀ j o, j < n → l[j]? = some o → o.dst ≠ some t := fun j o hj ho hd => he ⟨j, o, hj, ho, hd⟩
      rw [c.other t (fun j o hj ho _ => hno j o hj ho), putAll_other s t 0 (l.take n) a0 (fun k o hk => by
        rw [List.getElem?_take] at hk
        split at hk
        · rename_i hkn; exact hno k o hkn hk
        · cases hk)]
  have ht : a.tmps = (putAll s 0 (l.take n) a0).tmps := Array.ext_getElem? hat
  have hd : a.defers = (putAll s 0 (l.take n) a0).defers := by rw [putAll_defers]; exact c.defers
  cases a
  cases hq : putAll s 0 (l.take n) a0
  rw [hq] at ht hd
  simp only at ht hd
  rw [ht, hd]

/-- What an operation looks at reads in the frame at hand as in the one of the walk in the text's order. -/
theorem Cur.looks {l : List Oper} {n z i : Nat} {a0 a : Act} {h : Array Bool} {s : Nat → Value} (c : Cur l n a0 h s a) (hB : slotsB l n z = true) (hzz : a0.tmps.size = z) (hi : i < n) {o : Oper} (ho : l[i]? = some o) (hw : ∀ j ∈ waits o, h.getD j false = true) :
    ∀ t ∈ o.looksAt l.toArray, a.tmps[t]? = (putAll s 0 (l.take i) a0).tmps[t]? := fun t ht => by
  obtain ⟨o', d', ho', hd', _, _, hlk, _⟩ := slots_spec hB hi
  obtain rfl : o = o' := Option.some.inj (ho.symm.trans ho')
  by_cases he : ∃ j oj, j < n ∧ l[j]? = some oj ∧ oj.dst = some t
  · obtain ⟨j, oj, hj, hoj, hdj⟩ := he
    obtain ⟨oj', dj', hoj', hdj', hdz, hu, _, _⟩ := slots_spec hB hj
    obtain rfl : oj = oj' := Option.some.inj (hoj.symm.trans hoj')
    obtain rfl : t = dj' := Option.some.inj (hdj.symm.trans hdj')
    obtain ⟨hji, hjw⟩ := looks_spec hlk ht hj hoj hdj
    rw [c.done j oj t hj hoj hdj (hw j hjw), putAll_at s t 0 (l.take i) a0 j oj (by rw [List.getElem?_take, if_pos hji]; exact hoj) hdj (by rw [hzz]; exact hdz) (fun k o' hk hd2 => by
      rw [List.getElem?_take] at hk
      split at hk
      · rename_i hkn; exact (hu k o' (by omega) hk hd2).symm
      · cases hk), Nat.zero_add]
  · have hno : ∀ j o, j < n → l[j]? = some o → o.dst ≠ some t := fun j o hj ho hd => he ⟨j, o, hj, ho, hd⟩
    rw [c.other t (fun j o hj ho _ => hno j o hj ho), putAll_other s t 0 (l.take i) a0 (fun k o hk => by
      rw [List.getElem?_take] at hk
      split at hk
      · rename_i hkn; exact hno k o (by omega) hk
      · cases hk)]

theorem exec_same {ops : Array Oper} {o : Oper} {a b : Act} (hp : plainB o = true) (h : ∀ t ∈ o.looksAt ops, a.tmps[t]? = b.tmps[t]?) : execOp a.eval o = execOp b.eval o := by
  refine execOp_congr o (fun cs c e => by unfold plainB at hp; rw [e] at hp; cases hp) fun x hx => ?_
  cases x with
  | tmp t =>
    have := h t (List.mem_append_left _ (List.mem_filterMap.2 ⟨.tmp t, by simpa using hx, rfl⟩))
    simp [Act.eval, Array.getD_eq_getD_getElem?, this]
  | _ => rfl

theorem wanted_same {ops : Array Oper} {o : Oper} {a b : Act} (h : ∀ t ∈ o.looksAt ops, a.tmps[t]? = b.tmps[t]?) : Region.wanted o (yielded ops a.tmps) = Region.wanted o (yielded ops b.tmps) := by
  unfold Region.wanted
  cases hg : o.guard with
  | none => rfl
  | some gw =>
    obtain ⟨g, want⟩ := gw
    have hy : yielded ops a.tmps g = yielded ops b.tmps g := by
      unfold yielded
      cases ht : (ops[g]?).bind (·.dst) with
      | none => rfl
      | some t =>
        have := h t (by simp [Oper.looksAt, hg, ht])
        simp [this]
    simp only [hy]

theorem eval_put_same (a : Act) (d : Tmp) (v : Value) (h : d < a.tmps.size) : (a.put (some d) v).eval (.tmp d) = v := by
  simp [Act.eval, Act.put, h]

theorem not_letsOut (h : LetsOut (fun _ _ _ => False)) : False := by obtain ⟨_, _, h⟩ := h; exact h

/-- A step, in whatever frame reads alike. -/
theorem wpOp_of_step {ops : Array Oper} {i : Nat} {o : Oper} {a b : Act} {w : World} {R : Value → World → Prop} {K : Act → World → Prop} {Q : Exit → Act → World → Prop} (ho : ops[i]? = some o) (hp : plainB o = true) (h : ∀ t ∈ o.looksAt ops, a.tmps[t]? = b.tmps[t]?) {d : Tmp} (hd : o.dst = some d) (hz : d < b.tmps.size)
    (hs : stepAt P ops o b w R) (hK : ∀ v w', R v w' → K (a.put o.dst v) w') : wpOp P ops Q i K a w := by
  unfold stepAt at hs
  rw [hd] at hs
  have hs := hs (fun a' w' => a'.defers = b.defers ∧ R (a'.eval (.tmp d)) w') (fun _ _ h1 h2 => ⟨h1, h2⟩)
  unfold wpOp
  simp only [ho]
  rw [wanted_same h]
  split
  · rename_i hw
    rw [if_pos hw] at hs
    refine .inl ?_
    unfold Oper.wp at hs ⊢
    rw [exec_same hp h]
    generalize hr : (execOp b.eval o).run P w = r at *
    cases r with
    | ok x w' =>
      cases x <;> simp only [Oper.upon] at hs ⊢
      case value v => rw [hd, eval_put_same _ _ _ hz] at hs; exact hK v w' hs.2
      case skip => rw [hd, eval_put_same _ _ _ hz] at hs; exact hK undef w' hs.2
      case enter f args =>
        refine Calls.mono hs fun e w'' he => ?_
        cases e with
        | returned v => simp only at he ⊢; rw [hd, eval_put_same _ _ _ hz] at he; exact hK v w'' he.2
        | panicked c => exact absurd he (by simp)
        | outgrown => exact (not_letsOut he).elim
      case row row args =>
        refine Rows.mono hs fun v w'' he => ?_
        rw [hd, eval_put_same _ _ _ hz] at he
        exact hK v w'' he.2
      case defer e =>
        have h1 := hs.1
        rw [put_defers] at h1
        exact absurd (congrArg List.length h1) (by simp)
    | halt x w' => cases x <;> simp only [Oper.upon] at hs
  · rename_i hw
    rw [if_neg hw, eval_put_same _ _ _ hz] at hs
    exact hK undef w hs.2

theorem steps_at {G : World → Prop} {V : Nat → Value → World → Prop} {ops : Array Oper} {s : Nat → Value} : ∀ (t : List Oper) (k : Nat) (a : Act) (i : Nat) (o : Oper), freeSteps P ops G V s k t a → t[i]? = some o →
    ∀ w, G w → (∀ j ∈ waits o, V j (s j) w) → stepAt P ops o (putAll s k (t.take i) a) w fun v w' => V (k + i) v w' ∧ Below w.heap.size w w'
  | [], _, _, i, o, _, h => by simp at h
  | o0 :: t, k, a, 0, o, hs, h => by
    simp only [List.getElem?_cons_zero, Option.some.injEq] at h
    subst h
    exact hs.1
  | o0 :: t, k, a, i + 1, o, hs, h => by
    have := steps_at t (k + 1) (a.put o0.dst (s k)) i o hs.2 (by simpa using h)
    rw [List.take_succ_cons, putAll, show k + (i + 1) = k + 1 + i by omega]
    exact this

/-- So many are wanting. -/
def wanting (h : Array Bool) (n : Nat) : Nat := ((List.range n).filter fun j => h.getD j true == false).length
theorem wanting_zero {h : Array Bool} {n : Nat} (h0 : wanting h n = 0) : ∀ j, j < n → h.getD j true = true := fun j hj => by
  have h1 := List.eq_nil_of_length_eq_zero h0
  cases hv : h.getD j true with
  | true => rfl
  | false =>
    have : j ∈ (List.range n).filter fun j => h.getD j true == false := List.mem_filter.2 ⟨List.mem_range.2 hj, by simp [hv]⟩
    rw [h1] at this
    cases this
theorem filter_less {α : Type} (p q : α → Bool) : ∀ (l : List α) (x : α), x ∈ l → p x = true → q x = false → (∀ y, q y = true → p y = true) → (l.filter q).length < (l.filter p).length
  | [], _, h, _, _, _ => by cases h
  | y :: l, x, h, hp, hq, hqp => by
    have hle : ∀ l : List α, (l.filter q).length ≤ (l.filter p).length := fun l => by
      induction l with
      | nil => simp
      | cons z l ih =>
        rw [List.filter_cons, List.filter_cons]
        by_cases hz : q z = true
        · rw [if_pos hz, if_pos (hqp z hz)]; simp; exact ih
        · rw [if_neg hz]
          split
          · simp; omega
          · exact ih
    rw [List.filter_cons, List.filter_cons]
    rcases List.mem_cons.1 h with rfl | h
    · rw [if_neg (by simp [hq]), if_pos hp]
      have := hle l
      simp
      omega
    · have := filter_less p q l x h hp hq hqp
      by_cases hz : q y = true
      · rw [if_pos hz, if_pos (hqp y hz)]; simp; exact this
      · rw [if_neg hz]; split <;> simp <;> omega
theorem wanting_less {h : Array Bool} {n i : Nat} (hz : h.size = n) (hi : i < n) (hun : h.getD i true = false) : wanting (h.setIfInBounds i true) n < wanting h n :=
  filter_less _ _ _ i (List.mem_range.2 hi) (by simp [hun]) (by simp [hz, hi]) fun j hj => by
    by_cases hji : i = j
    · subst hji; simp [hz, hi] at hj
    · rw [getD_set_ne true hji] at hj; exact hj

def freeB (l : List Oper) (n z : Nat) : Bool :=
  decide (n ≤ l.length) && backB l n && slotsB l n z && (decide (n = l.length) || (Region.sinkB .any l.toArray n && Region.chainB .any l.toArray n)) && Region.seqB .any l.toArray (l.length - n) n (marks (Array.replicate n true) (l.length - n))

variable {G : World → Prop} {V : Nat → Value → World → Prop} {Q : Exit → Act → World → Prop} {l : List Oper} {n : Nat} {a0 : Act}

theorem free_then (hn : n ≤ l.length) (hb : backB l n = true) (hB : slotsB l n a0.tmps.size = true) (htail : n = l.length ∨ (Region.sinkB .any l.toArray n = true ∧ Region.chainB .any l.toArray n = true)) (hseq : Region.seqB .any l.toArray (l.length - n) n (marks (Array.replicate n true) (l.length - n)) = true)
    (hGB : ∀ w w', G w → Below w.heap.size w w' → G w') (hVB : ∀ i v w w', V i v w → Below w.heap.size w w' → V i v w')
    (hsteps : ∀ s, freeSteps P l.toArray G V s 0 (l.take n) a0)
    (hend : ∀ s w', G w' → (∀ i, i < n → V i (s i) w') → wpList P l.toArray Q (l.drop n) (putAll s 0 (l.take n) a0) w') :
    ∀ (f : Nat) (h : Array Bool) (s : Nat → Value) (a : Act) (w : World), h.size = n → wanting h n ≤ f → HeadInv .any l.toArray n (marks h (l.length - n)) → Cur l n a0 h s a → G w → (∀ i, i < n → h.getD i false = true → V i (s i) w) →
      wpAny P .any l.toArray Q (f + (l.length - n)) (marks h (l.length - n)) a w := by
  intro f
  induction f with
  | zero =>
    intro h s a w hz hf inv c hG hV
    have hall := wanting_zero (Nat.le_zero.1 hf)
    obtain rfl : h = Array.replicate n true := by
      apply Array.ext
      · simpa using hz
      · intro i h1 h2
        have := hall i (by omega)
        simpa [Array.getD_eq_getD_getElem?, h1] using this
    rw [c.whole hB, Nat.zero_add]
    exact tail_any (l.drop n) n _ _ _ w (fun j => by simp [List.getElem?_drop]) (by simp) (by simpa using hseq) (hend s w hG fun i hi => hV i hi (by simp [hi]))
  | succ f ih =>
    intro h s a w hz hf inv c hG hV
    by_cases hex : ∃ j, j < n ∧ h.getD j true = false
    · obtain ⟨j, hj, hun⟩ := hex
      rw [show f + 1 + (l.length - n) = (f + (l.length - n)) + 1 by omega]
      have hmv := head_moves hb hz j hj hun
      refine ⟨fun he => ?_, fun i hi => ?_⟩
      · cases h0 : Region.ready .any (l.take n).toArray h with
        | nil => exact absurd h0 hmv
        | cons k ks =>
          have hk : k ∈ Region.ready .any (l.take n).toArray h := by rw [h0]; simp
          have hkn : k < n := by
            obtain ⟨_, o, ho, _⟩ := mem_ready.1 hk
            have := (Array.getElem?_eq_some_iff.1 ho).1
            simp at this
            omega
          have := (ready_head (g := l.length - n) hb hz hkn).1 hk
          rw [he] at this
          cases this
      · have hin : i < n := by
          rcases htail with he | ⟨hs, hc⟩
          · obtain ⟨_, o, ho, _⟩ := mem_ready.1 hi
            have := (Array.getElem?_eq_some_iff.1 ho).1
            simp at this
            omega
          · refine Nat.lt_of_not_le fun hle => ?_
            by_cases hnl : n < l.length
            · exact tail_waits hs hc (by simpa using hnl) inv _ j rfl hj (by rw [marks_low true (by omega)]; exact hun) i hle hi
            · obtain ⟨_, o, ho, _⟩ := mem_ready.1 hi
              have := (Array.getElem?_eq_some_iff.1 ho).1
              simp at this
              omega
        obtain ⟨hui, o, ho, hafter⟩ := mem_ready.1 hi
        rw [marks_low true (by omega)] at hui
        obtain ⟨o', d, ho', hd, hdz, hu, hlk, hpl⟩ := slots_spec hB hin
        obtain rfl : o = o' := by
          have : l[i]? = some o := by simpa using ho
          exact Option.some.inj (this.symm.trans ho')
        obtain ⟨ob, hob, hback, _⟩ := back_spec hb hin
        obtain rfl : o = ob := Option.some.inj (ho'.symm.trans hob)
        have hw : ∀ j ∈ waits o, h.getD j false = true ∧ j < n := fun j hj => by
          unfold waits at hj
          obtain ⟨e, he, rfl⟩ := List.mem_map.1 hj
          obtain ⟨he1, he2⟩ := List.mem_filter.1 he
          have he1' : e ∈ o.after := by simpa using he1
          have h1 := hback e he1' he2
          have h2 := hafter e he1' he2
          rw [marks_low false (by omega)] at h2
          exact ⟨h2, by omega⟩
        have hst := steps_at (l.take n) 0 a0 i o (hsteps s) (by rw [List.getElem?_take, if_pos hin]; exact ho') w hG (fun j hj => hV j (hw j hj).2 (hw j hj).1)
        rw [Nat.zero_add, List.take_take, Nat.min_eq_left (by omega)] at hst
        refine wpOp_of_step (b := putAll s 0 (l.take i) a0) ho hpl (c.looks hB rfl hin ho' fun j hj => (hw j hj).1) hd (by rw [putAll_size]; exact hdz) hst fun v w' ⟨hv, hbel⟩ => ?_
        have inv' := inv.set hi hin
        rw [marks_set (by omega)] at inv' ⊢
        refine ih (h.setIfInBounds i true) (fun j => if j = i then v else s j) _ w' (by simpa using hz) (by have := wanting_less hz hin hui; omega) inv' (c.step hB hz rfl hin ho' hd hui v) (hGB w w' hG hbel) fun k hk hkd => ?_
        by_cases hki : k = i
        · subst hki
          rw [if_pos rfl]
          exact hv
        · rw [if_neg hki]
          rw [getD_set_ne false (Ne.symm hki)] at hkd
          exact hVB k _ w w' (hV k hk hkd) hbel
    · have hf' : wanting h n ≤ 0 := by
        unfold wanting
        rw [Nat.le_zero, List.length_eq_zero_iff, List.filter_eq_nil_iff]
        intro j hj
        have hjn := List.mem_range.1 hj
        cases hv : h.getD j true with
        | true => simp
        | false => exact absurd ⟨j, hjn, hv⟩ hex
      have hall := wanting_zero (Nat.le_zero.1 hf')
      obtain rfl : h = Array.replicate n true := by
        apply Array.ext
        · simpa using hz
        · intro i h1 h2
          have := hall i (by omega)
          simpa [Array.getD_eq_getD_getElem?, h1] using this
      rw [c.whole hB]
      exact tail_any (l.drop n) n _ _ _ w (fun j => by simp [List.getElem?_drop]) (by simp) (by simpa using hseq) (hend s w hG fun i hi => hV i hi (by simp [hi]))

theorem wp_region_free {id : Nat} {w : World} (n : Nat) (G : World → Prop) (V : Nat → Value → World → Prop) (hm : P.follows .mixedOrders = true) (hB : freeB l n a0.tmps.size = true) (hG : G w.drew)
    (hGB : ∀ w w', G w → Below w.heap.size w w' → G w') (hVB : ∀ i v w w', V i v w → Below w.heap.size w w' → V i v w')
    (hsteps : ∀ s, freeSteps P l.toArray G V s 0 (l.take n) a0)
    (hend : ∀ s w', G w' → (∀ i, i < n → V i (s i) w') → wpList P l.toArray Q (l.drop n) (putAll s 0 (l.take n) a0) w') : (Code.region id l.toArray true).wp P Q a0 w := by
  simp only [freeB, Bool.and_eq_true, Bool.or_eq_true, decide_eq_true_eq] at hB
  obtain ⟨⟨⟨⟨hn, hb⟩, hs⟩, ht⟩, hq⟩ := hB
  refine wp_region_any hm ?_
  have h2 := free_then (P := P) (Q := Q) hn hb hs ht hq hGB hVB hsteps hend n (Array.replicate n false) (fun _ => undef) a0 w.drew (by simp) (by unfold wanting; exact Nat.le_trans (List.length_filter_le _ _) (by simp)) ⟨by simp [marks]; omega, fun j oj _ hl => by
      exfalso
      by_cases hj : j < n
      · rw [marks_low false (by simpa using hj)] at hl
        simp [hj] at hl
      · simp [marks, Array.getD_eq_getD_getElem?] at hl
        simp [Array.getElem?_replicate] at hl
        split at hl <;> simp at hl, fun t ht ht' => by
      have h3 : t < n + (l.length - n) := by simp at ht'; omega
      simp [marks, Array.getD_eq_getD_getElem?, h3]⟩ (Cur.start l n a0 _) hG (fun i hi hd => by simp [hi] at hd)
  have e : marks (Array.replicate n false) (l.length - n) = Array.replicate l.toArray.size false := by
    unfold marks
    rw [Array.replicate_append_replicate]
    congr 1
    simp
    omega
  rw [e, show n + (l.length - n) = l.toArray.size by simp; omega] at h2
  exact h2
end Go.Proofs.YtnbdpalbompjlaaDoor

/-
  Steps of regions whose operations come in any order: what one operation leads to, at its slot.
-/
namespace Go.Proofs.YtnbdpalbompjlaaDoor
open Go Go.RowKit

variable {P : Program} {ops : Array Oper} {o : Oper} {a : Act} {w : World} {R : Value → World → Prop}

theorem stepAt_wp {d : Tmp} (hd : o.dst = some d) (hw : Region.wanted o (yielded ops a.tmps) = true) (h : ∀ K : Act → World → Prop, (∀ a' w', a'.defers = a.defers → R (a'.eval (.tmp d)) w' → K a' w') → o.wp P a w K (fun _ _ _ => False)) : stepAt P ops o a w R := by
  unfold stepAt
  rw [hd]
  intro K hK
  rw [if_pos hw]
  exact h K hK

theorem stepAt_skip {d : Tmp} (hd : o.dst = some d) (hw : Region.wanted o (yielded ops a.tmps) = false) (hz : decide (d < a.tmps.size) = true) (h : R undef w) : stepAt P ops o a w R := by
  unfold stepAt
  rw [hd]
  intro K hK
  rw [if_neg (by rw [hw]; simp)]
  exact hK _ _ rfl (by rw [eval_put_same a d _ (of_decide_eq_true hz)]; exact h)

theorem stepAt_value {d : Tmp} (hd : o.dst = some d) (hw : Region.wanted o (yielded ops a.tmps) = true) (hz : decide (d < a.tmps.size) = true) (v : Value) (w' : World) (hrun : (execOp a.eval o).run P w = .ok (.value v) w') (h : R v w') : stepAt P ops o a w R := by
  refine stepAt_wp hd hw fun K hK => ?_
  unfold Oper.wp
  rw [hrun]
  simp only [Oper.upon]
  exact hK _ _ (put_defers _ _ _) (by rw [hd, eval_put_same a d _ (of_decide_eq_true hz)]; exact h)

theorem stepAt_call {d : Tmp} (hd : o.dst = some d) (hw : Region.wanted o (yielded ops a.tmps) = true) (hz : decide (d < a.tmps.size) = true) (f : Nat) (args : Array Value) (hrun : (execOp a.eval o).run P w = .ok (.enter f args) w) (h : Calls P f args w fun e w' => ∃ v, e = .returned v ∧ R v w') : stepAt P ops o a w R := by
  refine stepAt_wp hd hw fun K hK => ?_
  unfold Oper.wp
  rw [hrun]
  simp only [Oper.upon]
  refine h.mono fun e w' ⟨v, he, hv⟩ => ?_
  subst he
  exact hK _ _ (put_defers _ _ _) (by rw [hd, eval_put_same a d _ (of_decide_eq_true hz)]; exact hv)

theorem stepAt_load_cells {d : Tmp} (hd : o.dst = some d) (hw : Region.wanted o (yielded ops a.tmps) = true) (hz : decide (d < a.tmps.size) = true) (ty : TypeId) (x : Operand) (ho : o.op = .load ty x)
    (g off : Nat) (cs : List Value) (hx : a.eval x = .pointer (some ⟨g, off, none⟩)) (n : Nat) (e : TypeId)
    (hc : ∀ j v, cs[j]? = some v → w.cell? ⟨g, off + j, none⟩ = some v) (hu : P.underlying ty = some (.array n e)) (hi : (P.info? ty).map (·.size) = some cs.length)
    (h : R (.agg cs.toArray) w) : stepAt P ops o a w R := by
  refine stepAt_value hd hw hz _ w ?_ h
  unfold execOp
  simp only [ho, hx, Sem.run_bind, run_loadAt_cells hc ty n e hu hi, Result.andThen_ok]
  rfl

theorem stepAt_append_held {d : Tmp} (hd : o.dst = some d) (hw : Region.wanted o (yielded ops a.tmps) = true) (hz' : decide (d < a.tmps.size) = true) (s x : Operand) (t tx : TypeId)
    (ho : o.op = .call { callee := .builtin .append, args := #[s, x], argTypes := #[t, tx] })
    {base : Nat} {v : Value} {xs : List Value} (hs : a.eval s = v) (h : Held w base v xs) (e : TypeId) (i : TypeInfo) (z : Value) (bytes : Nat)
    (ht : P.underlying t = some (.slice e)) (hi : P.info? e = some i) (hz : i.zero = some z) (hsize : i.size = 1) (hby : i.bytes = bytes) (hzs : z.cells.size = 1)
    (u : Value) (hx : a.eval x = u) (n : Nat) (news : List Value) (hsrc : Src P 1 tx u n news w) (hfit : xs.length + n ≤ maxLen) (hbytes : (xs.length + n) * bytes ≤ 140737488355328) (hbase : base ≤ w.heap.size)
    (hK : ∀ v' w', Held w' base v' (xs ++ news) → Grew w v w' v' → R v' w') : stepAt P ops o a w R := by
  obtain ⟨v', w', hrun, r1, r2⟩ := h.append (P := P) t tx o.type e i z bytes ht hi hz hsize hby hzs u n news hsrc hfit hbytes hbase
  refine stepAt_value hd hw hz' v' w' ?_ (hK v' w' r1 r2)
  simp [execOp, ho, resolve, invoke, builtin, hs, hx, hrun, Result.andThen]
end Go.Proofs.YtnbdpalbompjlaaDoor

/-
  What Of answers of a key and texts: the first half of the digest of the outer key and the inner digest.
-/
namespace Go.Proofs.YtnbdpalbompjlaaDoor
open Go.RowKit
set_option maxRecDepth 10000

def inner (k s : List UInt8) : List UInt8 := digest (mask 54 (fillK k) ++ s)
def outer (k s : List UInt8) : List UInt8 := digest (mask 92 (fillK k) ++ inner k s)
def tag (k s : List UInt8) : List UInt8 := (outer k s).take 16
theorem tag_length (k s : List UInt8) : (tag k s).length = 16 := by
  rw [tag, List.length_take, outer, digest_length]; rfl

theorem Tryd.zero30 : (Tryd.prog.info? 30).map (fun i => (i.zero, i.size)) = some (some (.agg (zb 16).toArray), 16) := by kernel_rfl
theorem Tryd.size30 : (Tryd.prog.info? 30).map (·.size) = some 16 := by kernel_rfl

theorem setRow_size' (w : World) (g : Nat) (cs : Array Value) : (w.setRow g cs).heap.size = w.heap.size := by simp [World.setRow]
theorem masked_in {w w' : World} (hb : Below w.heap.size w w') (K : List UInt8) (m : UInt8) (hK : K.length = 64) (S : ByteArray) (hS : S = ⟨(mask m K).toArray⟩) :
    Calls Tryd.prog 51 #[.agg (bv K).toArray, .int .u8 (m.toNat : Int)] w' fun e w'' => e = .returned (.string S) ∧ Below w.heap.size w w'' :=
  (masked_any w' K m hK).mono fun _ _ ⟨h1, h2⟩ => ⟨by rw [h1, hS], hb.trans (h2.mono hb.size)⟩

/-- Texts that stand in one block that was just made. -/
theorem str_two (w : World) (s t : List UInt8) : StrAt (w.alloc (.cells #[.string ⟨s.toArray⟩, .string ⟨t.toArray⟩] 9)) (w.alloc (.cells #[.string ⟨s.toArray⟩, .string ⟨t.toArray⟩] 9)).heap.size (some ⟨w.heap.size, 0, none⟩) w.heap.size 0 [s, t] := by
  refine ⟨fun _ => rfl, fun _ => by simp, fun j x hj => ?_⟩
  rw [Nat.zero_add, (Blk.new w 9 #[.string ⟨s.toArray⟩, .string ⟨t.toArray⟩]).cell]
  match j, hj with
  | 0, hj => simp at hj; subst hj; rfl
  | 1, hj => simp at hj; subst hj; rfl

theorem of_two (w : World) (s t : List UInt8) (hT : Tabs w) (hs : s.length ≤ 100000) (ht : t.length ≤ 100000) :
    Calls Tryd.prog 52 #[.slice (some ⟨w.heap.size, 0, none⟩) 2 2] (w.alloc (.cells #[.string ⟨s.toArray⟩, .string ⟨t.toArray⟩] 9)) fun e w' => e = .returned (.agg (bv (digest (s ++ t))).toArray) ∧ Below w.heap.size w w' := by
  have hb : Below w.heap.size w (w.alloc (.cells #[.string ⟨s.toArray⟩, .string ⟨t.toArray⟩] 9)) := (Below.refl _ _).alloc (Nat.le_refl _) _
  refine (of_any _ _ 2 2 w.heap.size 0 [s, t] (hT.below hb hT.size) rfl (by omega) (str_two w s t) (by simp; omega)).mono fun e w' ⟨h1, h2⟩ => ⟨?_, hb.trans (h2.mono hb.size)⟩
  rw [h1]
  simp

theorem held_one (w : World) (s : List UInt8) : Held (w.alloc (.cells #[.string ⟨s.toArray⟩] 9)) w.heap.size (.slice (some ⟨w.heap.size, 0, none⟩) 1 1) (sv [s]) := by
  have hb := Blk.new w 9 #[.string ⟨s.toArray⟩]
  refine ⟨1, 1, w.heap.size, 0, _, rfl, rfl, Nat.le_refl _, by unfold maxLen; omega, fun _ => rfl, fun a ha => by cases ha; exact Nat.le_refl _, fun _ => by simp, fun j u hj => ?_, fun j hj => ?_, fun j hj => ?_⟩
  · rw [Nat.zero_add, hb.cell]; exact hj
  · obtain rfl : j = 0 := by omega
    rw [hb.cell]; rfl
  · exact hb.free _

set_option maxHeartbeats 8000000 in
theorem macOf_any (w : World) (k : List UInt8) (ao : Option Addr) (n cap b off : Nat) (ss : List (List UInt8)) (hT : Tabs w) (hk : k.length ≤ 100000) (hn : ss.length = n) (hnn : n ≤ 90000) (hs : StrAt w w.heap.size ao b off ss) (hl : ∀ s ∈ ss, s.length ≤ 100000) :
    Calls Tryd.prog 35 #[.string ⟨k.toArray⟩, .slice ao n cap] w fun e w' => e = .returned (.agg (bv (tag k ss.flatten)).toArray) ∧ Below w.heap.size w w' := by
  obtain ⟨i0, hi, hz0, hz1, hz2⟩ := info_parts Tryd.info9
  have hzA := (zero_of_info Tryd.zero30).1
  have hzB := (zero_of_info Tryd.zero82).1
  have hzC := (zero_of_info Tryd.zero26).1
  have hb1 := Blk.new w 30 (zb 16).toArray
  have hB1 : Below w.heap.size w (w.alloc (.cells (zb 16).toArray 30)) := (Below.refl _ _).alloc (Nat.le_refl _) _
  obtain ⟨w1, hw1⟩ : ∃ w1, w1 = w.alloc (.cells (zb 16).toArray 30) := ⟨_, rfl⟩
  rw [← hw1] at hb1 hB1
  have HW1 := Lib.hid hw1
  have H1 := Lib.hid (show Blk w1 w.heap.size 30 (zb 16) from hb1)
  have HB1 := Lib.hid hB1
  have HT := Lib.hid hT
  have HN := Lib.hid hn
  have HS := Lib.hid hs
  have HL := Lib.hid hl
  clear hb1 hB1 hw1 hT hn hs hl
  go_enter Tryd.func35, Tryd.ntmps35
  go_wp2_with fail
  rw [← HW1.out]
  refine (fill_any w1 k (HT.out.below HB1.out HT.out.size) hk).mono ?_
  rintro e w2 ⟨rfl, hb2⟩
  obtain ⟨K, hK⟩ : ∃ K, K = fillK k := ⟨_, rfl⟩
  have hKl : K.length = 64 := by rw [hK]; exact fillK_length k
  rw [← hK]
  have HK := Lib.hid hK
  have h1 := H1.out.below hb2 H1.out.lt
  have hB2 := HB1.out.trans (hb2.mono HB1.out.size)
  have hlt := h1.lt
  have hn2 := Blk.new w2 82 (zb 64).toArray
  have H1' := Lib.hid ((h1.alloc (.cells (zb 64).toArray 82)).setRow_other (bv K).toArray (show w.heap.size ≠ w2.heap.size by omega))
  have HN2 := Lib.hid hn2
  have H2 := Lib.hid (hn2.setRow (bv K))
  have HB2 := Lib.hid (below_setRow (hB2.alloc (by omega) (.cells (zb 64).toArray 82)) (show w.heap.size ≤ w2.heap.size by omega) (bv K).toArray)
  have HZ := Lib.hid (show (Tryd.prog.info? 82).map (·.size) = some (bv K).length by rw [bv_length, hKl]; exact Tryd.size82)
  have HLL := Lib.hid (show 0 + (bv K).length ≤ (zb 64).toArray.toList.length by rw [bv_length, hKl]; simp [zb_length])
  have HP := Lib.hid (splice_all (zb 64).toArray.toList (bv K) (by rw [bv_length, hKl]; simp [zb_length]))
  have HC2 := Lib.hid H2.out.cells
  clear hK hb2 h1 hB2 hn2 H1 HB1 HW1
  go_wp2_with (first
    | ((with_reducible refine wpList_store_part ?_ 82 (.tmp 5) (.tmp 11) ?_ w2.heap.size 0 (bv K) ?_ ?_ 82 _ HN2.out HZ.out HLL.out (bv_one _) ?_); rfl; rfl; rfl; rfl; rw [HP.out])
    | ((with_reducible refine wpList_load_cells ?_ 82 (.tmp 5) ?_ _ 0 _ ?_ 64 5 HC2.out Tryd.underlying82 HZ.out ?_); rfl; rfl; rfl))
  generalize (w2.alloc (.cells (zb 64).toArray 82)).setRow w2.heap.size (bv K).toArray = w3 at H1' H2 HB2 ⊢
  clear HN2 HLL HP HC2 hzB
  refine (masked_any w3 K 54 hKl).mono ?_
  rintro e w4 ⟨rfl, hb4⟩
  have h1 := H1'.out.below hb4 H1'.out.lt
  have h2 := H2.out.below hb4 H2.out.lt
  have hB4 := HB2.out.trans (hb4.mono HB2.out.size)
  obtain ⟨M, hM⟩ : ∃ M, M = mask 54 K := ⟨_, rfl⟩
  have hMl : M.length = 64 := by rw [hM, mask_length]; exact hKl
  rw [← hM]
  have HM := Lib.hid hM
  have H1 := Lib.hid h1
  have H4 := Lib.hid h2
  have HB4 := Lib.hid hB4
  clear hM h1 h2 hb4 hB4 H1' H2 HB2
  obtain ⟨SM, hSM⟩ : ∃ S : ByteArray, S = ⟨M.toArray⟩ := ⟨_, rfl⟩
  rw [← hSM]
  have hho := held_one w4 M
  rw [← hSM] at hho
  have HHo := Lib.hid hho
  have HSrc := Lib.hid (((HS.out.keep HB4.out).keep ((Below.refl w.heap.size w4).alloc HB4.out.size (.cells #[.string SM] 9))).src cap 81 Tryd.underlying81 (P := Tryd.prog))
  rw [HN.out] at HSrc
  have HSM := Lib.hid hSM
  clear hho hSM
  go_wp2_with (at_builtin; refine wpList_append_held rfl _ _ 81 81 rfl rfl HHo.out 9 i0 (.string ⟨#[]⟩) 16 Tryd.underlying81 hi hz0 hz1 hz2 rfl _ rfl n (sv ss) HSrc.out ?e2 ?e3 ?e4 ?_)
  case e2 => unfold maxLen; simp [sv_length]; omega
  case e3 => simp [sv_length]; omega
  case e4 => simp
  intro v5 w5 hh5 hg5
  have hb5 : Below w4.heap.size w4 w5 := ((Below.refl _ _).alloc (Nat.le_refl _) _).trans (hg5.below HHo.out (by simp))
  have h1 := H1.out.below hb5 H1.out.lt
  have h4 := H4.out.below hb5 H4.out.lt
  have HB5 := Lib.hid (HB4.out.trans (hb5.mono HB4.out.size))
  have HH5 := Lib.hid (show Held w5 w4.heap.size v5 (sv ([M] ++ ss)) by rw [sv_append]; exact hh5)
  clear hh5 hg5 HHo HSrc H1 H4 HB4 hb5 hi hz0 hz1 hz2
  have H1 := Lib.hid h1
  have H4 := Lib.hid h4
  clear h1 h4
  have hT5 := HT.out.below HB5.out HT.out.size
  go_wp2_with fail
  refine (of_held HH5.out hT5 (by simp; have := HN.out; omega) (by
    intro s hs
    rw [List.mem_append, List.mem_singleton] at hs
    rcases hs with rfl | hs
    · omega
    · exact HL.out s hs)).mono ?_
  rintro e w6 ⟨rfl, hb6⟩
  have h1 := H1.out.below hb6 H1.out.lt
  have h4 := H4.out.below hb6 H4.out.lt
  have hB6 := HB5.out.trans (hb6.mono HB5.out.size)
  obtain ⟨D, hD⟩ : ∃ D, D = digest ([M] ++ ss).flatten := ⟨_, rfl⟩
  have hDl : D.length = 32 := by rw [hD]; exact digest_length _
  rw [← hD]
  have HD := Lib.hid (show D = inner k ss.flatten by rw [hD, inner, ← HK.out, ← HM.out]; simp)
  clear hD hb6 H1 H4 HB5 HH5 hT5 HSM HM
  have hn6 := Blk.new w6 26 (zb 32).toArray
  have hlt1 := h1.lt
  have hlt4 := h4.lt
  have H1 := Lib.hid ((h1.alloc (.cells (zb 32).toArray 26)).setRow_other (bv D).toArray (show w.heap.size ≠ w6.heap.size by omega))
  have H4 := Lib.hid ((h4.alloc (.cells (zb 32).toArray 26)).setRow_other (bv D).toArray (show w2.heap.size ≠ w6.heap.size by omega))
  have HN6 := Lib.hid hn6
  have H6 := Lib.hid (hn6.setRow (bv D))
  have HB6 := Lib.hid (below_setRow (hB6.alloc (by omega) (.cells (zb 32).toArray 26)) (show w.heap.size ≤ w6.heap.size by omega) (bv D).toArray)
  have HZD := Lib.hid (show (Tryd.prog.info? 26).map (·.size) = some (bv D).length by rw [bv_length, hDl]; exact Tryd.size26)
  have HLL := Lib.hid (show 0 + (bv D).length ≤ (zb 32).toArray.toList.length by rw [bv_length, hDl]; simp [zb_length])
  have HP := Lib.hid (splice_all (zb 32).toArray.toList (bv D) (by rw [bv_length, hDl]; simp [zb_length]))
  clear h1 h4 hB6 hn6
  go_wp2_with ((with_reducible refine wpList_store_part ?_ 26 (.tmp 7) (.tmp 18) ?_ w6.heap.size 0 (bv D) ?_ ?_ 26 _ HN6.out HZD.out HLL.out (bv_one _) ?_); rfl; rfl; rfl; rfl; rw [HP.out])
  simp only [Act.put]
  generalize (w6.alloc (.cells (zb 32).toArray 26)).setRow w6.heap.size (bv D).toArray = w7 at H1 H4 H6 HB6 ⊢
  clear HN6 HLL HP
  obtain ⟨SO, hSO⟩ : ∃ S : ByteArray, S = ⟨(mask 92 K).toArray⟩ := ⟨_, rfl⟩
  obtain ⟨SD, hSD⟩ : ∃ S : ByteArray, S = ⟨D.toArray⟩ := ⟨_, rfl⟩
  have hcv : ∀ w', Below w7.heap.size w7 w' → (convert 86 9 (.slice (some ⟨w6.heap.size, 0, none⟩) 32 32)).run Tryd.prog w' = .ok (.string SD) w' := fun w' hw' => by
    have := conv_bytes (H6.out.below hw' H6.out.lt)
    rw [hDl] at this
    rw [hSD]; exact this
  have HSO := Lib.hid hSO
  have HSD := Lib.hid hSD
  have hC : ∀ w', Below w7.heap.size w7 w' → ∀ j v, (bv K)[j]? = some v → w'.cell? ⟨w2.heap.size, 0 + j, none⟩ = some v := fun w' hw' => (H4.out.below hw' H4.out.lt).cells
  clear hSD hSO
  refine wp_region_free (P := Tryd.prog) 7 (fun w' => Below w7.heap.size w7 w') (fun i v w' => match i with
    | 0 => v = .agg (bv K).toArray
    | 1 => v = .string SO
    | 2 => v = .slice (some ⟨w6.heap.size, 0, none⟩) 32 32
    | 3 => v = .string SD
    | 4 => ∃ b, v = .slice (some ⟨b, 0, none⟩) 2 2 ∧ StrAt w' w'.heap.size (some ⟨b, 0, none⟩) b 0 [mask 92 K, D]
    | 5 => v = .agg (bv (digest (mask 92 K ++ D))).toArray
    | 6 => ∃ g, v = .pointer (some ⟨g, 0, none⟩) ∧ Blk w' g 26 (zb 32) ∧ w7.heap.size ≤ g
    | _ => True) (by kernel_rfl) (by kernel_rfl) (Below.refl _ _).drew ?gb ?vb ?steps ?fin
  case gb => exact fun a b h1 h2 => h1.trans (h2.mono h1.size)
  case vb =>
    intro i v a b h hb
    match i with
    | 0 => exact h
    | 1 => exact h
    | 2 => exact h
    | 3 => exact h
    | 4 => obtain ⟨g, h1, h2⟩ := h; exact ⟨g, h1, (h2.keep hb).more hb.size⟩
    | 5 => exact h
    | 6 => obtain ⟨g, h1, h2, h3⟩ := h; exact ⟨g, h1, h2.below hb h2.lt, h3⟩
    | _ + 7 => trivial
  case steps =>
    intro s
    simp only [List.take_succ_cons, List.take_zero, freeSteps, Act.put, List.setIfInBounds_toArray, List.set_cons_zero, List.set_cons_succ, Nat.reduceAdd]
    refine ⟨fun w8 hG hW => ?_, fun w8 hG hW => ?_, fun w8 hG hW => ?_, fun w8 hG hW => ?_, fun w8 hG hW => ?_, fun w8 hG hW => ?_, fun w8 hG hW => ?_, trivial⟩
    · exact stepAt_load_cells rfl rfl rfl 82 (.tmp 5) rfl w2.heap.size 0 (bv K) rfl 64 5 (hC w8 hG) Tryd.underlying82 HZ.out ⟨rfl, Below.refl _ _⟩
    · have q0 := hW 0 (by decide)
      simp only at q0
      rw [q0]
      refine stepAt_call rfl rfl rfl 51 #[.agg (bv K).toArray, .int .u8 92] (by go_simp) ((masked_any w8 K 92 hKl).mono fun e w' ⟨h1, h2⟩ => ⟨_, by rw [h1, HSO.out], rfl, h2⟩)
    · refine stepAt_value rfl rfl rfl (.slice (some ⟨w6.heap.size, 0, none⟩) 32 32) w8 ?_ ⟨rfl, Below.refl _ _⟩
      go_simp
    · have q2 := hW 2 (by decide)
      simp only at q2
      rw [q2]
      refine stepAt_value rfl rfl rfl (.string SD) w8 ?_ ⟨rfl, Below.refl _ _⟩
      have := hcv w8 hG
      go_simp
    · have q1 := hW 1 (by decide)
      have q3 := hW 3 (by decide)
      simp only at q1 q3
      rw [q1, q3]
      refine stepAt_value rfl rfl rfl (.slice (some ⟨w8.heap.size, 0, none⟩) 2 2) (w8.alloc (.cells #[.string SO, .string SD] 9)) ?_ ⟨⟨_, rfl, ?_⟩, (Below.refl _ _).alloc (Nat.le_refl _) _⟩
      · go_simp
      · rw [HSO.out, HSD.out]
        exact str_two w8 _ _
    · obtain ⟨b4, q4, hs4⟩ := hW 4 (by decide)
      rw [q4]
      refine stepAt_call rfl rfl rfl 52 #[.slice (some ⟨b4, 0, none⟩) 2 2] (by go_simp) ((of_any w8 _ 2 2 b4 0 [mask 92 K, D] ((HT.out.below HB6.out HT.out.size).below hG (by have := HT.out.size; have := HB6.out.size; omega)) rfl (by omega) hs4 (by simp [mask_length]; omega)).mono fun e w' ⟨h1, h2⟩ => ⟨_, h1, ?_, h2⟩)
      simp
    · refine stepAt_value rfl rfl rfl (.pointer (some ⟨w8.heap.size, 0, none⟩)) (w8.alloc (.cells (zb 32).toArray 26)) ?_ ⟨⟨_, rfl, Blk.new _ _ _, hG.size⟩, (Below.refl _ _).alloc (Nat.le_refl _) _⟩
      go_simp
  case fin =>
    intro s w8 hG hV
    have q5 := hV 5 (by omega)
    obtain ⟨g6, q6, hb6, hg6⟩ := hV 6 (by omega)
    simp only at q5
    simp only [List.take_succ_cons, List.take_zero, List.drop_succ_cons, List.drop_zero, putAll, Act.put, List.setIfInBounds_toArray, List.set_cons_zero, List.set_cons_succ, Nat.reduceAdd]
    rw [q5, q6]
    generalize s 0 = s0
    generalize s 1 = s1
    generalize s 2 = s2
    generalize s 3 = s3
    generalize s 4 = s4
    clear hV q5 q6 s hcv hC
    obtain ⟨D2, hD2⟩ : ∃ D2, D2 = digest (mask 92 K ++ D) := ⟨_, rfl⟩
    have hl2 : D2.length = 32 := by rw [hD2]; exact digest_length _
    rw [← hD2]
    have HD2 := Lib.hid (show D2 = outer k ss.flatten by rw [hD2, outer, ← HK.out, ← HD.out])
    have h1 := (H1.out.below hG H1.out.lt).setRow_other (bv D2).toArray (show w.heap.size ≠ g6 by have := HB6.out.size; have := H1.out.lt; omega)
    have HB8 := Lib.hid (below_setRow (HB6.out.trans (hG.mono HB6.out.size)) (show w.heap.size ≤ g6 by have := H1.out.lt; omega) (bv D2).toArray)
    have HG6 := Lib.hid hb6
    have H8 := Lib.hid (hb6.setRow (bv D2))
    have H1' := Lib.hid h1
    have HZ2 := Lib.hid (show (Tryd.prog.info? 26).map (·.size) = some (bv D2).length by rw [bv_length, hl2]; exact Tryd.size26)
    have HLL := Lib.hid (show 0 + (bv D2).length ≤ (zb 32).length by rw [bv_length, hl2, zb_length]; omega)
    have HP := Lib.hid (splice_all (zb 32) (bv D2) (by rw [bv_length, hl2, zb_length]))
    clear hD2 hb6 h1 H1 H4 H6 HB6 hG
    go_wp2_with ((with_reducible refine wpList_store_part ?_ 26 (.tmp 8) (.tmp 24) ?_ g6 0 (bv D2) ?_ ?_ 26 _ HG6.out HZ2.out HLL.out (bv_one _) ?_); rfl; rfl; rfl; rfl; rw [HP.out])
    have hg8 : g6 < w8.heap.size := by have := H8.out.lt; simp only [setRow_size'] at this; exact this
    have e8 : (w8.setRow g6 (bv D2).toArray).heap.size = w8.heap.size := setRow_size' _ _ _
    generalize w8.setRow g6 (bv D2).toArray = w9 at H8 H1' HB8 e8 ⊢
    rw [← e8] at hg8 ⊢
    have hn9 := Blk.new w9 30 (zb 16).toArray
    have HB9 := Lib.hid (HB8.out.alloc HB8.out.size (.cells (zb 16).toArray 30))
    have hr9 := H1'.out.alloc (.cells (zb 16).toArray 30)
    have hs9 := H8.out.alloc (.cells (zb 16).toArray 30)
    have hlt9 : w.heap.size < w9.heap.size := H1'.out.lt
    have HR9 := Lib.hid hr9
    have HS9 := Lib.hid hs9
    have HN9 := Lib.hid hn9
    generalize w9.alloc (.cells (zb 16).toArray 30) = w10 at HR9 HS9 HN9 HB9 ⊢
    clear hn9 hr9 hs9 H8 H1' HB8 HG6 HZ2 HLL HP e8
    refine wp_region_draws_tail 2 (by kernel_rfl) (by kernel_rfl) ?_
    simp only [List.take_succ_cons, List.take_zero, List.drop_succ_cons, List.drop_zero]
    repeat (go_big_quiet_step (fail))
    refine wpQuiet_nil ?_
    rintro _ ⟨nq, rfl⟩
    have g0 := HR9.out.drewN nq
    have g1 := HN9.out.drewN nq
    have gs := HS9.out.drewN nq
    have gb := below_drewN' HB9.out nq
    generalize w10.drewN nq = w11 at g0 g1 gs gb ⊢
    clear HR9 HN9 HS9 HB9
    refine wpList_copy_splice rfl (.tmp 25) (.tmp 26) 86 86 rfl 5 Tryd.underlying86 Tryd.size5 _ _ 16 16 32 32 rfl rfl w9.heap.size 0 (zb 16) 30 g1 (bv (D2.take 16)) ?_ (fun _ => ⟨rfl, ⟨g6, 0, none⟩, rfl, ?_⟩) ?_ (bv_one _) w9.heap.size w11 (Below.refl _ _) (Nat.le_refl _) ?_
    · rw [bv_length, List.length_take, hl2]; rfl
    · intro j v hj
      rw [Addr.add_lit, Nat.zero_add, gs.cell]
      have hjl : j < 16 := by have := (List.getElem?_eq_some_iff.1 hj).1; rw [bv_length, List.length_take] at this; omega
      rw [← hj, bv, bv, List.getElem?_map, List.getElem?_map, List.getElem?_take, if_pos hjl]
    · rw [bv_length, List.length_take, zb_length]; omega
    intro w12 HG12 hB12
    have hg12 := HG12.out
    have htk : (D2.take 16).length = 16 := by rw [List.length_take]; omega
    obtain ⟨T, hT⟩ : ∃ T, T = D2.take 16 := ⟨_, rfl⟩
    rw [splice_zb 16, htk] at hg12
    simp only [Nat.sub_self, List.replicate_zero, List.append_nil] at hg12
    rw [← hT] at hg12 htk ⊢
    have HTT := Lib.hid (show T = tag k ss.flatten by rw [hT, tag, HD2.out])
    have hr12 := g0.below hB12 (by omega)
    have HR := Lib.hid hr12
    have HC := Lib.hid (Blk.cells hg12)
    have HZT := Lib.hid (show (Tryd.prog.info? 30).map (·.size) = some (bv T).length by rw [bv_length, htk]; exact Tryd.size30)
    have HLL := Lib.hid (show 0 + (bv T).length ≤ (zb 16).length by rw [bv_length, htk, zb_length]; omega)
    have HP := Lib.hid (splice_all (zb 16) (bv T) (by rw [bv_length, htk, zb_length]))
    have HR2 := Lib.hid (hr12.setRow (bv T))
    have HB2 := Lib.hid (below_setRow (gb.trans (hB12.mono (by omega))) (Nat.le_refl w.heap.size) (bv T).toArray)
    clear HG12 hg12 hr12 g0 g1 gs gb hB12 hT HD2 HD
    go_wp2_with (first
      | ((with_reducible refine wpList_load_cells ?_ 30 (.tmp 9) ?_ _ 0 _ ?_ 16 5 HC.out Tryd.underlying30 HZT.out ?_); rfl; rfl; rfl)
      | ((with_reducible refine wpList_store_part ?_ 30 (.tmp 4) (.tmp 28) ?_ w.heap.size 0 (bv T) ?_ ?_ 30 _ HR.out HZT.out HLL.out (bv_one _) ?_); rfl; rfl; rfl; rfl; rw [HP.out]))
    refine bodyPost_ret (v := .agg (bv T).toArray) ?_ rfl ⟨by rw [HTT.out], HB2.out⟩
    exact results_cell_row rfl _ _ w.heap.size 30 _ (0, 0) (.array 16 5) rfl HR2.out Tryd.underlying30 rfl (by rw [List.size_toArray]; exact HZT.out)
end Go.Proofs.YtnbdpalbompjlaaDoor
