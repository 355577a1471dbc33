/-
  Regions whose operations come in any order, where what is known of a value may end (D: of no use any more): so that an operation may write into memory that an earlier one made. 'ps': pairs (j, k): where j has come up, k has. It holds of every program.
-/
import Derived.Test.YtmchjmcdlapegaaFreeInv
namespace Go.Proofs.Ytmchjmcdlapegaa
open Go Go.RowKit

variable {P : Program}

def pairsB (l : List Oper) (ps : List (Nat × Nat)) : Bool := ps.all fun x => match l[x.1]? with
  | some o => (waits o).any fun m => m == x.2 || ps.contains (m, x.2)
  | none => false
def KeptP (ps : List (Nat × Nat)) (h : Nat → Bool) : Prop := ∀ j k, (j, k) ∈ ps → h j = true → h k = true

theorem turnOn_self (h : Nat → Bool) (i : Nat) : turnOn h i i = true := by simp [turnOn]
theorem turnOn_of {h : Nat → Bool} {i j : Nat} (hj : h j = true) : turnOn h i j = true := by unfold turnOn; split <;> simp_all
theorem turnOn_ne {h : Nat → Bool} {i j : Nat} (hj : j ≠ i) : turnOn h i j = h j := by simp [turnOn, hj]
theorem turnTo_self (s : Nat → Value) (i : Nat) (v : Value) : turnTo s i v i = v := by simp [turnTo]
theorem turnTo_ne {s : Nat → Value} {i j : Nat} {v : Value} (hj : j ≠ i) : turnTo s i v j = s j := by simp [turnTo, hj]

theorem KeptP.step {l : List Oper} {ps : List (Nat × Nat)} (hB : pairsB l ps = true) {h : Nat → Bool} (hk : KeptP ps h) {i : Nat} {o : Oper} (ho : l[i]? = some o) (hw : ∀ j ∈ waits o, h j = true) : KeptP ps (turnOn h i) := by
  intro j k hjk hj
  by_cases e : j = i
  · subst e
    have h1 := List.all_eq_true.1 hB _ hjk
    simp only [ho] at h1
    obtain ⟨m, hm, h2⟩ := List.any_eq_true.1 h1
    simp only [Bool.or_eq_true, beq_iff_eq, List.contains_iff_mem] at h2
    rcases h2 with rfl | h2
    · exact turnOn_of (hw m hm)
    · exact turnOn_of (hk m k h2 (hw m hm))
  · rw [turnOn_ne e] at hj
    exact turnOn_of (hk j k hjk hj)

structure InvK (G : World → Prop) (V : Nat → Value → World → Prop) (D : (Nat → Bool) → Nat → Bool) (ps : List (Nat × Nat)) (h : Nat → Bool) (s : Nat → Value) (w : World) : Prop where
  g : G w
  v : ∀ i, h i = true → D h i = false → V i (s i) w
  e : KeptP ps h

/-- What a step must leave: the value's own V; and what is known of the others, as far as it is of use. -/
def Leaves (G : World → Prop) (V : Nat → Value → World → Prop) (D : (Nat → Bool) → Nat → Bool) (s : Nat → Value) (i : Nat) (h : Nat → Bool) (w : World) (v : Value) (w' : World) : Prop :=
  V i v w' ∧ (Below w.heap.size w w' ∨ (G w' ∧ ∀ j, h j = true → D (turnOn h i) j = false → V j (s j) w'))

def freeStepsK (P : Program) (ops : Array Oper) (G : World → Prop) (V : Nat → Value → World → Prop) (D : (Nat → Bool) → Nat → Bool) (ps : List (Nat × Nat)) (s : Nat → Value) : Nat → List Oper → Act → Prop
  | _, [], _ => True
  | i, o :: t, a => (∀ h w, h i = false → KeptP ps h → G w → (∀ j ∈ waits o, h j = true) → (∀ j, h j = true → D h j = false → V j (s j) w) → stepAt P ops o a w (Leaves G V D s i h w)) ∧ freeStepsK P ops G V D ps s (i + 1) t (a.put o.dst (s i))

theorem stepAt_mono {ops : Array Oper} {o : Oper} {a : Act} {w : World} {R R' : Value → World → Prop} (h : stepAt P ops o a w R) (hR : ∀ v w', R v w' → R' v w') : stepAt P ops o a w R' := by
  unfold stepAt at h ⊢
  cases hd : o.dst with
  | none => rw [hd] at h; exact h
  | some d =>
    rw [hd] at h
    exact fun K hK => h K fun a' w' h1 h2 => hK a' w' h1 (hR _ _ h2)

theorem stepsI_of_K {l : List Oper} {G : World → Prop} {V : Nat → Value → World → Prop} {D : (Nat → Bool) → Nat → Bool} {ps : List (Nat × Nat)} {s : Nat → Value} {n : Nat}
    (hGB : ∀ w w', G w → Below w.heap.size w w' → G w') (hVB : ∀ i v w w', V i v w → Below w.heap.size w w' → V i v w') (hD : ∀ h i j, D h j = true → D (turnOn h i) j = true) (hB : pairsB l ps = true) :
    ∀ (t : List Oper) (k : Nat) (a : Act), (∀ j, t[j]? = (l.take n)[k + j]?) → freeStepsK P l.toArray G V D ps s k t a → freeStepsI P l.toArray (InvK G V D ps) s k t a
  | [], _, _, _, _ => trivial
  | o :: t, k, a, hl, hs => by
    refine ⟨fun h w hk hw hI => ?_, stepsI_of_K (n := n) hGB hVB hD hB t (k + 1) _ (fun j => ?_) hs.2⟩
    · have ho : l[k]? = some o := by
        have h0 := hl 0
        simp only [List.getElem?_cons_zero, Nat.add_zero] at h0
        rw [List.getElem?_take] at h0
        split at h0
        · exact h0.symm
        · cases h0
      refine stepAt_mono (hs.1 h w hk hI.e hI.g hw hI.v) fun v w' ⟨h1, h2⟩ => ⟨?_, fun j hj hd => ?_, hI.e.step hB ho hw⟩
      · rcases h2 with h2 | h2
        · exact hGB w w' hI.g h2
        · exact h2.1
      · by_cases e : j = k
        · subst e; rw [turnTo_self]; exact h1
        · rw [turnOn_ne e] at hj
          rw [turnTo_ne e]
          rcases h2 with h2 | h2
          · refine hVB j _ w w' (hI.v j hj ?_) h2
            cases hx : D h j with
            | false => rfl
            | true => rw [hD h k j hx] at hd; cases hd
          · exact h2.2 j hj hd
    · have := hl (j + 1)
      simpa [Nat.add_assoc, Nat.add_comm 1 j] using this

theorem wp_region_freeK {id : Nat} {Q : Exit → Act → World → Prop} {l : List Oper} {a0 : Act} {w : World} (n : Nat) (G : World → Prop) (V : Nat → Value → World → Prop) (D : (Nat → Bool) → Nat → Bool) (ps : List (Nat × Nat)) (hm : P.follows .mixedOrders = true) (hB : freeB l n a0.tmps.size = true) (hP : pairsB l ps = true) (hG : G w.drew)
    (hGB : ∀ w w', G w → Below w.heap.size w w' → G w') (hVB : ∀ i v w w', V i v w → Below w.heap.size w w' → V i v w') (hD : ∀ h i j, D h j = true → D (turnOn h i) j = true)
    (hsteps : ∀ s, freeStepsK P l.toArray G V D ps s 0 (l.take n) a0)
    (hend : ∀ h s w', (∀ i, i < n → h i = true) → G w' → (∀ i, h i = true → D h i = false → V i (s i) w') → wpList P l.toArray Q (l.drop n) (putAll s 0 (l.take n) a0) w') : (Code.region id l.toArray true).wp P Q a0 w :=
  wp_region_freeI n (InvK G V D ps) hm hB (fun s => ⟨hG, (fun i h => by cases h), (fun j k _ h => by cases h)⟩) (fun s => stepsI_of_K (n := n) hGB hVB hD hP (l.take n) 0 a0 (fun j => by rw [Nat.zero_add]) (hsteps s)) fun h s w' h1 h2 => hend h s w' h1 h2.g h2.v
end Go.Proofs.Ytmchjmcdlapegaa
