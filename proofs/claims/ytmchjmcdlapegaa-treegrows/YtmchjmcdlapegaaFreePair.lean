/-
  Regions that draw their order, of which two operations make a block each: as wp_region_free, and the two are not the same. It holds of every program.
-/
import Derived.Test.YtmchjmcdlapegaaFreeKill
namespace Go.Proofs.Ytmchjmcdlapegaa
open Go Go.RowKit

variable {P : Program}

/-- Operations m1 and m2 make a block each. -/
def freeStepsP (P : Program) (ops : Array Oper) (G : World → Prop) (V : Nat → Value → World → Prop) (m1 m2 : Nat) (s : Nat → Value) : Nat → List Oper → Act → Prop
  | _, [], _ => True
  | i, o :: t, a => (∀ w, G w → (∀ j ∈ waits o, V j (s j) w) → stepAt P ops o a w fun v w' => if i = m1 then V i v w' ∧ Below w.heap.size w w' ∧ v = .pointer (some ⟨w.heap.size, 0, none⟩)
      else if i = m2 then V i v w' ∧ Below w.heap.size w w' ∧ v = .pointer (some ⟨w.heap.size, 0, none⟩) else V i v w' ∧ Below w.heap.size w w') ∧ freeStepsP P ops G V m1 m2 s (i + 1) t (a.put o.dst (s i))

def InvP (G : World → Prop) (V : Nat → Value → World → Prop) (m1 m2 : Nat) (h : Nat → Bool) (s : Nat → Value) (w : World) : Prop :=
  G w ∧ (∀ j, h j = true → V j (s j) w) ∧ (h m1 = true → h m2 = true → s m1 ≠ s m2)

theorem stepsI_of_P {ops : Array Oper} {G : World → Prop} {V : Nat → Value → World → Prop} {m1 m2 : Nat} {s : Nat → Value} (hne : m1 ≠ m2) (hGB : ∀ w w', G w → Below w.heap.size w w' → G w') (hVB : ∀ i v w w', V i v w → Below w.heap.size w w' → V i v w')
    (h1 : ∀ v w, V m1 v w → ∃ g, v = .pointer (some ⟨g, 0, none⟩) ∧ g < w.heap.size) (h2 : ∀ v w, V m2 v w → ∃ g, v = .pointer (some ⟨g, 0, none⟩) ∧ g < w.heap.size) :
    ∀ (t : List Oper) (k : Nat) (a : Act), freeStepsP P ops G V m1 m2 s k t a → freeStepsI P ops (InvP G V m1 m2) s k t a
  | [], _, _, _ => trivial
  | o :: t, k, a, hs => by
    refine ⟨fun h w hk hw hI => ?_, stepsI_of_P hne hGB hVB h1 h2 t (k + 1) _ hs.2⟩
    have hs1 := hs.1 w hI.1 fun j hj => hI.2.1 j (hw j hj)
    have hsv : ∀ v w', V k v w' → Below w.heap.size w w' → ∀ j, turnOn h k j = true → V j (turnTo s k v j) w' := fun v w' hv hb j hj => by
      by_cases e : j = k
      · subst e; rw [turnTo_self]; exact hv
      · rw [turnOn_ne e] at hj
        rw [turnTo_ne e]
        exact hVB j _ w w' (hI.2.1 j hj) hb
    by_cases e1 : k = m1
    · subst e1
      simp only [if_pos] at hs1
      refine stepAt_mono hs1 fun v w' ⟨hv, hb, hn⟩ => ⟨hGB w w' hI.1 hb, hsv v w' hv hb, fun _ hh => ?_⟩
      rw [turnOn_ne (fun x => hne x.symm)] at hh
      rw [turnTo_self, turnTo_ne (fun x => hne x.symm), hn]
      obtain ⟨g, hg, hlt⟩ := h2 _ _ (hI.2.1 m2 hh)
      rw [hg]
      intro x
      injection x with x
      injection x with x
      injection x with x
      omega
    · simp only [if_neg e1] at hs1
      by_cases e2 : k = m2
      · subst e2
        simp only [if_pos] at hs1
        refine stepAt_mono hs1 fun v w' ⟨hv, hb, hn⟩ => ⟨hGB w w' hI.1 hb, hsv v w' hv hb, fun hh _ => ?_⟩
        rw [turnOn_ne hne] at hh
        rw [turnTo_self, turnTo_ne hne, hn]
        obtain ⟨g, hg, hlt⟩ := h1 _ _ (hI.2.1 m1 hh)
        rw [hg]
        intro x
        injection x with x
        injection x with x
        injection x with x
        omega
      · simp only [if_neg e2] at hs1
        refine stepAt_mono hs1 fun v w' ⟨hv, hb⟩ => ⟨hGB w w' hI.1 hb, hsv v w' hv hb, fun hh hh2 => ?_⟩
        rw [turnOn_ne (fun x => e1 x.symm)] at hh
        rw [turnOn_ne (fun x => e2 x.symm)] at hh2
        rw [turnTo_ne (fun x => e1 x.symm), turnTo_ne (fun x => e2 x.symm)]
        exact hI.2.2 hh hh2

theorem wp_region_freeP {id : Nat} {Q : Exit → Act → World → Prop} {l : List Oper} {a0 : Act} {w : World} (n m1 m2 : Nat) (hm1 : m1 < n) (hm2 : m2 < n) (hne : m1 ≠ m2) (G : World → Prop) (V : Nat → Value → World → Prop) (hm : P.follows .mixedOrders = true) (hB : freeB l n a0.tmps.size = true)
    (hG : G w.drew) (hGB : ∀ w w', G w → Below w.heap.size w w' → G w') (hVB : ∀ i v w w', V i v w → Below w.heap.size w w' → V i v w')
    (h1 : ∀ v w, V m1 v w → ∃ g, v = .pointer (some ⟨g, 0, none⟩) ∧ g < w.heap.size) (h2 : ∀ v w, V m2 v w → ∃ g, v = .pointer (some ⟨g, 0, none⟩) ∧ g < w.heap.size)
    (hsteps : ∀ s, freeStepsP P l.toArray G V m1 m2 s 0 (l.take n) a0)
    (hend : ∀ s w', G w' → (∀ i, i < n → V i (s i) w') → s m1 ≠ s m2 → wpList P l.toArray Q (l.drop n) (putAll s 0 (l.take n) a0) w') : (Code.region id l.toArray true).wp P Q a0 w :=
  wp_region_freeI n (InvP G V m1 m2) hm hB (fun s => ⟨hG, fun j hj => (by cases hj), fun hh => (by cases hh)⟩) (fun s => stepsI_of_P hne hGB hVB h1 h2 _ _ _ (hsteps s)) fun h s w' ha hI => hend s w' hI.1 (fun i hi => hI.2.1 i (ha i hi)) (hI.2.2 (ha m1 hm1) (ha m2 hm2))
end Go.Proofs.Ytmchjmcdlapegaa
