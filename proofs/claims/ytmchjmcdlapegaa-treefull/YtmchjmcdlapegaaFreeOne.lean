/-
  Regions that draw their order and in which one call writes: each operation's value is known ahead; what the others do makes memory at most. It holds of every program.
-/
import Derived.Test.YtmchjmcdlapegaaFreeKill
namespace Go.Proofs.Ytmchjmcdlapegaa
open Go Go.RowKit

variable {P : Program}

/-- Operation m writes; R: ahead of it; Post: behind it. -/
def freeStepsM (P : Program) (ops : Array Oper) (w0 : World) (c : Nat → Value) (Post : World → Prop) (m : Nat) (s : Nat → Value) : Nat → List Oper → Act → Prop
  | _, [], _ => True
  | i, o :: t, a => (if i = m then (∀ w, Below w0.heap.size w0 w → (∀ j ∈ waits o, s j = c j) → stepAt P ops o a w fun v w' => v = c i ∧ Post w')
      else (∀ w, (Below w0.heap.size w0 w ∨ Post w) → (∀ j ∈ waits o, s j = c j) → stepAt P ops o a w fun v w' => v = c i ∧ Below w.heap.size w w')) ∧ freeStepsM P ops w0 c Post m s (i + 1) t (a.put o.dst (s i))

def InvM (w0 : World) (c : Nat → Value) (Post : World → Prop) (m : Nat) (h : Nat → Bool) (s : Nat → Value) (w : World) : Prop :=
  (∀ j, h j = true → s j = c j) ∧ (h m = false → Below w0.heap.size w0 w) ∧ (h m = true → Post w)

theorem stepsI_of_M {ops : Array Oper} {w0 : World} {c : Nat → Value} {Post : World → Prop} {m : Nat} {s : Nat → Value} (hP : ∀ a b, Post a → Below a.heap.size a b → Post b) :
    ∀ (t : List Oper) (k : Nat) (a : Act), freeStepsM P ops w0 c Post m s k t a → freeStepsI P ops (InvM w0 c Post m) s k t a
  | [], _, _, _ => trivial
  | o :: t, k, a, hs => by
    refine ⟨fun h w hk hw hI => ?_, stepsI_of_M hP t (k + 1) _ hs.2⟩
    have hsv : ∀ v, v = c k → ∀ j, turnOn h k j = true → turnTo s k v j = c j := fun v hv j hj => by
      by_cases e : j = k
      · subst e; rw [turnTo_self]; exact hv
      · rw [turnOn_ne e] at hj
        rw [turnTo_ne e]
        exact hI.1 j hj
    have h1 := hs.1
    by_cases e : k = m
    · rw [if_pos e] at h1
      subst e
      refine stepAt_mono (h1 w (hI.2.1 hk) fun j hj => hI.1 j (hw j hj)) fun v w' ⟨hv, hp⟩ => ⟨hsv v hv, fun hh => ?_, fun _ => hp⟩
      rw [turnOn_self] at hh
      cases hh
    · rw [if_neg e] at h1
      have e' : m ≠ k := fun x => e x.symm
      have hR : Below w0.heap.size w0 w ∨ Post w := by
        cases hm : h m with
        | false => exact .inl (hI.2.1 hm)
        | true => exact .inr (hI.2.2 hm)
      refine stepAt_mono (h1 w hR fun j hj => hI.1 j (hw j hj)) fun v w' ⟨hv, hb⟩ => ⟨hsv v hv, fun hh => ?_, fun hh => ?_⟩
      · rw [turnOn_ne e'] at hh
        have := hI.2.1 hh
        exact this.trans (hb.mono this.size)
      · rw [turnOn_ne e'] at hh
        exact hP w w' (hI.2.2 hh) hb

theorem wp_region_freeM {id : Nat} {Q : Exit → Act → World → Prop} {l : List Oper} {a0 : Act} {w : World} (n m : Nat) (hmn : m < n) (w0 : World) (c : Nat → Value) (Post : World → Prop) (hm : P.follows .mixedOrders = true) (hB : freeB l n a0.tmps.size = true)
    (hG : Below w0.heap.size w0 w.drew) (hP : ∀ a b, Post a → Below a.heap.size a b → Post b)
    (hsteps : ∀ s, freeStepsM P l.toArray w0 c Post m s 0 (l.take n) a0)
    (hend : ∀ s w', (∀ i, i < n → s i = c i) → Post w' → wpList P l.toArray Q (l.drop n) (putAll s 0 (l.take n) a0) w') : (Code.region id l.toArray true).wp P Q a0 w :=
  wp_region_freeI n (InvM w0 c Post m) hm hB (fun s => ⟨fun j hj => (by cases hj), fun _ => hG, fun hh => (by cases hh)⟩) (fun s => stepsI_of_M hP _ _ _ (hsteps s)) fun h s w' h1 h2 => hend s w' (fun i hi => h2.1 i (h1 i hi)) (h2.2.2 (h1 m hmn))
end Go.Proofs.Ytmchjmcdlapegaa
