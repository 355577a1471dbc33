/-
  The texts FreeTwo, one behind the other.
-/
import Derived.Test.YtoinigcfcjllcaaNoneM2
/-
  Regions that draw their order and in which two calls write: each operation's value is known ahead; what is known of the world hangs on which of the two have come up; what the others do makes memory at most. It holds of every program.
-/
namespace Go.Proofs.Ytoinigcfcjllcaa
open Go Go.RowKit

variable {P : Program}

/-- Operations m1 and m2 write; G x y: what is known of the world, where m1 (x) and m2 (y) have come up. -/
def freeStepsD (P : Program) (ops : Array Oper) (c : Nat → Value) (G : Bool → Bool → World → Prop) (m1 m2 : Nat) (s : Nat → Value) : Nat → List Oper → Act → Prop
  | _, [], _ => True
  | i, o :: t, a => (if i = m1 then (∀ y w, G false y w → (∀ j ∈ waits o, s j = c j) → stepAt P ops o a w fun v w' => v = c i ∧ G true y w')
      else if i = m2 then (∀ x w, G x false w → (∀ j ∈ waits o, s j = c j) → stepAt P ops o a w fun v w' => v = c i ∧ G x true w')
      else (∀ x y w, G x y w → (∀ j ∈ waits o, s j = c j) → stepAt P ops o a w fun v w' => v = c i ∧ Below w.heap.size w w')) ∧ freeStepsD P ops c G m1 m2 s (i + 1) t (a.put o.dst (s i))

def InvD (c : Nat → Value) (G : Bool → Bool → World → Prop) (m1 m2 : Nat) (h : Nat → Bool) (s : Nat → Value) (w : World) : Prop :=
  (∀ j, h j = true → s j = c j) ∧ G (h m1) (h m2) w

theorem stepsI_of_D {ops : Array Oper} {c : Nat → Value} {G : Bool → Bool → World → Prop} {m1 m2 : Nat} {s : Nat → Value} (hne : m1 ≠ m2) (hP : ∀ x y a b, G x y a → Below a.heap.size a b → G x y b) :
    ∀ (t : List Oper) (k : Nat) (a : Act), freeStepsD P ops c G m1 m2 s k t a → freeStepsI P ops (InvD c G m1 m2) s k t a
  | [], _, _, _ => trivial
  | o :: t, k, a, hs => by
    refine ⟨fun h w hk hw hI => ?_, stepsI_of_D hne hP t (k + 1) _ hs.2⟩
    have hsv : ∀ v, v = c k → ∀ j, turnOn h k j = true → turnTo s k v j = c j := fun v hv j hj => by
      by_cases e : j = k
      · subst e; rw [turnTo_self]; exact hv
      · rw [turnOn_ne e] at hj
        rw [turnTo_ne e]
        exact hI.1 j hj
    have h1 := hs.1
    have hg := hI.2
    by_cases e : k = m1
    · rw [if_pos e] at h1
      subst e
      rw [hk] at hg
      refine stepAt_mono (h1 _ w hg fun j hj => hI.1 j (hw j hj)) fun v w' ⟨hv, hp⟩ => ⟨hsv v hv, ?_⟩
      rw [turnOn_self, turnOn_ne (fun x => hne x.symm)]
      exact hp
    · rw [if_neg e] at h1
      by_cases e2 : k = m2
      · rw [if_pos e2] at h1
        subst e2
        rw [hk] at hg
        refine stepAt_mono (h1 _ w hg fun j hj => hI.1 j (hw j hj)) fun v w' ⟨hv, hp⟩ => ⟨hsv v hv, ?_⟩
        rw [turnOn_self, turnOn_ne hne]
        exact hp
      · rw [if_neg e2] at h1
        refine stepAt_mono (h1 _ _ w hg fun j hj => hI.1 j (hw j hj)) fun v w' ⟨hv, hb⟩ => ⟨hsv v hv, ?_⟩
        rw [turnOn_ne (fun x => e x.symm), turnOn_ne (fun x => e2 x.symm)]
        exact hP _ _ w w' hg hb

theorem wp_region_freeD {id : Nat} {Q : Exit → Act → World → Prop} {l : List Oper} {a0 : Act} {w : World} (n m1 m2 : Nat) (hm1 : m1 < n) (hm2 : m2 < n) (hne : m1 ≠ m2) (c : Nat → Value) (G : Bool → Bool → World → Prop) (hm : P.follows .mixedOrders = true) (hB : freeB l n a0.tmps.size = true)
    (hG : G false false w.drew) (hP : ∀ x y a b, G x y a → Below a.heap.size a b → G x y b)
    (hsteps : ∀ s, freeStepsD P l.toArray c G m1 m2 s 0 (l.take n) a0)
    (hend : ∀ s w', (∀ i, i < n → s i = c i) → G true true w' → wpList P l.toArray Q (l.drop n) (putAll s 0 (l.take n) a0) w') : (Code.region id l.toArray true).wp P Q a0 w :=
  wp_region_freeI n (InvD c G m1 m2) hm hB (fun s => ⟨fun j hj => (by cases hj), hG⟩) (fun s => stepsI_of_D hne hP _ _ _ (hsteps s)) fun h s w' h1 h2 => hend s w' (fun i hi => h2.1 i (h1 i hi)) (by have := h2.2; rwa [h1 m1 hm1, h1 m2 hm2] at this)
end Go.Proofs.Ytoinigcfcjllcaa
