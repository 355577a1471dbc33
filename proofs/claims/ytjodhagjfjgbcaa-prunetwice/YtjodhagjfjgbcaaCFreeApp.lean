/-
  The texts FreeApp, one behind the other.
-/
import Derived.Test.YtjodhagjfjgbcaaTwiceM1
/-
  Regions that draw their order and in which one operation writes, and answers what isn't known ahead (an append, whose room is drawn): every other operation's value is known ahead, and none of them waits for it. It holds of every program.
-/
namespace Go.Proofs.Ytjodhagjfjgbcaa
open Go Go.RowKit

variable {P : Program}

/-- Operation m writes; Post: what is known of its value and the world behind it. -/
def freeStepsA (P : Program) (ops : Array Oper) (w0 : World) (c : Nat → Value) (Post : Value → World → Prop) (m : Nat) (s : Nat → Value) : Nat → List Oper → Act → Prop
  | _, [], _ => True
  | i, o :: t, a => (if i = m then (∀ w, Below w0.heap.size w0 w → (∀ j ∈ waits o, s j = c j) → stepAt P ops o a w fun v w' => Post v w')
      else ((∀ j ∈ waits o, j ≠ m) ∧ ∀ w, (Below w0.heap.size w0 w ∨ ∃ v, Post v w) → (∀ j ∈ waits o, s j = c j) → stepAt P ops o a w fun v w' => v = c i ∧ Below w.heap.size w w')) ∧ freeStepsA P ops w0 c Post m s (i + 1) t (a.put o.dst (s i))

def InvA (w0 : World) (c : Nat → Value) (Post : Value → World → Prop) (m : Nat) (h : Nat → Bool) (s : Nat → Value) (w : World) : Prop :=
  (∀ j, j ≠ m → h j = true → s j = c j) ∧ (h m = false → Below w0.heap.size w0 w) ∧ (h m = true → Post (s m) w)

theorem stepsI_of_A {ops : Array Oper} {w0 : World} {c : Nat → Value} {Post : Value → World → Prop} {m : Nat} {s : Nat → Value} (hP : ∀ v a b, Post v a → Below a.heap.size a b → Post v b) (hself : ∀ (i : Nat) (o : Oper), ops[i]? = some o → i = m → ∀ j ∈ waits o, j ≠ m) :
    ∀ (t : List Oper) (k : Nat) (a : Act), (∀ (i : Nat) (o : Oper), t[i]? = some o → ops[k + i]? = some o) → freeStepsA P ops w0 c Post m s k t a → freeStepsI P ops (InvA w0 c Post m) s k t a
  | [], _, _, _, _ => trivial
  | o :: t, k, a, hops, hs => by
    refine ⟨fun h w hk hw hI => ?_, stepsI_of_A hP hself t (k + 1) _ (fun i o' ho => by have := hops (i + 1) o' (by simpa using ho); rwa [show k + (i + 1) = k + 1 + i by omega] at this) hs.2⟩
    have h1 := hs.1
    by_cases e : k = m
    · rw [if_pos e] at h1
      subst e
      have hne := hself k o (by simpa using hops 0 o rfl) rfl
      refine stepAt_mono (h1 w (hI.2.1 hk) fun j hj => hI.1 j (hne j hj) (hw j hj)) fun v w' hp => ⟨fun j hj hh => ?_, fun hh => ?_, fun _ => ?_⟩
      · rw [turnOn_ne hj] at hh
        rw [turnTo_ne hj]
        exact hI.1 j hj hh
      · rw [turnOn_self] at hh; cases hh
      · rw [turnTo_self]; exact hp
    · rw [if_neg e] at h1
      have e' : m ≠ k := fun x => e x.symm
      have hR : Below w0.heap.size w0 w ∨ ∃ v, Post v w := by
        cases hm : h m with
        | false => exact .inl (hI.2.1 hm)
        | true => exact .inr ⟨_, hI.2.2 hm⟩
      refine stepAt_mono (h1.2 w hR fun j hj => hI.1 j (h1.1 j hj) (hw j hj)) fun v w' ⟨hv, hb⟩ => ⟨fun j hj hh => ?_, fun hh => ?_, fun hh => ?_⟩
      · by_cases ek : j = k
        · subst ek; rw [turnTo_self]; exact hv
        · rw [turnOn_ne ek] at hh
          rw [turnTo_ne ek]
          exact hI.1 j hj hh
      · rw [turnOn_ne e'] at hh
        have := hI.2.1 hh
        exact this.trans (hb.mono this.size)
      · rw [turnOn_ne e'] at hh
        rw [turnTo_ne e']
        exact hP _ w w' (hI.2.2 hh) hb

theorem wp_region_freeA {id : Nat} {Q : Exit → Act → World → Prop} {l : List Oper} {a0 : Act} {w : World} (n m : Nat) (hmn : m < n) (w0 : World) (c : Nat → Value) (Post : Value → World → Prop) (hm : P.follows .mixedOrders = true) (hB : freeB l n a0.tmps.size = true)
    (hself : ∀ (i : Nat) (o : Oper), l[i]? = some o → i = m → ∀ j ∈ waits o, j ≠ m)
    (hG : Below w0.heap.size w0 w.drew) (hP : ∀ v a b, Post v a → Below a.heap.size a b → Post v b)
    (hsteps : ∀ s, freeStepsA P l.toArray w0 c Post m s 0 (l.take n) a0)
    (hend : ∀ s w', (∀ i, i < n → i ≠ m → s i = c i) → Post (s m) w' → wpList P l.toArray Q (l.drop n) (putAll s 0 (l.take n) a0) w') : (Code.region id l.toArray true).wp P Q a0 w :=
  wp_region_freeI n (InvA w0 c Post m) hm hB (fun s => ⟨fun j _ hj => (by cases hj), fun _ => hG, fun hh => (by cases hh)⟩) (fun s => stepsI_of_A hP (fun i o ho => hself i o (by simpa using ho)) _ _ _ (fun i o ho => by
    rw [List.getElem?_take] at ho
    split at ho
    · simpa using ho
    · cases ho) (hsteps s)) fun h s w' h1 h2 => hend s w' (fun i hi hne => h2.1 i hne (h1 i hi)) (h2.2.2 (h1 m hmn))
end Go.Proofs.Ytjodhagjfjgbcaa
