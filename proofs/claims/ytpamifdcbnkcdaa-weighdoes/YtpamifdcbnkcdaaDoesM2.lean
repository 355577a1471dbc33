/-
  The texts FreeApp, FreePair, FreeTwo, FreeLate, one behind the other.
-/
import Derived.Test.YtpamifdcbnkcdaaDoesM1
/-
  Regions that draw their order and in which one operation writes, and answers what isn't known ahead (an append, whose room is drawn): every other operation's value is known ahead, and none of them waits for it. It holds of every program.
-/
namespace Go.Proofs.Ytpamifdcbnkcdaa
open Go Go.RowKit

variable {P : Program}

/-- Operation m writes; Post: what is known of its value and the world behind it. -/
def freeStepsA (P : Program) (ops : Array Oper) (w0 : World) (c : Nat → Value) (Post : Value → World → Prop) (m : Nat) (s : Nat → Value) : Nat → List Oper → Act → Prop
  | _, [], _ => True
  | i, o :: t, a => (if i = m then (∀ w, Below w0.heap.size w0 w → (∀ j ∈ waits o, s j = c j) → stepAt P ops o a w fun v w' => Post v w')
      else ((∀ j ∈ waits o, j ≠ m) ∧ ∀ w, (Below w0.heap.size w0 w ∨ ∃ v, Post v w) → (∀ j ∈ waits o, s j = c j) → stepAt P ops o a w fun v w' => v = c i ∧ Below w.heap.size w w')) ∧ freeStepsA P ops w0 c Post m s (i + 1) t (a.put o.dst (s i))

def InvA (w0 : World) (c : Nat → Value) (Post : Value → World → Prop) (m : Nat) (h : Nat → Bool) (s : Nat → Value) (w : World) : Prop :=
  (∀ j, j ≠ m → h j = true → s j = c j) ∧ (h m = false → Below w0.heap.size w0 w) ∧ (h m = true → Post (s m) w)

theorem stepsI_of_A {ops : Array Oper} {w0 : World} {c : Nat → Value} {Post : Value → World → Prop} {m : Nat} {s : Nat → Value} (hP : ∀ v a b, Post v a → Below a.heap.size a b → Post v b) (hself : ∀ (i : Nat) (o : Oper), ops[i]? = some o → i = m → ∀ j ∈ waits o, j ≠ m) :
    ∀ (t : List Oper) (k : Nat) (a : Act), (∀ (i : Nat) (o : Oper), t[i]? = some o → ops[k + i]? = some o) → freeStepsA P ops w0 c Post m s k t a → freeStepsI P ops (InvA w0 c Post m) s k t a
  | [], _, _, _, _ => trivial
  | o :: t, k, a, hops, hs => by
    refine ⟨fun h w hk hw hI => ?_, stepsI_of_A hP hself t (k + 1) _ (fun i o' ho => by have := hops (i + 1) o' (by simpa using ho); rwa [show k + (i + 1) = k + 1 + i by omega] at this) hs.2⟩
    have h1 := hs.1
    by_cases e : k = m
    · rw [if_pos e] at h1
      subst e
      have hne := hself k o (by simpa using hops 0 o rfl) rfl
      refine stepAt_mono (h1 w (hI.2.1 hk) fun j hj => hI.1 j (hne j hj) (hw j hj)) fun v w' hp => ⟨fun j hj hh => ?_, fun hh => ?_, fun _ => ?_⟩
      · rw [turnOn_ne hj] at hh
        rw [turnTo_ne hj]
        exact hI.1 j hj hh
      · rw [turnOn_self] at hh; cases hh
      · rw [turnTo_self]; exact hp
    · rw [if_neg e] at h1
      have e' : m ≠ k := fun x => e x.symm
      have hR : Below w0.heap.size w0 w ∨ ∃ v, Post v w := by
        cases hm : h m with
        | false => exact .inl (hI.2.1 hm)
        | true => exact .inr ⟨_, hI.2.2 hm⟩
      refine stepAt_mono (h1.2 w hR fun j hj => hI.1 j (h1.1 j hj) (hw j hj)) fun v w' ⟨hv, hb⟩ => ⟨fun j hj hh => ?_, fun hh => ?_, fun hh => ?_⟩
      · by_cases ek : j = k
        · subst ek; rw [turnTo_self]; exact hv
        · rw [turnOn_ne ek] at hh
          rw [turnTo_ne ek]
          exact hI.1 j hj hh
      · rw [turnOn_ne e'] at hh
        have := hI.2.1 hh
        exact this.trans (hb.mono this.size)
      · rw [turnOn_ne e'] at hh
        rw [turnTo_ne e']
        exact hP _ w w' (hI.2.2 hh) hb

theorem wp_region_freeA {id : Nat} {Q : Exit → Act → World → Prop} {l : List Oper} {a0 : Act} {w : World} (n m : Nat) (hmn : m < n) (w0 : World) (c : Nat → Value) (Post : Value → World → Prop) (hm : P.follows .mixedOrders = true) (hB : freeB l n a0.tmps.size = true)
    (hself : ∀ (i : Nat) (o : Oper), l[i]? = some o → i = m → ∀ j ∈ waits o, j ≠ m)
    (hG : Below w0.heap.size w0 w.drew) (hP : ∀ v a b, Post v a → Below a.heap.size a b → Post v b)
    (hsteps : ∀ s, freeStepsA P l.toArray w0 c Post m s 0 (l.take n) a0)
    (hend : ∀ s w', (∀ i, i < n → i ≠ m → s i = c i) → Post (s m) w' → wpList P l.toArray Q (l.drop n) (putAll s 0 (l.take n) a0) w') : (Code.region id l.toArray true).wp P Q a0 w :=
  wp_region_freeI n (InvA w0 c Post m) hm hB (fun s => ⟨fun j _ hj => (by cases hj), fun _ => hG, fun hh => (by cases hh)⟩) (fun s => stepsI_of_A hP (fun i o ho => hself i o (by simpa using ho)) _ _ _ (fun i o ho => by
    rw [List.getElem?_take] at ho
    split at ho
    · simpa using ho
    · cases ho) (hsteps s)) fun h s w' h1 h2 => hend s w' (fun i hi hne => h2.1 i hne (h1 i hi)) (h2.2.2 (h1 m hmn))
end Go.Proofs.Ytpamifdcbnkcdaa

/-
  Regions that draw their order, of which two operations make a block each: as wp_region_free, and the two are not the same. It holds of every program.
-/
namespace Go.Proofs.Ytpamifdcbnkcdaa
open Go Go.RowKit

variable {P : Program}

/-- Operations m1 and m2 make a block each. -/
def freeStepsP (P : Program) (ops : Array Oper) (G : World → Prop) (V : Nat → Value → World → Prop) (m1 m2 : Nat) (s : Nat → Value) : Nat → List Oper → Act → Prop
  | _, [], _ => True
  | i, o :: t, a => (∀ w, G w → (∀ j ∈ waits o, V j (s j) w) → stepAt P ops o a w fun v w' => if i = m1 then V i v w' ∧ Below w.heap.size w w' ∧ v = .pointer (some ⟨w.heap.size, 0, none⟩)
      else if i = m2 then V i v w' ∧ Below w.heap.size w w' ∧ v = .pointer (some ⟨w.heap.size, 0, none⟩) else V i v w' ∧ Below w.heap.size w w') ∧ freeStepsP P ops G V m1 m2 s (i + 1) t (a.put o.dst (s i))

def InvP (G : World → Prop) (V : Nat → Value → World → Prop) (m1 m2 : Nat) (h : Nat → Bool) (s : Nat → Value) (w : World) : Prop :=
  G w ∧ (∀ j, h j = true → V j (s j) w) ∧ (h m1 = true → h m2 = true → s m1 ≠ s m2)

theorem stepsI_of_P {ops : Array Oper} {G : World → Prop} {V : Nat → Value → World → Prop} {m1 m2 : Nat} {s : Nat → Value} (hne : m1 ≠ m2) (hGB : ∀ w w', G w → Below w.heap.size w w' → G w') (hVB : ∀ i v w w', V i v w → Below w.heap.size w w' → V i v w')
    (h1 : ∀ v w, V m1 v w → ∃ g, v = .pointer (some ⟨g, 0, none⟩) ∧ g < w.heap.size) (h2 : ∀ v w, V m2 v w → ∃ g, v = .pointer (some ⟨g, 0, none⟩) ∧ g < w.heap.size) :
    ∀ (t : List Oper) (k : Nat) (a : Act), freeStepsP P ops G V m1 m2 s k t a → freeStepsI P ops (InvP G V m1 m2) s k t a
  | [], _, _, _ => trivial
  | o :: t, k, a, hs => by
    refine ⟨fun h w hk hw hI => ?_, stepsI_of_P hne hGB hVB h1 h2 t (k + 1) _ hs.2⟩
    have hs1 := hs.1 w hI.1 fun j hj => hI.2.1 j (hw j hj)
    have hsv : ∀ v w', V k v w' → Below w.heap.size w w' → ∀ j, turnOn h k j = true → V j (turnTo s k v j) w' := fun v w' hv hb j hj => by
      by_cases e : j = k
      · subst e; rw [turnTo_self]; exact hv
      · rw [turnOn_ne e] at hj
        rw [turnTo_ne e]
        exact hVB j _ w w' (hI.2.1 j hj) hb
    by_cases e1 : k = m1
    · subst e1
      simp only [if_pos] at hs1
      refine stepAt_mono hs1 fun v w' ⟨hv, hb, hn⟩ => ⟨hGB w w' hI.1 hb, hsv v w' hv hb, fun _ hh => ?_⟩
      rw [turnOn_ne (fun x => hne x.symm)] at hh
      rw [turnTo_self, turnTo_ne (fun x => hne x.symm), hn]
      obtain ⟨g, hg, hlt⟩ := h2 _ _ (hI.2.1 m2 hh)
      rw [hg]
      intro x
      injection x with x
      injection x with x
      injection x with x
      omega
    · simp only [if_neg e1] at hs1
      by_cases e2 : k = m2
      · subst e2
        simp only [if_pos] at hs1
        refine stepAt_mono hs1 fun v w' ⟨hv, hb, hn⟩ => ⟨hGB w w' hI.1 hb, hsv v w' hv hb, fun hh _ => ?_⟩
        rw [turnOn_ne hne] at hh
        rw [turnTo_self, turnTo_ne hne, hn]
        obtain ⟨g, hg, hlt⟩ := h1 _ _ (hI.2.1 m1 hh)
        rw [hg]
        intro x
        injection x with x
        injection x with x
        injection x with x
        omega
      · simp only [if_neg e2] at hs1
        refine stepAt_mono hs1 fun v w' ⟨hv, hb⟩ => ⟨hGB w w' hI.1 hb, hsv v w' hv hb, fun hh hh2 => ?_⟩
        rw [turnOn_ne (fun x => e1 x.symm)] at hh
        rw [turnOn_ne (fun x => e2 x.symm)] at hh2
        rw [turnTo_ne (fun x => e1 x.symm), turnTo_ne (fun x => e2 x.symm)]
        exact hI.2.2 hh hh2

theorem wp_region_freeP {id : Nat} {Q : Exit → Act → World → Prop} {l : List Oper} {a0 : Act} {w : World} (n m1 m2 : Nat) (hm1 : m1 < n) (hm2 : m2 < n) (hne : m1 ≠ m2) (G : World → Prop) (V : Nat → Value → World → Prop) (hm : P.follows .mixedOrders = true) (hB : freeB l n a0.tmps.size = true)
    (hG : G w.drew) (hGB : ∀ w w', G w → Below w.heap.size w w' → G w') (hVB : ∀ i v w w', V i v w → Below w.heap.size w w' → V i v w')
    (h1 : ∀ v w, V m1 v w → ∃ g, v = .pointer (some ⟨g, 0, none⟩) ∧ g < w.heap.size) (h2 : ∀ v w, V m2 v w → ∃ g, v = .pointer (some ⟨g, 0, none⟩) ∧ g < w.heap.size)
    (hsteps : ∀ s, freeStepsP P l.toArray G V m1 m2 s 0 (l.take n) a0)
    (hend : ∀ s w', G w' → (∀ i, i < n → V i (s i) w') → s m1 ≠ s m2 → wpList P l.toArray Q (l.drop n) (putAll s 0 (l.take n) a0) w') : (Code.region id l.toArray true).wp P Q a0 w :=
  wp_region_freeI n (InvP G V m1 m2) hm hB (fun s => ⟨hG, fun j hj => (by cases hj), fun hh => (by cases hh)⟩) (fun s => stepsI_of_P hne hGB hVB h1 h2 _ _ _ (hsteps s)) fun h s w' ha hI => hend s w' hI.1 (fun i hi => hI.2.1 i (ha i hi)) (hI.2.2 (ha m1 hm1) (ha m2 hm2))
end Go.Proofs.Ytpamifdcbnkcdaa

/-
  Regions that draw their order and in which two calls write: each operation's value is known ahead; what is known of the world hangs on which of the two have come up; what the others do makes memory at most. It holds of every program.
-/
namespace Go.Proofs.Ytpamifdcbnkcdaa
open Go Go.RowKit

variable {P : Program}

/-- Operations m1 and m2 write; G x y: what is known of the world, where m1 (x) and m2 (y) have come up. -/
def freeStepsD (P : Program) (ops : Array Oper) (c : Nat → Value) (G : Bool → Bool → World → Prop) (m1 m2 : Nat) (s : Nat → Value) : Nat → List Oper → Act → Prop
  | _, [], _ => True
  | i, o :: t, a => (if i = m1 then (∀ y w, G false y w → (∀ j ∈ waits o, s j = c j) → stepAt P ops o a w fun v w' => v = c i ∧ G true y w')
      else if i = m2 then (∀ x w, G x false w → (∀ j ∈ waits o, s j = c j) → stepAt P ops o a w fun v w' => v = c i ∧ G x true w')
      else (∀ x y w, G x y w → (∀ j ∈ waits o, s j = c j) → stepAt P ops o a w fun v w' => v = c i ∧ Below w.heap.size w w')) ∧ freeStepsD P ops c G m1 m2 s (i + 1) t (a.put o.dst (s i))

def InvD (c : Nat → Value) (G : Bool → Bool → World → Prop) (m1 m2 : Nat) (h : Nat → Bool) (s : Nat → Value) (w : World) : Prop :=
  (∀ j, h j = true → s j = c j) ∧ G (h m1) (h m2) w

theorem stepsI_of_D {ops : Array Oper} {c : Nat → Value} {G : Bool → Bool → World → Prop} {m1 m2 : Nat} {s : Nat → Value} (hne : m1 ≠ m2) (hP : ∀ x y a b, G x y a → Below a.heap.size a b → G x y b) :
    ∀ (t : List Oper) (k : Nat) (a : Act), freeStepsD P ops c G m1 m2 s k t a → freeStepsI P ops (InvD c G m1 m2) s k t a
  | [], _, _, _ => trivial
  | o :: t, k, a, hs => by
    refine ⟨fun h w hk hw hI => ?_, stepsI_of_D hne hP t (k + 1) _ hs.2⟩
    have hsv : ∀ v, v = c k → ∀ j, turnOn h k j = true → turnTo s k v j = c j := fun v hv j hj => by
      by_cases e : j = k
      · subst e; rw [turnTo_self]; exact hv
      · rw [turnOn_ne e] at hj
        rw [turnTo_ne e]
        exact hI.1 j hj
    have h1 := hs.1
    have hg := hI.2
    by_cases e : k = m1
    · rw [if_pos e] at h1
      subst e
      rw [hk] at hg
      refine stepAt_mono (h1 _ w hg fun j hj => hI.1 j (hw j hj)) fun v w' ⟨hv, hp⟩ => ⟨hsv v hv, ?_⟩
      rw [turnOn_self, turnOn_ne (fun x => hne x.symm)]
      exact hp
    · rw [if_neg e] at h1
      by_cases e2 : k = m2
      · rw [if_pos e2] at h1
        subst e2
        rw [hk] at hg
        refine stepAt_mono (h1 _ w hg fun j hj => hI.1 j (hw j hj)) fun v w' ⟨hv, hp⟩ => ⟨hsv v hv, ?_⟩
        rw [turnOn_self, turnOn_ne hne]
        exact hp
      · rw [if_neg e2] at h1
        refine stepAt_mono (h1 _ _ w hg fun j hj => hI.1 j (hw j hj)) fun v w' ⟨hv, hb⟩ => ⟨hsv v hv, ?_⟩
        rw [turnOn_ne (fun x => e x.symm), turnOn_ne (fun x => e2 x.symm)]
        exact hP _ _ w w' hg hb

theorem wp_region_freeD {id : Nat} {Q : Exit → Act → World → Prop} {l : List Oper} {a0 : Act} {w : World} (n m1 m2 : Nat) (hm1 : m1 < n) (hm2 : m2 < n) (hne : m1 ≠ m2) (c : Nat → Value) (G : Bool → Bool → World → Prop) (hm : P.follows .mixedOrders = true) (hB : freeB l n a0.tmps.size = true)
    (hG : G false false w.drew) (hP : ∀ x y a b, G x y a → Below a.heap.size a b → G x y b)
    (hsteps : ∀ s, freeStepsD P l.toArray c G m1 m2 s 0 (l.take n) a0)
    (hend : ∀ s w', (∀ i, i < n → s i = c i) → G true true w' → wpList P l.toArray Q (l.drop n) (putAll s 0 (l.take n) a0) w') : (Code.region id l.toArray true).wp P Q a0 w :=
  wp_region_freeI n (InvD c G m1 m2) hm hB (fun s => ⟨fun j hj => (by cases hj), hG⟩) (fun s => stepsI_of_D hne hP _ _ _ (hsteps s)) fun h s w' h1 h2 => hend s w' (fun i hi => h2.1 i (h1 i hi)) (by have := h2.2; rwa [h1 m1 hm1, h1 m2 hm2] at this)
end Go.Proofs.Ytpamifdcbnkcdaa

/-
  Regions that draw their order and in which one call writes, with operations that come behind it: each operation's value is known ahead. It holds of every program.
-/
namespace Go.Proofs.Ytpamifdcbnkcdaa
open Go Go.RowKit

variable {P : Program}

/-- Operation m writes; R: ahead of it; Post: behind it; the late ones come up behind it. -/
def freeStepsL (P : Program) (ops : Array Oper) (w0 : World) (c : Nat → Value) (Post : World → Prop) (m : Nat) (late : Nat → Bool) (s : Nat → Value) : Nat → List Oper → Act → Prop
  | _, [], _ => True
  | i, o :: t, a => (if i = m then (∀ w, Below w0.heap.size w0 w → (∀ j ∈ waits o, s j = c j) → stepAt P ops o a w fun v w' => v = c i ∧ Post w')
      else if late i = true then (∃ j ∈ waits o, j = m ∨ late j = true) ∧ (∀ w, Post w → (∀ j ∈ waits o, s j = c j) → stepAt P ops o a w fun v w' => v = c i ∧ Below w.heap.size w w')
      else (∀ w, (Below w0.heap.size w0 w ∨ Post w) → (∀ j ∈ waits o, s j = c j) → stepAt P ops o a w fun v w' => v = c i ∧ Below w.heap.size w w')) ∧ freeStepsL P ops w0 c Post m late s (i + 1) t (a.put o.dst (s i))

def InvL (w0 : World) (c : Nat → Value) (Post : World → Prop) (m : Nat) (late : Nat → Bool) (h : Nat → Bool) (s : Nat → Value) (w : World) : Prop :=
  (∀ j, h j = true → s j = c j) ∧ (h m = false → Below w0.heap.size w0 w) ∧ (h m = true → Post w) ∧ (∀ j, late j = true → h j = true → h m = true)

theorem stepsI_of_L {ops : Array Oper} {w0 : World} {c : Nat → Value} {Post : World → Prop} {m : Nat} {late : Nat → Bool} {s : Nat → Value} (hP : ∀ a b, Post a → Below a.heap.size a b → Post b) :
    ∀ (t : List Oper) (k : Nat) (a : Act), freeStepsL P ops w0 c Post m late s k t a → freeStepsI P ops (InvL w0 c Post m late) s k t a
  | [], _, _, _ => trivial
  | o :: t, k, a, hs => by
    refine ⟨fun h w hk hw hI => ?_, stepsI_of_L hP t (k + 1) _ hs.2⟩
    have hsv : ∀ v, v = c k → ∀ j, turnOn h k j = true → turnTo s k v j = c j := fun v hv j hj => by
      by_cases e : j = k
      · subst e; rw [turnTo_self]; exact hv
      · rw [turnOn_ne e] at hj
        rw [turnTo_ne e]
        exact hI.1 j hj
    have h1 := hs.1
    by_cases e : k = m
    · rw [if_pos e] at h1
      subst e
      refine stepAt_mono (h1 w (hI.2.1 hk) fun j hj => hI.1 j (hw j hj)) fun v w' ⟨hv, hp⟩ => ⟨hsv v hv, fun hh => ?_, fun _ => hp, fun _ _ _ => turnOn_self _ _⟩
      rw [turnOn_self] at hh
      cases hh
    · rw [if_neg e] at h1
      have e' : m ≠ k := fun x => e x.symm
      by_cases hl : late k = true
      · rw [if_pos hl] at h1
        obtain ⟨⟨j0, hj0, hjm⟩, h1⟩ := h1
        have hm : h m = true := by
          rcases hjm with rfl | hjl
          · exact hw _ hj0
          · exact hI.2.2.2 j0 hjl (hw j0 hj0)
        refine stepAt_mono (h1 w (hI.2.2.1 hm) fun j hj => hI.1 j (hw j hj)) fun v w' ⟨hv, hb⟩ => ⟨hsv v hv, fun hh => ?_, fun hh => ?_, fun j _ _ => ?_⟩
        · rw [turnOn_ne e', hm] at hh
          cases hh
        · exact hP w w' (hI.2.2.1 hm) hb
        · rw [turnOn_ne e']; exact hm
      · rw [if_neg hl] at h1
        have hR : Below w0.heap.size w0 w ∨ Post w := by
          cases hm : h m with
          | false => exact .inl (hI.2.1 hm)
          | true => exact .inr (hI.2.2.1 hm)
        refine stepAt_mono (h1 w hR fun j hj => hI.1 j (hw j hj)) fun v w' ⟨hv, hb⟩ => ⟨hsv v hv, fun hh => ?_, fun hh => ?_, fun j hj hh => ?_⟩
        · rw [turnOn_ne e'] at hh
          have := hI.2.1 hh
          exact this.trans (hb.mono this.size)
        · rw [turnOn_ne e'] at hh
          exact hP w w' (hI.2.2.1 hh) hb
        · rw [turnOn_ne e']
          by_cases ej : j = k
          · subst ej; exact absurd hj hl
          · rw [turnOn_ne ej] at hh
            exact hI.2.2.2 j hj hh

theorem wp_region_freeL {id : Nat} {Q : Exit → Act → World → Prop} {l : List Oper} {a0 : Act} {w : World} (n m : Nat) (hmn : m < n) (w0 : World) (c : Nat → Value) (Post : World → Prop) (late : Nat → Bool) (hm : P.follows .mixedOrders = true) (hB : freeB l n a0.tmps.size = true)
    (hG : Below w0.heap.size w0 w.drew) (hP : ∀ a b, Post a → Below a.heap.size a b → Post b)
    (hsteps : ∀ s, freeStepsL P l.toArray w0 c Post m late s 0 (l.take n) a0)
    (hend : ∀ s w', (∀ i, i < n → s i = c i) → Post w' → wpList P l.toArray Q (l.drop n) (putAll s 0 (l.take n) a0) w') : (Code.region id l.toArray true).wp P Q a0 w :=
  wp_region_freeI n (InvL w0 c Post m late) hm hB (fun s => ⟨fun j hj => (by cases hj), fun _ => hG, fun hh => (by cases hh), fun _ _ hh => (by cases hh)⟩) (fun s => stepsI_of_L hP _ _ _ (hsteps s)) fun h s w' h1 h2 => hend s w' (fun i hi => h2.1 i (h1 i hi)) (h2.2.2.1 (h1 m hmn))
end Go.Proofs.Ytpamifdcbnkcdaa
