/-
  The texts Root0, Tab0, Tab1, Tab2, one behind the other.
-/
import Derived.RowKit3
/-
  The empty name. It holds of every program.
-/
namespace Go.Proofs.Ytoinigcfcjllcaa
open Go

def zero32 : List UInt8 := List.replicate 32 0

theorem zero32_len : zero32.length = 32 := by simp [zero32]

end Go.Proofs.Ytoinigcfcjllcaa

/-
  Latest votes, plainly: what a table holds, what becomes of a vote, what is forgotten; what hangs on a validator's own votes alone; that the order of votes plays no part. It holds of every program.
-/
namespace Go.Proofs.Ytoinigcfcjllcaa
open Go

/-- A vote: whose, its slot, its target. -/
structure Vt where
  w : Int
  s : Int
  g : List UInt8
/-- A first vote: whose, its epoch, its target. -/
structure Fs where
  w : Int
  e : Int
  g : List UInt8
def vt0 : Vt := ⟨0, 0, List.replicate 32 0⟩
structure Tb where
  n : Nat
  k : Nat
  fs : List Fs
  lt : List Vt
  hs : List Bool
  ot : List Bool
def ep (k : Nat) (s : Int) : Int := s.tdiv (k : Int)
def okV (t : Tb) (v : Vt) : Prop := 0 ≤ v.w ∧ v.w < (t.n : Int) ∧ 0 ≤ v.s ∧ v.s ≤ 1073741824
instance (t : Tb) (v : Vt) : Decidable (okV t v) := inferInstanceAs (Decidable (_ ∧ _))
def fstT (fs : List Fs) (w e : Int) : Option Fs := fs.find? fun f => f.w == w && f.e == e
def otT (t : Tb) (w : Int) : Bool := t.ot[w.toNat]?.getD false
def hsT (t : Tb) (w : Int) : Bool := t.hs[w.toNat]?.getD false
def ltT (t : Tb) (w : Int) : Vt := t.lt[w.toNat]?.getD vt0
def newT (n k : Nat) : Tb := ⟨n, k, [], List.replicate n vt0, List.replicate n false, List.replicate n false⟩
/-- It is the first of its epoch: what becomes of it. -/
def addF (t : Tb) (v : Vt) : Tb := { t with fs := t.fs ++ [⟨v.w, ep t.k v.s, v.g⟩] }
def setL (t : Tb) (v : Vt) : Tb := { t with lt := t.lt.set v.w.toNat v, hs := t.hs.set v.w.toNat true }
def setO (t : Tb) (w : Int) : Tb := { t with ot := t.ot.set w.toNat true }
/-- What becomes of a vote: the code, and the table behind it. -/
def takeT (t : Tb) (v : Vt) : Int × Tb :=
  if okV t v then
    if otT t v.w = true then (4, t)
    else match fstT t.fs v.w (ep t.k v.s) with
      | some f => if f.g = v.g then (1, t) else (2, setO t v.w)
      | none => if hsT t v.w = true ∧ ep t.k v.s < ep t.k (ltT t v.w).s then (3, addF t v) else (0, setL (addF t v) v)
  else (5, t)
def forgetT (t : Tb) (s : Int) : Tb := { t with fs := t.fs.filter fun f => decide (s < 0) || decide (ep t.k s ≤ f.e) }

structure GoodB (t : Tb) : Prop where
  ln : t.lt.length = t.n
  hn : t.hs.length = t.n
  on : t.ot.length = t.n
  n1 : 1 ≤ t.n
  n2 : t.n ≤ 64
  k1 : 1 ≤ t.k
  k2 : t.k ≤ 32
theorem GoodB.new {n k : Nat} (h1 : 1 ≤ n) (h2 : n ≤ 64) (h3 : 1 ≤ k) (h4 : k ≤ 32) : GoodB (newT n k) := ⟨by simp [newT], by simp [newT], by simp [newT], h1, h2, h3, h4⟩
theorem takeT_cases (t : Tb) (v : Vt) :
    (¬ okV t v ∧ takeT t v = (5, t)) ∨
    (okV t v ∧ otT t v.w = true ∧ takeT t v = (4, t)) ∨
    (∃ f, okV t v ∧ otT t v.w = false ∧ fstT t.fs v.w (ep t.k v.s) = some f ∧ f.g = v.g ∧ takeT t v = (1, t)) ∨
    (∃ f, okV t v ∧ otT t v.w = false ∧ fstT t.fs v.w (ep t.k v.s) = some f ∧ f.g ≠ v.g ∧ takeT t v = (2, setO t v.w)) ∨
    (okV t v ∧ otT t v.w = false ∧ fstT t.fs v.w (ep t.k v.s) = none ∧ hsT t v.w = true ∧ ep t.k v.s < ep t.k (ltT t v.w).s ∧ takeT t v = (3, addF t v)) ∨
    (okV t v ∧ otT t v.w = false ∧ fstT t.fs v.w (ep t.k v.s) = none ∧ ¬ (hsT t v.w = true ∧ ep t.k v.s < ep t.k (ltT t v.w).s) ∧ takeT t v = (0, setL (addF t v) v)) := by
  by_cases h : okV t v
  · right
    cases ho : otT t v.w with
    | true => exact .inl ⟨h, rfl, by unfold takeT; rw [if_pos h, if_pos ho]⟩
    | false =>
      right
      have h1 : takeT t v = match fstT t.fs v.w (ep t.k v.s) with
          | some f => if f.g = v.g then (1, t) else (2, setO t v.w)
          | none => if hsT t v.w = true ∧ ep t.k v.s < ep t.k (ltT t v.w).s then (3, addF t v) else (0, setL (addF t v) v) := by
        unfold takeT; rw [if_pos h, if_neg (by rw [ho]; decide)]
      cases hf : fstT t.fs v.w (ep t.k v.s) with
      | some f =>
        rw [hf] at h1
        by_cases hg : f.g = v.g
        · exact .inl ⟨f, h, rfl, rfl, hg, by rw [h1]; exact if_pos hg⟩
        · exact .inr (.inl ⟨f, h, rfl, rfl, hg, by rw [h1]; exact if_neg hg⟩)
      | none =>
        rw [hf] at h1
        by_cases hc : hsT t v.w = true ∧ ep t.k v.s < ep t.k (ltT t v.w).s
        · exact .inr (.inr (.inl ⟨h, rfl, rfl, hc.1, hc.2, by rw [h1]; exact if_pos hc⟩))
        · exact .inr (.inr (.inr ⟨h, rfl, rfl, hc, by rw [h1]; exact if_neg hc⟩))
  · exact .inl ⟨h, by unfold takeT; rw [if_neg h]⟩
theorem takeT_nk (t : Tb) (v : Vt) : (takeT t v).2.n = t.n ∧ (takeT t v).2.k = t.k := by
  rcases takeT_cases t v with ⟨_, h⟩ | ⟨_, _, h⟩ | ⟨_, _, _, _, _, h⟩ | ⟨_, _, _, _, _, h⟩ | ⟨_, _, _, _, _, h⟩ | ⟨_, _, _, _, h⟩ <;> rw [h] <;> exact ⟨rfl, rfl⟩
theorem takeT_good {t : Tb} (G : GoodB t) (v : Vt) : GoodB (takeT t v).2 := by
  rcases takeT_cases t v with ⟨_, h⟩ | ⟨_, _, h⟩ | ⟨_, _, _, _, _, h⟩ | ⟨_, _, _, _, _, h⟩ | ⟨_, _, _, _, _, h⟩ | ⟨_, _, _, _, h⟩ <;> rw [h]
  · exact G
  · exact G
  · exact G
  · exact ⟨G.ln, G.hn, by simp [setO]; exact G.on, G.n1, G.n2, G.k1, G.k2⟩
  · exact ⟨G.ln, G.hn, G.on, G.n1, G.n2, G.k1, G.k2⟩
  · exact ⟨by simp [setL, addF]; exact G.ln, by simp [setL, addF]; exact G.hn, G.on, G.n1, G.n2, G.k1, G.k2⟩
theorem forgetT_good {t : Tb} (G : GoodB t) (s : Int) : GoodB (forgetT t s) := ⟨G.ln, G.hn, G.on, G.n1, G.n2, G.k1, G.k2⟩

/-! What is asked of one validator. -/
theorem getD_set_ne {α : Type} (l : List α) {i j : Nat} (h : i ≠ j) (x d : α) : (l.set i x)[j]?.getD d = l[j]?.getD d := by rw [List.getElem?_set_ne h]
theorem getD_set_self {α : Type} (l : List α) {i : Nat} (h : i < l.length) (x d : α) : (l.set i x)[i]?.getD d = x := by rw [List.getElem?_set_self h]; rfl
theorem fstT_snoc (fs : List Fs) (f : Fs) (w e : Int) : fstT (fs ++ [f]) w e = match fstT fs w e with
    | some x => some x
    | none => if f.w = w ∧ f.e = e then some f else none := by
  unfold fstT
  rw [List.find?_append]
  cases fs.find? (fun f => f.w == w && f.e == e) with
  | some x => rfl
  | none =>
    simp only [Option.none_or, List.find?_cons, List.find?_nil]
    by_cases h : f.w = w ∧ f.e = e
    · rw [if_pos h]; simp [h.1, h.2]
    · rw [if_neg h]
      have : (f.w == w && f.e == e) = false := by
        rw [Bool.and_eq_false_iff]
        by_cases h1 : f.w = w
        · right; exact beq_eq_false_iff_ne.2 fun h2 => h ⟨h1, h2⟩
        · left; exact beq_eq_false_iff_ne.2 h1
      rw [this]
theorem fstT_some {fs : List Fs} {w e : Int} {f : Fs} (h : fstT fs w e = some f) : f ∈ fs ∧ f.w = w ∧ f.e = e := by
  have h1 := List.find?_some h
  simp only [Bool.and_eq_true, beq_iff_eq] at h1
  exact ⟨List.mem_of_find?_eq_some h, h1.1, h1.2⟩
/-- What a table says of one validator. -/
structure SameW (t u : Tb) (w : Int) : Prop where
  o : otT t w = otT u w
  h : hsT t w = hsT u w
  l : ltT t w = ltT u w
  f : ∀ e, (fstT t.fs w e).map (·.g) = (fstT u.fs w e).map (·.g)
theorem SameW.refl (t : Tb) (w : Int) : SameW t t w := ⟨rfl, rfl, rfl, fun _ => rfl⟩
theorem SameW.symm {t u : Tb} {w : Int} (h : SameW t u w) : SameW u t w := ⟨h.o.symm, h.h.symm, h.l.symm, fun e => (h.f e).symm⟩
theorem SameW.trans {t u x : Tb} {w : Int} (h : SameW t u w) (k : SameW u x w) : SameW t x w := ⟨h.o.trans k.o, h.h.trans k.h, h.l.trans k.l, fun e => (h.f e).trans (k.f e)⟩
theorem toNat_ne {a b : Int} (h : a ≠ b) (ha : 0 ≤ a) (hb : 0 ≤ b) : a.toNat ≠ b.toNat := by omega
/-- Another's vote changes nothing of it. -/
theorem take_other (t : Tb) (v : Vt) {w : Int} (hw : 0 ≤ w) (hne : v.w ≠ w) : SameW (takeT t v).2 t w := by
  have hf : ∀ (f : Fs), f.w = v.w → ∀ e, (fstT (t.fs ++ [f]) w e).map (·.g) = (fstT t.fs w e).map (·.g) := fun f hfw e => by
    rw [fstT_snoc]
    cases fstT t.fs w e with
    | some x => rfl
    | none => simp only; rw [if_neg (fun h => hne (hfw.symm.trans h.1))]
  rcases takeT_cases t v with ⟨_, h⟩ | ⟨_, _, h⟩ | ⟨_, _, _, _, _, h⟩ | ⟨_, hk, _, _, _, h⟩ | ⟨hk, _, _, _, _, h⟩ | ⟨hk, _, _, _, h⟩ <;> rw [h]
  · exact .refl t w
  · exact .refl t w
  · exact .refl t w
  · exact ⟨getD_set_ne _ (toNat_ne hne hk.1 hw) _ _, rfl, rfl, fun _ => rfl⟩
  · exact ⟨rfl, rfl, rfl, hf _ rfl⟩
  · exact ⟨rfl, getD_set_ne _ (toNat_ne hne hk.1 hw) _ _, getD_set_ne _ (toNat_ne hne hk.1 hw) _ _, hf _ rfl⟩
theorem okV_nk {t u : Tb} (hn : t.n = u.n) (v : Vt) : okV t v ↔ okV u v := by unfold okV; rw [hn]
theorem fst_map {a b : Option Fs} (h : a.map (·.g) = b.map (·.g)) : (a = none ↔ b = none) ∧ ∀ x y, a = some x → b = some y → x.g = y.g := by
  cases a <;> cases b <;> simp at h ⊢
  exact h
/-- Two tables that say the same of a validator make the same of its votes. -/
theorem take_same {t u : Tb} (G : GoodB t) (H : GoodB u) (hn : t.n = u.n) (hk : t.k = u.k) {v : Vt} (h : SameW t u v.w) : (takeT t v).1 = (takeT u v).1 ∧ SameW (takeT t v).2 (takeT u v).2 v.w := by
  have hf := h.f (ep t.k v.s)
  have hm := fst_map hf
  rw [hk] at hm
  have hsnoc : ∀ e, (fstT (t.fs ++ [⟨v.w, ep t.k v.s, v.g⟩]) v.w e).map (·.g) = (fstT (u.fs ++ [⟨v.w, ep u.k v.s, v.g⟩]) v.w e).map (·.g) := fun e => by
    rw [fstT_snoc, fstT_snoc, hk]
    have h1 := h.f e
    cases ha : fstT t.fs v.w e <;> cases hb : fstT u.fs v.w e <;> rw [ha, hb] at h1 <;> simp at h1 ⊢
    exact h1
  rcases takeT_cases t v with ⟨o1, e1⟩ | ⟨o1, p1, e1⟩ | ⟨f1, o1, p1, q1, r1, e1⟩ | ⟨f1, o1, p1, q1, r1, e1⟩ | ⟨o1, p1, q1, y1, s1, e1⟩ | ⟨o1, p1, q1, z1, e1⟩ <;>
  rcases takeT_cases u v with ⟨o2, e2⟩ | ⟨o2, p2, e2⟩ | ⟨f2, o2, p2, q2, r2, e2⟩ | ⟨f2, o2, p2, q2, r2, e2⟩ | ⟨o2, p2, q2, y2, s2, e2⟩ | ⟨o2, p2, q2, z2, e2⟩ <;>
  rw [e1, e2] <;> clear e1 e2 <;>
  first
    | exact ⟨rfl, h⟩
    | exact absurd ((okV_nk hn v).1 o1) o2
    | exact absurd ((okV_nk hn v).2 o2) o1
    | (have := h.o; rw [p1, p2] at this; cases this; done)
    | (have h3 := hm.2 f1 f2 (by rw [← hk]; exact q1) q2; exact absurd (by rw [h3] at r1; exact r1) r2)
    | (have h3 := hm.2 f1 f2 (by rw [← hk]; exact q1) q2; exact absurd (by rw [h3]; exact r2) r1)
    | (have h3 := hm.1.1 (by rw [← hk]; exact q1); rw [h3] at q2; cases q2; done)
    | (have h3 := hm.1.2 q2; rw [← hk] at h3; rw [h3] at q1; cases q1; done)
    | (refine absurd ?_ z2; exact ⟨h.h.symm.trans y1, by rw [← h.l, ← hk]; exact s1⟩)
    | (refine absurd ?_ z1; exact ⟨h.h.trans y2, by rw [h.l, hk]; exact s2⟩)
    | exact ⟨rfl, ⟨by unfold otT setO; simp only; rw [getD_set_self _ (by rw [G.on]; have := o1.1; have := o1.2.1; omega), getD_set_self _ (by rw [H.on]; have := o2.1; have := o2.2.1; omega)], h.h, h.l, h.f⟩⟩
    | exact ⟨rfl, ⟨h.o, h.h, h.l, hsnoc⟩⟩
    | exact ⟨rfl, ⟨h.o, by unfold hsT setL addF; simp only; rw [getD_set_self _ (by rw [G.hn]; have := o1.1; have := o1.2.1; omega), getD_set_self _ (by rw [H.hn]; have := o2.1; have := o2.2.1; omega)], by unfold ltT setL addF; simp only; rw [getD_set_self _ (by rw [G.ln]; have := o1.1; have := o1.2.1; omega), getD_set_self _ (by rw [H.ln]; have := o2.1; have := o2.2.1; omega)], hsnoc⟩⟩
end Go.Proofs.Ytoinigcfcjllcaa

/-
  Latest votes, plainly: in whatever order votes come; slots within an epoch; what one vote changes; what is forgotten.
-/
namespace Go.Proofs.Ytoinigcfcjllcaa
open Go

def fgT (t : Tb) (w e : Int) : Option (List UInt8) := (fstT t.fs w e).map (·.g)
theorem fgT_add (t : Tb) (v : Vt) (w e : Int) (h : fgT t v.w (ep t.k v.s) = none) : fgT (addF t v) w e = if v.w = w ∧ ep t.k v.s = e then some v.g else fgT t w e := by
  unfold fgT addF
  simp only
  rw [fstT_snoc]
  by_cases hc : v.w = w ∧ ep t.k v.s = e
  · obtain ⟨rfl, rfl⟩ := hc
    rw [if_pos ⟨rfl, rfl⟩]
    unfold fgT at h
    cases hf : fstT t.fs v.w (ep t.k v.s) with
    | some x => rw [hf] at h; cases h
    | none => simp
  · simp only [if_neg hc]
    cases fstT t.fs w e with
    | some x => rfl
    | none => rfl
theorem fgT_none {t : Tb} {w e : Int} (h : fstT t.fs w e = none) : fgT t w e = none := by unfold fgT; rw [h]; rfl
/-- What is known of a validator behind votes, in whatever order they came. -/
structure Ord (L : List Vt) (t : Tb) (w : Int) : Prop where
  a : otT t w = false → ∀ v ∈ L, okV t v → v.w = w → fgT t w (ep t.k v.s) = some v.g
  b : ∀ e g, fgT t w e = some g → ∃ v ∈ L, okV t v ∧ v.w = w ∧ ep t.k v.s = e ∧ v.g = g
  c : otT t w = true → ∃ v ∈ L, ∃ u ∈ L, okV t v ∧ okV t u ∧ v.w = w ∧ u.w = w ∧ ep t.k v.s = ep t.k u.s ∧ v.g ≠ u.g
  d : hsT t w = true → ltT t w ∈ L ∧ okV t (ltT t w) ∧ (ltT t w).w = w
  e : otT t w = false → ∀ v ∈ L, okV t v → v.w = w → ep t.k v.s ≤ ep t.k (ltT t w).s
  h : ∀ v ∈ L, okV t v → v.w = w → hsT t w = true
theorem fgT_new (n k : Nat) (w e : Int) : fgT (newT n k) w e = none := rfl
theorem otT_new (n k : Nat) (w : Int) : otT (newT n k) w = false := by
  unfold otT newT
  simp only
  cases hc : (List.replicate n false)[w.toNat]? with
  | none => rfl
  | some b => have := List.mem_of_getElem? hc; rw [List.mem_replicate] at this; rw [this.2]; rfl
theorem hsT_new (n k : Nat) (w : Int) : hsT (newT n k) w = false := otT_new n k w
theorem Ord.new (n k : Nat) (w : Int) : Ord [] (newT n k) w :=
  ⟨fun _ v hv => (by cases hv), fun e g h => (by rw [fgT_new] at h; cases h), fun h => (by rw [otT_new] at h; cases h), fun h => (by rw [hsT_new] at h; cases h), fun _ v hv => (by cases hv), fun v hv => (by cases hv)⟩
theorem Ord.more {L : List Vt} {t : Tb} {w : Int} (h : Ord L t w) (v : Vt) (hno : ¬ (okV t v ∧ v.w = w)) : Ord (L ++ [v]) t w := by
  have hm : ∀ x ∈ L ++ [v], okV t x → x.w = w → x ∈ L := fun x hx h1 h2 => by
    rcases List.mem_append.1 hx with hx | hx
    · exact hx
    · simp at hx; subst hx; exact absurd ⟨h1, h2⟩ hno
  refine ⟨fun ho x hx h1 h2 => h.a ho x (hm x hx h1 h2) h1 h2, fun e g hg => ?_, fun ho => ?_, fun hh => ?_, fun ho x hx h1 h2 => h.e ho x (hm x hx h1 h2) h1 h2, fun x hx h1 h2 => h.h x (hm x hx h1 h2) h1 h2⟩
  · obtain ⟨x, hx, r⟩ := h.b e g hg
    exact ⟨x, List.mem_append_left _ hx, r⟩
  · obtain ⟨x, hx, y, hy, r⟩ := h.c ho
    exact ⟨x, List.mem_append_left _ hx, y, List.mem_append_left _ hy, r⟩
  · obtain ⟨hx, r⟩ := h.d hh
    exact ⟨List.mem_append_left _ hx, r⟩
theorem Ord.same {L : List Vt} {t u : Tb} {w : Int} (h : Ord L t w) (hn : t.n = u.n) (hk : t.k = u.k) (hs : SameW u t w) : Ord L u w := by
  have hf : ∀ e, fgT u w e = fgT t w e := hs.f
  refine ⟨fun ho x hx h1 h2 => ?_, fun e g hg => ?_, fun ho => ?_, fun hh => ?_, fun ho x hx h1 h2 => ?_, fun x hx h1 h2 => ?_⟩
  · rw [hf, ← hk]; exact h.a (hs.o.symm.trans ho) x hx ((okV_nk hn x).2 h1) h2
  · rw [hf] at hg
    obtain ⟨x, hx, h1, h2, h3, h4⟩ := h.b e g hg
    exact ⟨x, hx, (okV_nk hn x).1 h1, h2, by rw [← hk]; exact h3, h4⟩
  · obtain ⟨x, hx, y, hy, h1, h2, h3, h4, h5, h6⟩ := h.c (hs.o.symm.trans ho)
    exact ⟨x, hx, y, hy, (okV_nk hn x).1 h1, (okV_nk hn y).1 h2, h3, h4, by rw [← hk]; exact h5, h6⟩
  · obtain ⟨hx, h1, h2⟩ := h.d (hs.h.symm.trans hh)
    rw [hs.l]
    exact ⟨hx, (okV_nk hn _).1 h1, h2⟩
  · rw [hs.l, ← hk]; exact h.e (hs.o.symm.trans ho) x hx ((okV_nk hn x).2 h1) h2
  · rw [hs.h]; exact h.h x hx ((okV_nk hn x).2 h1) h2
theorem Ord.take {L : List Vt} {t : Tb} {w : Int} (G : GoodB t) (hw : 0 ≤ w) (h : Ord L t w) (v : Vt) : Ord (L ++ [v]) (takeT t v).2 w := by
  by_cases hv : okV t v ∧ v.w = w
  · obtain ⟨hok, rfl⟩ := hv
    have hlast : ∀ (P : Vt → Prop), (∀ x ∈ L, okV t x → x.w = v.w → P x) → P v → ∀ x ∈ L ++ [v], okV t x → x.w = v.w → P x := fun P h1 h2 x hx h3 h4 => by
      rcases List.mem_append.1 hx with hx | hx
      · exact h1 x hx h3 h4
      · simp at hx; subst hx; exact h2
    have hup : ∀ x ∈ L, x ∈ L ++ [v] := fun x hx => List.mem_append_left _ hx
    have hvm : v ∈ L ++ [v] := by simp
    have hwn : v.w.toNat < t.n := by have := hok.1; have := hok.2.1; omega
    rcases takeT_cases t v with ⟨o1, e1⟩ | ⟨o1, p1, e1⟩ | ⟨f1, o1, p1, q1, r1, e1⟩ | ⟨f1, o1, p1, q1, r1, e1⟩ | ⟨o1, p1, q1, y1, s1, e1⟩ | ⟨o1, p1, q1, z1, e1⟩ <;> rw [e1]
    · exact absurd hok o1
    · -- out already
      obtain ⟨x, hx, y, hy, r⟩ := h.c p1
      have hhs := h.h x hx r.1 r.2.2.1
      exact ⟨fun ho => (by rw [p1] at ho; cases ho), fun e g hg => (let ⟨z, hz, r⟩ := h.b e g hg; ⟨z, hup z hz, r⟩), fun _ => ⟨x, hup x hx, y, hup y hy, r⟩, fun hh => ⟨hup _ (h.d hh).1, (h.d hh).2⟩, fun ho => (by rw [p1] at ho; cases ho), fun z hz h1 h2 => hhs⟩
    · -- the same again
      have hg : fgT t v.w (ep t.k v.s) = some v.g := by unfold fgT; rw [q1]; simp [r1]
      obtain ⟨x, hx, h1, h2, h3, h4⟩ := h.b _ _ hg
      have hhs := h.h x hx h1 h2
      exact ⟨fun ho => hlast _ (fun z hz i1 i2 => h.a ho z hz i1 i2) hg, fun e g hg => (let ⟨z, hz, r⟩ := h.b e g hg; ⟨z, hup z hz, r⟩), fun ho => (by rw [p1] at ho; cases ho), fun hh => ⟨hup _ (h.d hh).1, (h.d hh).2⟩, fun ho => hlast _ (fun z hz i1 i2 => h.e ho z hz i1 i2) (by rw [← h3]; exact h.e ho x hx h1 h2), fun z hz _ _ => hhs⟩
    · -- another one of its epoch
      have hg : fgT t v.w (ep t.k v.s) = some f1.g := by unfold fgT; rw [q1]; rfl
      obtain ⟨x, hx, h1, h2, h3, h4⟩ := h.b _ _ hg
      have hhs := h.h x hx h1 h2
      have hot : otT (setO t v.w) v.w = true := by unfold otT setO; exact getD_set_self _ (by rw [G.on]; exact hwn) _ _
      exact ⟨fun ho => (by rw [hot] at ho; cases ho), fun e g hg => (let ⟨z, hz, r⟩ := h.b e g hg; ⟨z, hup z hz, r⟩), fun _ => ⟨x, hup x hx, v, hvm, h1, hok, h2, rfl, h3, by rw [h4]; exact r1⟩, fun hh => ⟨hup _ (h.d hh).1, (h.d hh).2⟩, fun ho => (by rw [hot] at ho; cases ho), fun z hz _ _ => hhs⟩
    · -- late
      have hfn := fgT_none q1
      have hfg := fun w e => fgT_add t v w e hfn
      refine ⟨fun ho => hlast (fun x => fgT (addF t v) v.w (ep t.k x.s) = some x.g) (fun z hz i1 i2 => ?_) ?_, fun e g hg => ?_, fun ho => (by have ho' : otT t v.w = true := ho; rw [p1] at ho'; cases ho'), fun hh => ⟨hup _ (h.d hh).1, (h.d hh).2⟩, fun ho => hlast (fun x => ep t.k x.s ≤ ep t.k (ltT t v.w).s) (fun z hz i1 i2 => h.e p1 z hz i1 i2) (Int.le_of_lt s1), fun z hz _ _ => y1⟩
      · have h1 := h.a p1 z hz i1 i2
        rw [hfg, if_neg (fun hc => by rw [← hc.2, hfn] at h1; cases h1)]
        exact h1
      · rw [hfg, if_pos ⟨rfl, rfl⟩]
      · rw [hfg] at hg
        split at hg
        · rename_i hc
          cases hg
          exact ⟨v, hvm, hok, rfl, hc.2, rfl⟩
        · obtain ⟨z, hz, r⟩ := h.b e g hg
          exact ⟨z, hup z hz, r⟩
    · -- the latest
      have hfn := fgT_none q1
      have hfg := fun w e => fgT_add t v w e hfn
      have hlt : ltT (setL (addF t v) v) v.w = v := by unfold ltT setL addF; exact getD_set_self _ (by rw [G.ln]; exact hwn) _ _
      have hhs : hsT (setL (addF t v) v) v.w = true := by unfold hsT setL addF; exact getD_set_self _ (by rw [G.hn]; exact hwn) _ _
      have hmax : ∀ z ∈ L, okV t z → z.w = v.w → ep t.k z.s ≤ ep t.k v.s := fun z hz i1 i2 => by
        have h1 := h.e p1 z hz i1 i2
        have h2 := h.h z hz i1 i2
        have h3 : ¬ ep t.k v.s < ep t.k (ltT t v.w).s := fun hc => z1 ⟨h2, hc⟩
        omega
      refine ⟨fun ho => hlast (fun x => fgT (addF t v) v.w (ep t.k x.s) = some x.g) (fun z hz i1 i2 => ?_) ?_, fun e g hg => ?_, fun ho => (by have ho' : otT t v.w = true := ho; rw [p1] at ho'; cases ho'), fun _ => (by rw [hlt]; exact ⟨hvm, hok, rfl⟩), fun ho => (by rw [hlt]; exact hlast (fun x => ep t.k x.s ≤ ep t.k v.s) hmax (Int.le_refl _)), fun z hz _ _ => hhs⟩
      · have h1 := h.a p1 z hz i1 i2
        rw [hfg, if_neg (fun hc => by rw [← hc.2, hfn] at h1; cases h1)]
        exact h1
      · rw [hfg, if_pos ⟨rfl, rfl⟩]
      · have hg' : fgT (addF t v) v.w e = some g := hg
        rw [hfg] at hg'
        split at hg'
        · rename_i hc
          cases hg'
          exact ⟨v, hvm, hok, rfl, hc.2, rfl⟩
        · obtain ⟨z, hz, r⟩ := h.b e g hg'
          exact ⟨z, hup z hz, r⟩
  · have hn := takeT_nk t v
    by_cases hww : v.w = w
    · have hnok : ¬ okV t v := fun x => hv ⟨x, hww⟩
      rcases takeT_cases t v with ⟨o1, e1⟩ | ⟨o1, _⟩ | ⟨_, o1, _⟩ | ⟨_, o1, _⟩ | ⟨o1, _⟩ | ⟨o1, _⟩
      · rw [e1]; exact h.more v hv
      all_goals exact absurd o1 hnok
    · refine (h.more v hv).same hn.1.symm hn.2.symm (take_other t v hw hww)
/-- In whatever order votes come. -/
theorem Ord.agree {L L' : List Vt} {t u : Tb} {w : Int} (h : Ord L t w) (h' : Ord L' u w) (hn : t.n = u.n) (hk : t.k = u.k) (hL : ∀ v, v ∈ L ↔ v ∈ L') :
    otT t w = otT u w ∧ hsT t w = hsT u w ∧ (otT t w = false → hsT t w = true → ep t.k (ltT t w).s = ep t.k (ltT u w).s ∧ (ltT t w).g = (ltT u w).g) := by
  have key : ∀ {L L' : List Vt} {t u : Tb}, Ord L t w → Ord L' u w → t.n = u.n → t.k = u.k → (∀ v, v ∈ L ↔ v ∈ L') → otT t w = false → otT u w = true → False := fun h h' hn hk hL h1 h2 => by
    obtain ⟨x, hx, y, hy, i1, i2, i3, i4, i5, i6⟩ := h'.c h2
    have j1 := h.a h1 x ((hL x).2 hx) ((okV_nk hn x).2 i1) i3
    have j2 := h.a h1 y ((hL y).2 hy) ((okV_nk hn y).2 i2) i4
    rw [hk, i5] at j1
    rw [hk] at j2
    rw [j1] at j2
    exact i6 (Option.some.inj j2)
  have kh : ∀ {L L' : List Vt} {t u : Tb}, Ord L t w → Ord L' u w → t.n = u.n → (∀ v, v ∈ L ↔ v ∈ L') → hsT t w = true → hsT u w = true := fun h h' hn hL h1 => by
    obtain ⟨i1, i2, i3⟩ := h.d h1
    exact h'.h _ ((hL _).1 i1) ((okV_nk hn _).1 i2) i3
  have ho : otT t w = otT u w := by
    cases h1 : otT t w <;> cases h2 : otT u w
    · rfl
    · exact (key h h' hn hk hL h1 h2).elim
    · exact (key h' h hn.symm hk.symm (fun v => (hL v).symm) h2 h1).elim
    · rfl
  have hh : hsT t w = hsT u w := by
    cases h1 : hsT t w <;> cases h2 : hsT u w
    · rfl
    · have := kh h' h hn.symm (fun v => (hL v).symm) h2; rw [h1] at this; cases this
    · have := kh h h' hn hL h1; rw [h2] at this; cases this
    · rfl
  refine ⟨ho, hh, fun h1 h2 => ?_⟩
  have h3 : otT u w = false := ho.symm.trans h1
  have h4 : hsT u w = true := hh.symm.trans h2
  obtain ⟨i1, i2, i3⟩ := h.d h2
  obtain ⟨j1, j2, j3⟩ := h'.d h4
  have k1 := h.e h1 (ltT u w) ((hL _).2 j1) ((okV_nk hn _).2 j2) j3
  have k2 := h'.e h3 (ltT t w) ((hL _).1 i1) ((okV_nk hn _).1 i2) i3
  rw [← hk] at k2
  have ke : ep t.k (ltT t w).s = ep t.k (ltT u w).s := by omega
  refine ⟨ke, ?_⟩
  have a1 := h.a h1 _ i1 i2 i3
  have a2 := h.a h1 (ltT u w) ((hL _).2 j1) ((okV_nk hn _).2 j2) j3
  rw [← ke, a1] at a2
  exact Option.some.inj a2

def foldT (t : Tb) (L : List Vt) : Tb := L.foldl (fun t v => (takeT t v).2) t
theorem foldT_snoc (t : Tb) (L : List Vt) (v : Vt) : foldT t (L ++ [v]) = (takeT (foldT t L) v).2 := by unfold foldT; rw [List.foldl_append]; rfl

/-! Where in its epoch a slot is. -/
structure EpR (a b : Tb) : Prop where
  n : a.n = b.n
  k : a.k = b.k
  fs : a.fs = b.fs
  hs : a.hs = b.hs
  ot : a.ot = b.ot
  lt : ∀ w, ep a.k (ltT a w).s = ep a.k (ltT b w).s
theorem EpR.refl (t : Tb) : EpR t t := ⟨rfl, rfl, rfl, rfl, rfl, fun _ => rfl⟩
theorem EpR.take {a b : Tb} (h : EpR a b) (G : GoodB a) (H : GoodB b) {v u : Vt} (hw : v.w = u.w) (hg : v.g = u.g) (he : ep a.k v.s = ep a.k u.s) (hv : 0 ≤ v.s ∧ v.s ≤ 1073741824) (hu : 0 ≤ u.s ∧ u.s ≤ 1073741824) : (takeT a v).1 = (takeT b u).1 ∧ EpR (takeT a v).2 (takeT b u).2 := by
  have hok : okV a v ↔ okV b u := by unfold okV; rw [hw, h.n]; exact ⟨fun x => ⟨x.1, x.2.1, hu⟩, fun x => ⟨x.1, x.2.1, hv⟩⟩
  have hot : otT a v.w = otT b u.w := by unfold otT; rw [hw, h.ot]
  have hhs : hsT a v.w = hsT b u.w := by unfold hsT; rw [hw, h.hs]
  have hfs : fstT a.fs v.w (ep a.k v.s) = fstT b.fs u.w (ep b.k u.s) := by rw [h.fs, hw, he, h.k]
  have hlt : ep a.k (ltT a v.w).s = ep b.k (ltT b u.w).s := by rw [h.lt, hw, h.k]
  have hes : ep a.k v.s = ep b.k u.s := by rw [he, h.k]
  have hadd : EpR (addF a v) (addF b u) := ⟨h.n, h.k, by unfold addF; simp only; rw [h.fs, hw, hg, hes], h.hs, h.ot, h.lt⟩
  rcases takeT_cases a v with ⟨o1, e1⟩ | ⟨o1, p1, e1⟩ | ⟨f1, o1, p1, q1, r1, e1⟩ | ⟨f1, o1, p1, q1, r1, e1⟩ | ⟨o1, p1, q1, y1, s1, e1⟩ | ⟨o1, p1, q1, z1, e1⟩
  · rcases takeT_cases b u with ⟨o2, e2⟩ | ⟨o2, _⟩ | ⟨_, o2, _⟩ | ⟨_, o2, _⟩ | ⟨o2, _⟩ | ⟨o2, _⟩
    · rw [e1, e2]; exact ⟨rfl, h⟩
    all_goals exact absurd (hok.2 o2) o1
  · rw [hot] at p1
    rcases takeT_cases b u with ⟨o2, _⟩ | ⟨_, _, e2⟩ | ⟨_, _, p2, _⟩ | ⟨_, _, p2, _⟩ | ⟨_, p2, _⟩ | ⟨_, p2, _⟩
    · exact absurd (hok.1 o1) o2
    · rw [e1, e2]; exact ⟨rfl, h⟩
    all_goals (rw [p1] at p2; cases p2)
  · rw [hot] at p1
    rw [hfs] at q1
    rcases takeT_cases b u with ⟨o2, _⟩ | ⟨_, p2, _⟩ | ⟨f2, _, _, q2, r2, e2⟩ | ⟨f2, _, _, q2, r2, _⟩ | ⟨_, _, q2, _⟩ | ⟨_, _, q2, _⟩
    · exact absurd (hok.1 o1) o2
    · rw [p1] at p2; cases p2
    · rw [e1, e2]; exact ⟨rfl, h⟩
    · rw [q1] at q2; cases q2; exact absurd (r1.trans hg) r2
    all_goals (rw [q1] at q2; cases q2)
  · rw [hot] at p1
    rw [hfs] at q1
    rcases takeT_cases b u with ⟨o2, _⟩ | ⟨_, p2, _⟩ | ⟨f2, _, _, q2, r2, _⟩ | ⟨f2, _, _, q2, r2, e2⟩ | ⟨_, _, q2, _⟩ | ⟨_, _, q2, _⟩
    · exact absurd (hok.1 o1) o2
    · rw [p1] at p2; cases p2
    · rw [q1] at q2; cases q2; exact absurd (r2.trans hg.symm) r1
    · rw [e1, e2]
      exact ⟨rfl, ⟨h.n, h.k, h.fs, h.hs, by unfold setO; simp only; rw [h.ot, hw], h.lt⟩⟩
    all_goals (rw [q1] at q2; cases q2)
  · rw [hot] at p1
    rw [hfs] at q1
    rcases takeT_cases b u with ⟨o2, _⟩ | ⟨_, p2, _⟩ | ⟨f2, _, _, q2, r2, _⟩ | ⟨f2, _, _, q2, r2, _⟩ | ⟨_, _, _, _, _, e2⟩ | ⟨_, _, _, z2, _⟩
    · exact absurd (hok.1 o1) o2
    · rw [p1] at p2; cases p2
    · rw [q1] at q2; cases q2
    · rw [q1] at q2; cases q2
    · rw [e1, e2]; exact ⟨rfl, hadd⟩
    · refine absurd ?_ z2
      exact ⟨hhs.symm.trans y1, by rw [← hes, ← hlt]; exact s1⟩
  · rw [hot] at p1
    rw [hfs] at q1
    rcases takeT_cases b u with ⟨o2, _⟩ | ⟨_, p2, _⟩ | ⟨f2, _, _, q2, r2, _⟩ | ⟨f2, _, _, q2, r2, _⟩ | ⟨_, _, _, y2, s2, _⟩ | ⟨o2, _, _, _, e2⟩
    · exact absurd (hok.1 o1) o2
    · rw [p1] at p2; cases p2
    · rw [q1] at q2; cases q2
    · rw [q1] at q2; cases q2
    · refine absurd ?_ z1
      exact ⟨hhs.trans y2, by rw [hes, hlt]; exact s2⟩
    · rw [e1, e2]
      refine ⟨rfl, ⟨h.n, h.k, hadd.fs, by unfold setL addF; simp only; rw [h.hs, hw], h.ot, fun w => ?_⟩⟩
      unfold ltT setL addF
      simp only
      by_cases e : v.w.toNat = w.toNat
      · rw [← e, getD_set_self _ (by rw [G.ln]; have := o1.1; have := o1.2.1; omega), hw, getD_set_self _ (by rw [H.ln]; have := o2.1; have := o2.2.1; omega), he]
      · rw [getD_set_ne _ e, getD_set_ne _ (by rw [← hw]; exact e)]
        exact h.lt w
theorem ep_start {k : Nat} (hk : 1 ≤ k) {s : Int} (h0 : 0 ≤ s) : ep k (s - s.tmod (k : Int)) = ep k s ∧ 0 ≤ s - s.tmod (k : Int) ∧ s - s.tmod (k : Int) ≤ s := by
  have h1 := Int.tmod_nonneg (k : Int) h0
  have h2 := Int.tmod_lt_of_pos s (show (0 : Int) < (k : Int) by omega)
  have h3 := Int.tdiv_mul_add_tmod s (k : Int)
  have h4 : s - s.tmod (k : Int) = s.tdiv (k : Int) * (k : Int) := by omega
  have h5 : 0 ≤ s.tdiv (k : Int) := Int.tdiv_nonneg h0 (by omega)
  refine ⟨?_, by rw [h4]; exact Int.mul_nonneg h5 (by omega), by omega⟩
  unfold ep
  rw [h4, Int.mul_tdiv_cancel _ (by omega)]

/-! What is forgotten. -/
def EpP (t : Tb) : Prop := ∀ f ∈ t.fs, 0 ≤ f.e
theorem ep_nonneg (k : Nat) {s : Int} (h : 0 ≤ s) : 0 ≤ ep k s := Int.tdiv_nonneg h (by omega)
theorem EpP.new (n k : Nat) : EpP (newT n k) := fun f hf => by cases hf
theorem EpP.take {t : Tb} (h : EpP t) (v : Vt) : EpP (takeT t v).2 := by
  have ha : okV t v → EpP (addF t v) := fun hok f hf => by
    rcases List.mem_append.1 hf with hf | hf
    · exact h f hf
    · simp at hf; subst hf; exact ep_nonneg t.k hok.2.2.1
  rcases takeT_cases t v with ⟨_, e⟩ | ⟨_, _, e⟩ | ⟨_, _, _, _, _, e⟩ | ⟨_, _, _, _, _, e⟩ | ⟨o, _, _, _, _, e⟩ | ⟨o, _, _, _, e⟩ <;> rw [e]
  · exact h
  · exact h
  · exact h
  · exact h
  · exact ha o
  · exact ha o
theorem EpP.forget {t : Tb} (h : EpP t) (s : Int) : EpP (forgetT t s) := fun f hf => h f (List.mem_filter.1 hf).1
theorem forgetT_len (t : Tb) (s : Int) : (forgetT t s).fs.length ≤ t.fs.length := List.length_filter_le _ _
theorem forgetT_zero {t : Tb} (h : EpP t) : forgetT t 0 = t := by
  unfold forgetT
  have : t.fs.filter (fun f => decide ((0 : Int) < 0) || decide (ep t.k 0 ≤ f.e)) = t.fs := List.filter_eq_self.2 fun f hf => by
    have h1 := h f hf
    have h2 : ep t.k 0 = 0 := by unfold ep; simp
    rw [h2, decide_eq_true h1]; simp
  rw [this]
theorem forgetT_w (t : Tb) (s w : Int) : otT (forgetT t s) w = otT t w ∧ hsT (forgetT t s) w = hsT t w ∧ ltT (forgetT t s) w = ltT t w := ⟨rfl, rfl, rfl⟩
theorem fstT_forget (t : Tb) (s w e : Int) : fstT (forgetT t s).fs w e = if s < 0 ∨ ep t.k s ≤ e then fstT t.fs w e else none := by
  unfold fstT forgetT
  simp only
  rw [List.find?_filter]
  by_cases h : s < 0 ∨ ep t.k s ≤ e
  · rw [if_pos h]
    congr 1
    funext f
    by_cases hf : f.w = w ∧ f.e = e
    · obtain ⟨rfl, rfl⟩ := hf
      rcases h with h | h
      · simp [h]
      · simp [h]
    · have : (f.w == w && f.e == e) = false := by
        rw [Bool.and_eq_false_iff]
        by_cases h1 : f.w = w
        · right; exact beq_eq_false_iff_ne.2 fun h2 => hf ⟨h1, h2⟩
        · left; exact beq_eq_false_iff_ne.2 h1
      rw [this]; simp
  · rw [if_neg h]
    rw [List.find?_eq_none]
    intro f _ hc
    simp only [Bool.and_eq_true, Bool.or_eq_true, decide_eq_true_eq, beq_iff_eq] at hc
    obtain ⟨h1, h2, h3⟩ := hc
    rw [h3] at h1
    exact h h1
/-- To forget is the same for all that say the same. -/
theorem SameW.forget {t u : Tb} {w : Int} (h : SameW t u w) (hk : t.k = u.k) (s : Int) : SameW (forgetT t s) (forgetT u s) w := by
  refine ⟨h.o, h.h, h.l, fun e => ?_⟩
  rw [fstT_forget, fstT_forget, hk]
  split
  · exact h.f e
  · rfl
end Go.Proofs.Ytoinigcfcjllcaa

/-
  Votes one by one, plainly: what is known behind them, in whatever order; rows gone round, and the other way round. It holds of every program.
-/
namespace Go.Proofs.Ytoinigcfcjllcaa
open Go

theorem fold_next {t : Tb} {M : List Vt} {j : Nat} {v : Vt} (h : M[j]? = some v) : foldT t (M.take (j + 1)) = (takeT (foldT t (M.take j)) v).2 := by
  rw [List.take_add_one, h]
  exact foldT_snoc t _ v
theorem fold_good {t : Tb} (G : GoodB t) : ∀ L : List Vt, GoodB (foldT t L) := by
  intro L
  induction L generalizing t with
  | nil => exact G
  | cons v L ih => exact ih (takeT_good G v)
theorem fold_nk (t : Tb) : ∀ L : List Vt, (foldT t L).n = t.n ∧ (foldT t L).k = t.k := by
  intro L
  induction L generalizing t with
  | nil => exact ⟨rfl, rfl⟩
  | cons v L ih => exact ⟨(ih (takeT t v).2).1.trans (takeT_nk t v).1, (ih (takeT t v).2).2.trans (takeT_nk t v).2⟩
theorem take_fs (t : Tb) (v : Vt) : (takeT t v).2.fs.length ≤ t.fs.length + 1 := by
  rcases takeT_cases t v with ⟨_, e⟩ | ⟨_, _, e⟩ | ⟨_, _, _, _, _, e⟩ | ⟨_, _, _, _, _, e⟩ | ⟨_, _, _, _, _, e⟩ | ⟨_, _, _, _, e⟩ <;> rw [e] <;> simp [addF, setL, setO]
theorem fold_fs (t : Tb) : ∀ L : List Vt, (foldT t L).fs.length ≤ t.fs.length + L.length := by
  intro L
  induction L generalizing t with
  | nil => exact Nat.le_refl _
  | cons v L ih =>
    have h1 := ih (takeT t v).2
    have h2 := take_fs t v
    show (foldT (takeT t v).2 L).fs.length ≤ _
    rw [List.length_cons]
    omega
theorem ord_go {t : Tb} {w : Int} (hw : 0 ≤ w) : ∀ (L : List Vt) (M : List Vt) (u : Tb), GoodB u → Ord M u w → Ord (M ++ L) (foldT u L) w
  | [], M, u, _, h => by rw [List.append_nil]; exact h
  | v :: L, M, u, G, h => by
    have := ord_go (t := t) hw L (M ++ [v]) (takeT u v).2 (takeT_good G v) (h.take G hw v)
    rw [List.append_assoc] at this
    exact this
theorem ord_fold {n k : Nat} (h1 : 1 ≤ n) (h2 : n ≤ 64) (h3 : 1 ≤ k) (h4 : k ≤ 32) {w : Int} (hw : 0 ≤ w) (L : List Vt) : Ord L (foldT (newT n k) L) w :=
  ord_go (t := newT n k) hw L [] (newT n k) (GoodB.new h1 h2 h3 h4) (Ord.new n k w)

/-- A row gone round by so many, and the other way round. -/
def turnL (L : List Vt) (K : Nat) : List Vt := (List.range L.length).map fun i => (L[L.length - 1 - (i + K) % L.length]?).getD vt0
theorem turn_length (L : List Vt) (K : Nat) : (turnL L K).length = L.length := by simp [turnL]
theorem turn_at {L : List Vt} {K j : Nat} {v : Vt} (hj : j < L.length) (h : L[L.length - 1 - (j + K) % L.length]? = some v) : (turnL L K)[j]? = some v := by
  unfold turnL
  rw [List.getElem?_map, List.getElem?_range hj]
  simp [h]
theorem turn_mem {L : List Vt} {K : Nat} (hK : K < L.length) (v : Vt) : v ∈ L ↔ v ∈ turnL L K := by
  constructor
  · intro hv
    obtain ⟨p, hp⟩ := List.getElem?_of_mem hv
    have hpl := (List.getElem?_eq_some_iff.1 hp).1
    refine List.mem_of_getElem? (turn_at (j := (L.length - 1 - p + (L.length - K)) % L.length) (Nat.mod_lt _ (by omega)) ?_)
    have h1 : ((L.length - 1 - p + (L.length - K)) % L.length + K) % L.length = L.length - 1 - p := by
      rw [Nat.mod_add_mod, show L.length - 1 - p + (L.length - K) + K = L.length - 1 - p + L.length by omega, Nat.add_mod_right, Nat.mod_eq_of_lt (by omega)]
    rw [h1, show L.length - 1 - (L.length - 1 - p) = p by omega]
    exact hp
  · intro hv
    obtain ⟨j, hj⟩ := List.getElem?_of_mem hv
    have hjl := (List.getElem?_eq_some_iff.1 hj).1
    rw [turn_length] at hjl
    have hm := Nat.mod_lt (j + K) (show 0 < L.length by omega)
    have h1 := turn_at (K := K) hjl (List.getElem?_eq_getElem (show L.length - 1 - (j + K) % L.length < L.length by omega))
    rw [hj] at h1
    cases h1
    exact List.getElem_mem _
/-- Behind the same votes, whatever their order: of each validator. -/
theorem order_agree {n k : Nat} (h1 : 1 ≤ n) (h2 : n ≤ 64) (h3 : 1 ≤ k) (h4 : k ≤ 32) {w : Int} (hw : 0 ≤ w) {L M : List Vt} (hL : ∀ v, v ∈ L ↔ v ∈ M) :
    otT (foldT (newT n k) L) w = otT (foldT (newT n k) M) w ∧ hsT (foldT (newT n k) L) w = hsT (foldT (newT n k) M) w ∧ (otT (foldT (newT n k) L) w = false → hsT (foldT (newT n k) L) w = true → ep k (ltT (foldT (newT n k) L) w).s = ep k (ltT (foldT (newT n k) M) w).s ∧ (ltT (foldT (newT n k) L) w).g = (ltT (foldT (newT n k) M) w).g) := by
  have := (ord_fold h1 h2 h3 h4 hw L).agree (ord_fold h1 h2 h3 h4 hw M) (by rw [(fold_nk _ L).1, (fold_nk _ M).1]) (by rw [(fold_nk _ L).2, (fold_nk _ M).2]) hL
  rw [(fold_nk (newT n k) L).2] at this
  exact this
end Go.Proofs.Ytoinigcfcjllcaa
