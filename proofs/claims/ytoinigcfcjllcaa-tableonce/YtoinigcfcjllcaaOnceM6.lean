/-
  The texts TabKey, TabMem, Ret13, VtStep, one behind the other.
-/
import Derived.Test.YtoinigcfcjllcaaCRootMem
import Derived.Test.YtoinigcfcjllcaaOnceM1
import Derived.Maps.RangeWalk
import Derived.Maps.OwnOps
import Derived.DeepKeys4
import Derived.WideKeyArr
import Derived.Test.YtoinigcfcjllcaaOnceM4
import Derived.Test.YtoinigcfcjllcaaOnceM5
import Derived.Test.YtoinigcfcjllcaaOnceM2
import Derived.Test.YtoinigcfcjllcaaOnceM3
/-
  A map by validators and epochs (map[term]api.Root), as what it says of each: its keys, its elements; what a look-up, a store and a deletion make of it.
-/
namespace Go.Proofs.Ytoinigcfcjllcaa
open Go.RowKit Go.WideMaps
set_option maxRecDepth 10000

theorem Try.laidOutB : laidOutB Try.prog = true := by kernel_rfl
theorem Try.rowTerm : (59 : TypeId) < Try.prog.types.size := of_decide_eq_true (by kernel_rfl)
theorem Try.wideTerm : (match Try.prog.underlying 59 with | some (.array _ _) | some (.struct _) => true | _ => false) = true := by rw [Try.underlying59]
theorem Try.lawTerm : KeyLaw Try.prog 59 := deep_law_laid Try.laidOutB (m := 2) (by omega) Try.rowTerm (by kernel_rfl) Try.wideTerm
theorem Try.keyedT : Go.Maps.Keyed Try.prog 59 := .of_law Try.lawTerm
theorem Try.cellsTerm : Try.prog.cellsOf 59 = 2 := by kernel_rfl
theorem Try.cellsIntT : Try.prog.cellsOf 3 = 1 := by kernel_rfl
theorem Try.keyTypeTerm : Try.prog.keyType 59 = true := by kernel_rfl
theorem Try.someTypes : ∃ m, Try.prog.types.size = m + 1 := ⟨Try.prog.types.size - 1, by have h : (59 : Nat) < Try.prog.types.size := Try.rowTerm; omega⟩

def tmv (a e : Int) : Value := .agg #[.int .i64 a, .int .i64 e]
def keyT (a e : Int) : Lit := .string (keyBytes [Lit.int .i64 a, Lit.int .i64 e])
def I6 (a : Int) : Prop := -9223372036854775808 ≤ a ∧ a ≤ 9223372036854775807
theorem i6_wf {a : Int} : (Lit.int .i64 a).wf = true ↔ I6 a := by
  simp [Lit.wf, IntKind.min, IntKind.max, IntKind.bits, IntKind.signed, I6]
/-- What a key reads as. -/
theorem key_term {a e : Int} (ha : I6 a) (he : I6 e) : keyOf Try.prog 59 (tmv a e) = some (keyT a e) := by
  obtain ⟨m, hm⟩ := Try.someTypes
  unfold keyOf tmv
  simp only [Try.underlying59]
  rw [if_pos (by simp [Try.keyTypeTerm, Value.formed, Try.underlying59, Try.cellsTerm])]
  unfold Program.keyLits
  simp only [Try.underlying59, Value.cells]
  rw [if_pos (by rw [Try.cellsTerm]; simp), hm]
  simp [Program.keyLits, Try.underlying3, Try.cellsIntT, i6_wf.2 ha, i6_wf.2 he, keyT]
def int1 : Value → Option (List Lit)
  | .int q n => if q = .i64 ∧ (Lit.int .i64 n).wf = true then some [.int .i64 n] else none
  | _ => none
theorem keyLits_int (d : Nat) (v : Value) : Try.prog.keyLits (d + 1) 3 [v] = int1 v := by
  unfold Program.keyLits
  rw [Try.underlying3]
  cases v <;> rfl
theorem int1_some {v : Value} {l : List Lit} (h : int1 v = some l) : ∃ n, v = .int .i64 n ∧ l = [.int .i64 n] ∧ (Lit.int .i64 n).wf = true := by
  cases v <;> simp [int1] at h
  obtain ⟨⟨rfl, h1⟩, rfl⟩ := h
  exact ⟨_, rfl, rfl, h1⟩
theorem key_inv {v : Value} {kl : Lit} (h : keyOf Try.prog 59 v = some kl) : ∃ a e, v = tmv a e ∧ kl = keyT a e ∧ I6 a ∧ I6 e := by
  obtain ⟨m, hm⟩ := Try.someTypes
  unfold keyOf at h
  simp only [Try.underlying59] at h
  split at h
  · rename_i hf
    unfold Program.keyLits at h
    simp only [Try.underlying59] at h
    split at h
    · rename_i hl
      rw [Try.cellsTerm] at hl
      cases v <;> simp [Value.formed, Try.underlying59] at hf
      rename_i cs
      obtain ⟨l⟩ := cs
      have hl2 : l.length = 2 := hl.1
      simp only [Value.cells] at h
      match l, hl2 with
      | [x, y], hxy =>
        clear hxy
        rw [hm] at h
        simp only [Try.cellsIntT, List.mapM_cons, List.mapM_nil, List.drop_zero, List.drop_succ_cons, List.take_succ_cons, List.take_zero] at h
        simp only [keyLits_int] at h
        cases hx : int1 x with
        | none => rw [hx] at h; simp at h
        | some A =>
          cases hy : int1 y with
          | none => rw [hx, hy] at h; simp at h
          | some B =>
            rw [hx, hy] at h
            obtain ⟨n, rfl, rfl, h1⟩ := int1_some hx
            obtain ⟨k, rfl, rfl, h2⟩ := int1_some hy
            simp at h
            exact ⟨_, _, rfl, h.symm, i6_wf.1 h1, i6_wf.1 h2⟩
    · simp at h
  · cases h
theorem keyT_inj {a e a' e' : Int} (h1 : I6 a) (h2 : I6 e) (h3 : I6 a') (h4 : I6 e') (h : keyT a e = keyT a' e') : a = a' ∧ e = e' := by
  have := Try.lawTerm.inj (key_term h1 h2) (h ▸ key_term h3 h4)
  simpa [tmv] using this
theorem keyT_is (a e : Int) : WideAt.IsKeyLit (keyT a e) := trivial

/-! The elements: names. -/
open Classical in
noncomputable def rootE (v : Value) : Option (DataW Unit × List MemPlace) := if h : ∃ r : List UInt8, r.length = 32 ∧ v = .agg (bv r).toArray then some (.lit (.string h.choose), []) else none
theorem aggbv_inj {r s : List UInt8} (h : Value.agg (bv r).toArray = Value.agg (bv s).toArray) : r = s := by
  simp only [Value.agg.injEq] at h
  exact bv_inj (congrArg Array.toList h)
theorem rootE_mk {r : List UInt8} (hr : r.length = 32) : rootE (.agg (bv r).toArray) = some (.lit (.string r), []) := by
  have h : ∃ s : List UInt8, s.length = 32 ∧ Value.agg (bv r).toArray = .agg (bv s).toArray := ⟨r, hr, rfl⟩
  unfold rootE
  rw [dif_pos h]
  have := aggbv_inj h.choose_spec.2
  rw [← this]
theorem rootE_inv {v : Value} {z : DataW Unit × List MemPlace} (h : rootE v = some z) : ∃ r : List UInt8, r.length = 32 ∧ v = .agg (bv r).toArray ∧ z = (.lit (.string r), []) := by
  unfold rootE at h
  split at h
  · rename_i hx
    cases h
    exact ⟨_, hx.choose_spec.1, hx.choose_spec.2, rfl⟩
  · cases h
theorem Try.zeroRoot (w : World) : (zeroValue 27).run Try.prog w = .ok (.agg (bv zero32).toArray) w := by kernel_rfl

/-! What a map says of first votes. -/
def fkey (f : Fs) : Lit := keyT f.w f.e
theorem fkey_is (f : Fs) : WideAt.IsKeyLit (fkey f) := trivial
structure OkF (fs : List Fs) : Prop where
  g : ∀ f ∈ fs, f.g.length = 32
  w : ∀ f ∈ fs, 0 ≤ f.w ∧ f.w < 64
  e : ∀ f ∈ fs, 0 ≤ f.e ∧ f.e ≤ 1073741824
  un : fs.Pairwise fun a b => ¬ (a.w = b.w ∧ a.e = b.e)
theorem OkF.iw {fs : List Fs} (h : OkF fs) {f : Fs} (hf : f ∈ fs) : I6 f.w := by have := h.w f hf; unfold I6; omega
theorem OkF.ie {fs : List Fs} (h : OkF fs) {f : Fs} (hf : f ∈ fs) : I6 f.e := by have := h.e f hf; unfold I6; omega
theorem OkF.nil0 : OkF [] := ⟨fun _ h => (by cases h), fun _ h => (by cases h), fun _ h => (by cases h), List.Pairwise.nil⟩
theorem fkey_eq {fs : List Fs} (h : OkF fs) {f : Fs} (hf : f ∈ fs) {a e : Int} (ha : I6 a) (he : I6 e) : fkey f = keyT a e ↔ f.w = a ∧ f.e = e :=
  ⟨fun x => keyT_inj (h.iw hf) (h.ie hf) ha he x, fun ⟨x, y⟩ => by rw [fkey, x, y]⟩
theorem pairwise_one {α : Type} {R : α → α → Prop} (hs : ∀ a b, R a b → R b a) : ∀ {l : List α}, l.Pairwise R → ∀ {a b : α}, a ∈ l → b ∈ l → ¬ R a b → a = b
  | [], _, a, b, ha, _, _ => by cases ha
  | x :: l, hp, a, b, ha, hb, hn => by
    obtain ⟨h1, h2⟩ := List.pairwise_cons.1 hp
    rcases List.mem_cons.1 ha with ea | ha
    · rcases List.mem_cons.1 hb with eb | hb
      · rw [ea, eb]
      · exact absurd (ea ▸ h1 b hb) hn
    · rcases List.mem_cons.1 hb with eb | hb
      · exact absurd (eb ▸ hs _ _ (h1 a ha)) hn
      · exact pairwise_one hs h2 ha hb hn
theorem OkF.one {fs : List Fs} (h : OkF fs) {f f' : Fs} (hf : f ∈ fs) (hf' : f' ∈ fs) (hk : fkey f = fkey f') : f = f' := by
  have := (fkey_eq h hf (h.iw hf') (h.ie hf')).1 hk
  exact pairwise_one (fun a b hab hba => hab ⟨hba.1.symm, hba.2.symm⟩) h.un hf hf' (fun hn => hn this)
theorem OkF.find {fs : List Fs} (h : OkF fs) {f : Fs} (hf : f ∈ fs) : fstT fs f.w f.e = some f := by
  cases hx : fstT fs f.w f.e with
  | none =>
    unfold fstT at hx
    rw [List.find?_eq_none] at hx
    exact absurd (by simp) (hx f hf)
  | some f' =>
    obtain ⟨h1, h2, h3⟩ := fstT_some hx
    exact congrArg some (h.one h1 hf (by rw [fkey, fkey, h2, h3]))
structure SaysF (D : DataW Unit) (fs : List Fs) : Prop where
  dom : ∀ kl, Maps.has D kl = true ↔ ∃ f ∈ fs, fkey f = kl
  at' : ∀ f ∈ fs, ∀ z, D.atKey (fkey f) z = .lit (.string f.g)
theorem saysF_none : SaysF (.map []) [] := ⟨fun kl => by simp [Maps.has_eq], fun f h => by cases h⟩
section
variable {D : DataW Unit} {fs : List Fs} {a e : Int}
theorem SaysF.look (h : SaysF D fs) (ok : OkF fs) (ha : I6 a) (he : I6 e) : Maps.has D (keyT a e) = (fstT fs a e).isSome := by
  rw [Bool.eq_iff_iff, h.dom]
  constructor
  · rintro ⟨f, hf, hk⟩
    obtain ⟨rfl, rfl⟩ := (fkey_eq ok hf ha he).1 hk
    rw [ok.find hf]; rfl
  · intro hx
    cases hy : fstT fs a e with
    | none => rw [hy] at hx; cases hx
    | some f =>
      obtain ⟨h1, h2, h3⟩ := fstT_some hy
      exact ⟨f, h1, by rw [fkey, h2, h3]⟩
theorem SaysF.at (h : SaysF D fs) {f : Fs} (hy : fstT fs a e = some f) (z : DataW Unit) : D.atKey (keyT a e) z = .lit (.string f.g) := by
  obtain ⟨h1, h2, h3⟩ := fstT_some hy
  have := h.at' f h1 z
  rw [fkey, h2, h3] at this
  exact this
theorem OkF.snoc (ok : OkF fs) {f : Fs} (hn : fstT fs f.w f.e = none) (hg : f.g.length = 32) (hw : 0 ≤ f.w ∧ f.w < 64) (he : 0 ≤ f.e ∧ f.e ≤ 1073741824) : OkF (fs ++ [f]) := by
  have h1 : ∀ (p : Fs → Prop), (∀ x ∈ fs, p x) → p f → ∀ x ∈ fs ++ [f], p x := fun p q r x hx => by
    rcases List.mem_append.1 hx with hx | hx
    · exact q x hx
    · simp at hx; rw [hx]; exact r
  refine ⟨h1 _ ok.g hg, h1 _ ok.w hw, h1 _ ok.e he, List.pairwise_append.2 ⟨ok.un, List.pairwise_singleton _ _, fun x hx y hy => ?_⟩⟩
  simp at hy
  subst hy
  rintro ⟨e1, e2⟩
  have := ok.find hx
  rw [e1, e2, hn] at this
  cases this
theorem SaysF.put (h : SaysF D fs) (hD : Maps.IsMap D) (ok : OkF fs) {f : Fs} (hn : fstT fs f.w f.e = none) (hw : I6 f.w) (he : I6 f.e) : SaysF (D.put (fkey f) (.lit (.string f.g))) (fs ++ [f]) := by
  have hne : ∀ x ∈ fs, fkey x ≠ fkey f := fun x hx hk => by
    have := (fkey_eq ok hx hw he).1 hk
    have h1 := ok.find hx
    rw [this.1, this.2, hn] at h1
    cases h1
  refine ⟨fun kl => ?_, fun x hx z => ?_⟩
  · by_cases e0 : kl = fkey f
    · subst e0
      rw [Maps.has_put_same hD (fkey_is f)]
      exact ⟨fun _ => ⟨f, by simp, rfl⟩, fun _ => rfl⟩
    · rw [Maps.has_put_other e0, h.dom]
      constructor
      · rintro ⟨x, hx, hk⟩; exact ⟨x, List.mem_append_left _ hx, hk⟩
      · rintro ⟨x, hx, hk⟩
        rcases List.mem_append.1 hx with hx | hx
        · exact ⟨x, hx, hk⟩
        · simp at hx; subst hx; exact absurd hk.symm e0
  · rcases List.mem_append.1 hx with hx | hx
    · rw [Maps.atKey_put_other (hne x hx)]; exact h.at' x hx z
    · simp at hx; subst hx; exact Maps.atKey_put_same hD (fkey_is x) _ _
theorem SaysF.size {w : World} {b n : Nat} (h : SaysF D fs) (ok : OkF fs) (ho : w.ownsMap Try.prog 59 rootE b n D) : Maps.size D = fs.length := by
  obtain ⟨es, rfl, hp, hk⟩ := ho.entries Try.keyedT
  rw [Maps.size_eq]
  have h1 : (es.map (·.1)).Nodup := by rw [List.nodup_iff_pairwise_ne]; exact List.pairwise_map.2 hp
  have h2 : (fs.map fkey).Nodup := by
    rw [List.nodup_iff_pairwise_ne]
    refine List.pairwise_map.2 (List.Pairwise.imp_of_mem (fun {x y} hx hy hxy hk => hxy ?_) ok.un)
    exact (fkey_eq ok hx (ok.iw hy) (ok.ie hy)).1 hk
  have h3 : ∀ kl, kl ∈ es.map (·.1) ↔ kl ∈ fs.map fkey := fun kl => by
    have h4 := h.dom kl
    rw [Maps.has_eq, List.any_eq_true] at h4
    rw [List.mem_map, List.mem_map, ← h4]
    constructor
    · rintro ⟨p, hp, rfl⟩; exact ⟨p, hp, WideAt.sameKey_self (hk p hp)⟩
    · rintro ⟨p, hp, hs⟩; exact ⟨p, hp, WideAt.sameKey_eq hs⟩
  have h5 := ((List.perm_ext_iff_of_nodup h1 h2).2 h3).length_eq
  simpa using h5
theorem own_tight {w : World} {b n : Nat} (ho : w.ownsMap Try.prog 59 rootE b n D) : w.ownsMap Try.prog 59 rootE b (Maps.size D) D := by
  obtain ⟨es, clock, hb, F, hs, rfl⟩ := ho
  exact ⟨es, clock, hb, F, by rw [Maps.size_eq, length_sorted]; simp, rfl⟩

/-- A map on the way: of those that stay, and of those that are still to come. -/
structure Half (D : DataW Unit) (fs : List Fs) (p : Fs → Bool) (left : Lit → Bool) : Prop where
  sub : ∀ kl, left kl = true → ∃ f ∈ fs, fkey f = kl
  dom : ∀ kl, Maps.has D kl = true ↔ ∃ f ∈ fs, fkey f = kl ∧ (left kl = true ∨ p f = true)
  at' : ∀ f ∈ fs, Maps.has D (fkey f) = true → ∀ z, D.atKey (fkey f) z = .lit (.string f.g)
variable {p : Fs → Bool} {left : Lit → Bool}
theorem SaysF.half (h : SaysF D fs) (p : Fs → Bool) : Half D fs p (Maps.has D) :=
  ⟨fun kl hk => (h.dom kl).1 hk, fun kl => ⟨fun hk => by obtain ⟨f, hf, e⟩ := (h.dom kl).1 hk; exact ⟨f, hf, e, .inl hk⟩, fun ⟨f, hf, e, _⟩ => (h.dom kl).2 ⟨f, hf, e⟩⟩, fun f hf _ => h.at' f hf⟩
theorem same_self (f : Fs) : (fkey f).sameKey (fkey f) = true := WideAt.sameKey_self (fkey_is f)
theorem Half.keep (h : Half D fs p left) (ok : OkF fs) {f : Fs} (hf : f ∈ fs) (hp : p f = true) : Half D fs p (fun z => left z && !z.sameKey (fkey f)) := by
  refine ⟨fun kl hk => h.sub kl (by simp at hk; exact hk.1), fun kl => (h.dom kl).trans ⟨?_, ?_⟩, h.at'⟩
  · rintro ⟨x, hx, e, hy⟩
    refine ⟨x, hx, e, ?_⟩
    by_cases e2 : kl = fkey f
    · right
      rw [ok.one hx hf (e.trans e2)]; exact hp
    · rcases hy with hy | hy
      · left; rw [hy, Maps.sameKey_ne e2]; rfl
      · exact .inr hy
  · rintro ⟨x, hx, e, hy⟩
    refine ⟨x, hx, e, hy.imp (fun hy => ?_) id⟩
    simp at hy; exact hy.1
theorem Half.drop (h : Half D fs p left) (ok : OkF fs) {f : Fs} (hf : f ∈ fs) (hp : p f = false) : Half (D.del (fkey f)) fs p (fun z => left z && !z.sameKey (fkey f)) := by
  refine ⟨fun kl hk => h.sub kl (by simp at hk; exact hk.1), fun kl => ?_, fun x hx hh z => ?_⟩
  · by_cases e2 : kl = fkey f
    · subst e2
      rw [Maps.has_del_same]
      constructor
      · intro hx; cases hx
      · rintro ⟨x, hx, e, hy⟩
        rw [ok.one hx hf e, hp, same_self] at hy
        simp at hy
    · rw [Maps.has_del_other e2, h.dom]
      constructor
      · rintro ⟨x, hx, e, hy⟩
        refine ⟨x, hx, e, hy.imp (fun hy => ?_) id⟩
        rw [hy, Maps.sameKey_ne e2]; rfl
      · rintro ⟨x, hx, e, hy⟩
        refine ⟨x, hx, e, hy.imp (fun hy => ?_) id⟩
        simp at hy; exact hy.1
  · have e2 : fkey x ≠ fkey f := fun e2 => by rw [e2, Maps.has_del_same] at hh; cases hh
    rw [Maps.has_del_other e2] at hh
    rw [Maps.atKey_del_other e2]
    exact h.at' x hx hh z
theorem Half.fin (h : Half D fs p left) (hl : ∀ kl, left kl = false) : SaysF D (fs.filter p) := by
  refine ⟨fun kl => (h.dom kl).trans ⟨?_, ?_⟩, fun f hf z => ?_⟩
  · rintro ⟨x, hx, e, hy⟩
    rw [hl] at hy
    exact ⟨x, List.mem_filter.2 ⟨hx, by simpa using hy⟩, e⟩
  · rintro ⟨x, hx, e⟩
    obtain ⟨h1, h2⟩ := List.mem_filter.1 hx
    exact ⟨x, h1, e, .inr h2⟩
  · obtain ⟨h1, h2⟩ := List.mem_filter.1 hf
    exact h.at' f h1 ((h.dom _).2 ⟨f, h1, rfl, .inr h2⟩) z
theorem OkF.filter (ok : OkF fs) (p : Fs → Bool) : OkF (fs.filter p) :=
  ⟨fun f hf => ok.g f (List.mem_filter.1 hf).1, fun f hf => ok.w f (List.mem_filter.1 hf).1, fun f hf => ok.e f (List.mem_filter.1 hf).1, ok.un.filter p⟩
end
end Go.Proofs.Ytoinigcfcjllcaa

/-
  Tables in memory: votes as cells, the program's table, the document's.
-/
namespace Go.Proofs.Ytoinigcfcjllcaa
open Go.RowKit Go.WideMaps
set_option maxRecDepth 10000

/-! Rows of so many cells each. -/
def rowsOf (n : Nat) (f : Nat → List Value) : List Value := (List.range n).flatMap f
theorem rowsOf_succ (n : Nat) (f : Nat → List Value) : rowsOf (n + 1) f = rowsOf n f ++ f n := by simp [rowsOf, List.range_succ]
theorem rowsOf_length {k : Nat} {f : Nat → List Value} (hf : ∀ i, (f i).length = k) : ∀ n, (rowsOf n f).length = n * k
  | 0 => by simp [rowsOf]
  | n + 1 => by rw [rowsOf_succ, List.length_append, rowsOf_length hf n, hf n, Nat.succ_mul]
theorem idx_lt {n k i j : Nat} (hi : i < n) (hj : j < k) : i * k + j < n * k :=
  Nat.lt_of_lt_of_le (show i * k + j < (i + 1) * k by rw [Nat.succ_mul]; omega) (Nat.mul_le_mul_right k hi)
theorem idx_eq {k i j p q : Nat} (hj : j < k) (hq : q < k) (h : i * k + j = p * k + q) : i = p ∧ j = q := by
  rcases Nat.lt_trichotomy i p with h1 | h1 | h1
  · have := idx_lt h1 hj; omega
  · subst h1; omega
  · have := idx_lt h1 hq; omega
theorem rowsOf_at {k : Nat} {f : Nat → List Value} (hf : ∀ i, (f i).length = k) : ∀ {n i j : Nat}, i < n → j < k → (rowsOf n f)[i * k + j]? = (f i)[j]?
  | n + 1, i, j, hi, hj => by
    rw [rowsOf_succ]
    by_cases h : i < n
    · rw [List.getElem?_append_left (by rw [rowsOf_length hf]; exact idx_lt h hj)]
      exact rowsOf_at hf h hj
    · obtain rfl : i = n := by omega
      rw [List.getElem?_append_right (by rw [rowsOf_length hf]; omega), rowsOf_length hf, Nat.add_sub_cancel_left]
theorem rowsOf_eq {n k : Nat} {f : Nat → List Value} (hf : ∀ i, (f i).length = k) {xs : List Value} (hl : xs.length = n * k) (h : ∀ i j, i < n → j < k → xs[i * k + j]? = (f i)[j]?) : xs = rowsOf n f := by
  apply List.ext_getElem?
  intro q
  by_cases hq : q < n * k
  · have hk : 0 < k := by
      rcases Nat.eq_zero_or_pos k with h0 | h0
      · subst h0; omega
      · exact h0
    have hi : q / k < n := (Nat.div_lt_iff_lt_mul hk).2 hq
    have hj := Nat.mod_lt q hk
    have e : q / k * k + q % k = q := by rw [Nat.mul_comm]; exact Nat.div_add_mod q k
    have h1 := h _ _ hi hj
    have h2 := rowsOf_at hf hi hj
    rw [e] at h1 h2
    rw [h1, h2]
  · rw [List.getElem?_eq_none (by omega), List.getElem?_eq_none (by rw [rowsOf_length hf]; omega)]
theorem splice_at {z cs : List Value} {off : Nat} (h : off + cs.length ≤ z.length) (q : Nat) : (splice z off cs)[q]? = if off ≤ q ∧ q < off + cs.length then cs[q - off]? else z[q]? := by
  unfold splice
  have hA : (z.take off).length = off := by rw [List.length_take]; omega
  by_cases h1 : q < off
  · rw [List.getElem?_append_left (by omega), if_neg (by omega), List.getElem?_take, if_pos h1]
  · rw [List.getElem?_append_right (by omega), hA]
    by_cases h2 : q < off + cs.length
    · rw [List.getElem?_append_left (by omega), if_pos (by omega)]
    · rw [List.getElem?_append_right (by omega), if_neg (by omega), List.getElem?_drop]
      congr 1; omega
theorem splice_length {z cs : List Value} {off : Nat} (h : off + cs.length ≤ z.length) : (splice z off cs).length = z.length := by simp [splice]; omega
theorem rowsOf_set {n k i j : Nat} {f f' : Nat → List Value} (hf : ∀ i, (f i).length = k) (hf' : ∀ i, (f' i).length = k) (hj : j < k) (v : Value) (h1 : f' i = (f i).set j v) (h2 : ∀ m, m ≠ i → f' m = f m) : (rowsOf n f).set (i * k + j) v = rowsOf n f' := by
  refine rowsOf_eq hf' (by rw [List.length_set, rowsOf_length hf]) fun p q hp hq => ?_
  have h3 := rowsOf_at hf hp hq
  by_cases e : i * k + j = p * k + q
  · obtain ⟨rfl, rfl⟩ := idx_eq hj hq e
    rw [List.getElem?_set_self (by rw [rowsOf_length hf]; exact idx_lt hp hj), h1, List.getElem?_set_self (by rw [hf]; exact hj)]
  · rw [List.getElem?_set_ne e, h3]
    by_cases e2 : p = i
    · subst e2
      rw [h1, List.getElem?_set_ne (by omega)]
    · rw [h2 p e2]
theorem rowsOf_splice {n k i o : Nat} {f f' : Nat → List Value} {cs : List Value} (hf : ∀ i, (f i).length = k) (hf' : ∀ i, (f' i).length = k) (hi : i < n) (ho : o + cs.length ≤ k) (h1 : f' i = splice (f i) o cs) (h2 : ∀ m, m ≠ i → f' m = f m) : splice (rowsOf n f) (i * k + o) cs = rowsOf n f' := by
  have hb : i * k + k ≤ n * k := by rw [← Nat.succ_mul]; exact Nat.mul_le_mul_right k hi
  have hl : i * k + o + cs.length ≤ (rowsOf n f).length := by rw [rowsOf_length hf]; omega
  refine rowsOf_eq hf' (by rw [splice_length hl, rowsOf_length hf]) fun p q hp hq => ?_
  have h3 := rowsOf_at hf hp hq
  rw [splice_at hl, h3]
  by_cases e2 : p = i
  · subst e2
    rw [h1, splice_at (by rw [hf]; exact ho)]
    by_cases e : o ≤ q ∧ q < o + cs.length
    · rw [if_pos (by omega), if_pos e]; congr 1; omega
    · rw [if_neg (by omega), if_neg e]
  · rw [h2 p e2, if_neg]
    intro hc
    obtain ⟨r, hr, er⟩ : ∃ r, r < k ∧ p * k + q = i * k + r := ⟨p * k + q - i * k, by omega, by omega⟩
    exact e2 (idx_eq hq hr er).1

/-! Votes. -/
def vcl (v : Vt) : List Value := .int .i64 v.w :: .int .i64 v.s :: bv v.g
theorem vcl_length {v : Vt} (h : v.g.length = 32) : (vcl v).length = 34 := by simp [vcl, bv_length, h]
theorem vcl_one (v : Vt) : ∀ x ∈ vcl v, x.oneCell' = true := by
  intro x hx
  simp only [vcl, List.mem_cons] at hx
  rcases hx with rfl | rfl | h
  · rfl
  · rfl
  · exact bv_one _ x h
theorem vcl_inj {v u : Vt} (h : vcl v = vcl u) : v = u := by
  obtain ⟨a, b, c⟩ := v
  obtain ⟨a', b', c'⟩ := u
  simp only [vcl, List.cons.injEq, Value.int.injEq, true_and] at h
  rw [h.1, h.2.1, bv_inj h.2.2]
theorem vt0_len : vt0.g.length = 32 := by simp [vt0]
theorem vcl_name {v : Vt} {j : Nat} {x : Value} (hj : (bv v.g)[j]? = some x) : (vcl v)[2 + j]? = some x := by
  rw [show 2 + j = j + 1 + 1 by omega]; simpa [vcl] using hj

structure FitT (t : Tb) : Prop where
  gd : GoodB t
  lg : ∀ v ∈ t.lt, v.g.length = 32 ∧ 0 ≤ v.s ∧ v.s ≤ 1073741824
  fs : OkF t.fs
def ltN (t : Tb) (i : Nat) : Vt := t.lt[i]?.getD vt0
def hsN (t : Tb) (i : Nat) : Bool := t.hs[i]?.getD false
def otN (t : Tb) (i : Nat) : Bool := t.ot[i]?.getD false
theorem FitT.l {t : Tb} (h : FitT t) (i : Nat) : (ltN t i).g.length = 32 ∧ 0 ≤ (ltN t i).s ∧ (ltN t i).s ≤ 1073741824 := by
  unfold ltN
  cases hx : t.lt[i]? with
  | none => exact ⟨vt0_len, by simp [vt0], by simp [vt0]⟩
  | some v => exact h.lg v (List.mem_of_getElem? hx)
theorem ep_range {k : Nat} (hk : 1 ≤ k) {s : Int} (h0 : 0 ≤ s) (h1 : s ≤ 1073741824) : 0 ≤ ep k s ∧ ep k s ≤ 1073741824 := by
  refine ⟨ep_nonneg k h0, ?_⟩
  unfold ep
  have := Int.tdiv_mul_add_tmod s (k : Int)
  have h2 := Int.tmod_nonneg (k : Int) h0
  have h3 : 0 ≤ s.tdiv (k : Int) := Int.tdiv_nonneg h0 (by omega)
  have h4 : s.tdiv (k : Int) * 1 ≤ s.tdiv (k : Int) * (k : Int) := Int.mul_le_mul_of_nonneg_left (by omega) h3
  omega
theorem FitT.add {t : Tb} (h : FitT t) {v : Vt} (hv : v.g.length = 32) (hok : okV t v) (hn : fstT t.fs v.w (ep t.k v.s) = none) : FitT (addF t v) := by
  have h1 := ep_range h.gd.k1 hok.2.2.1 hok.2.2.2
  refine ⟨⟨h.gd.ln, h.gd.hn, h.gd.on, h.gd.n1, h.gd.n2, h.gd.k1, h.gd.k2⟩, h.lg, ?_⟩
  have := h.gd.n2
  have := hok.2.1
  exact h.fs.snoc (f := ⟨v.w, ep t.k v.s, v.g⟩) hn hv ⟨hok.1, by show v.w < 64; omega⟩ h1
theorem FitT.setL {t : Tb} (h : FitT t) {v : Vt} (hv : v.g.length = 32) (hok : okV t v) : FitT (setL t v) := by
  refine ⟨⟨by simp [Go.Proofs.Ytoinigcfcjllcaa.setL]; exact h.gd.ln, by simp [Go.Proofs.Ytoinigcfcjllcaa.setL]; exact h.gd.hn, h.gd.on, h.gd.n1, h.gd.n2, h.gd.k1, h.gd.k2⟩, fun x hx => ?_, h.fs⟩
  rcases mem_set_or hx with rfl | ⟨j, _, hx⟩
  · exact ⟨hv, hok.2.2.1, hok.2.2.2⟩
  · exact h.lg x (List.mem_of_getElem? hx)
theorem FitT.setO {t : Tb} (h : FitT t) (w : Int) : FitT (setO t w) := ⟨⟨h.gd.ln, h.gd.hn, by simp [Go.Proofs.Ytoinigcfcjllcaa.setO]; exact h.gd.on, h.gd.n1, h.gd.n2, h.gd.k1, h.gd.k2⟩, h.lg, h.fs⟩
theorem FitT.take {t : Tb} (h : FitT t) {v : Vt} (hv : v.g.length = 32) : FitT (takeT t v).2 := by
  rcases takeT_cases t v with ⟨_, e⟩ | ⟨_, _, e⟩ | ⟨_, _, _, _, _, e⟩ | ⟨_, _, _, _, _, e⟩ | ⟨o, _, q, _, _, e⟩ | ⟨o, _, q, _, e⟩ <;> rw [e]
  · exact h
  · exact h
  · exact h
  · exact h.setO _
  · exact h.add hv o q
  · exact (h.add hv o q).setL hv o
theorem FitT.forget {t : Tb} (h : FitT t) (s : Int) : FitT (forgetT t s) := ⟨forgetT_good h.gd s, h.lg, h.fs.filter _⟩
theorem FitT.new {n k : Nat} (h1 : 1 ≤ n) (h2 : n ≤ 64) (h3 : 1 ≤ k) (h4 : k ≤ 32) : FitT (newT n k) :=
  ⟨GoodB.new h1 h2 h3 h4, fun v hv => by simp [newT] at hv; rw [hv.2]; exact ⟨vt0_len, by simp [vt0], by simp [vt0]⟩, .nil0⟩

/-! The program's table. -/
def vrow (t : Tb) (i : Nat) : List Value := vcl (ltN t i) ++ [.bool (hsN t i), .bool (otN t i)]
theorem FitT.vrow {t : Tb} (h : FitT t) (i : Nat) : (vrow t i).length = 36 := by simp [Go.Proofs.Ytoinigcfcjllcaa.vrow, vcl_length (h.l i).1]
structure TP (w : World) (b m g : Nat) (t : Tb) : Prop where
  fit : FitT t
  blk : Blk w b 57 [.int .i64 (t.k : Int), .slice (some ⟨g, 0, none⟩) t.n t.n, .map (some m)]
  vot : Blk w g 62 (rowsOf t.n (vrow t))
  map : ∃ D, w.ownsMap Try.prog 59 rootE m t.fs.length D ∧ SaysF D t.fs
  ne : b ≠ g ∧ b ≠ m ∧ g ≠ m
theorem own_kept {w w' : World} {F : List Nat} {m n : Nat} {D : DataW Unit} (h : w.ownsMap Try.prog 59 rootE m n D) (hk : Kept F w w') (hm : m ∉ F) : w'.ownsMap Try.prog 59 rootE m n D := by
  have hlt := h.lt
  obtain ⟨es, clock, hb, Fi, hs, hDD⟩ := h
  exact ⟨es, clock, (hk.block m hlt hm).trans hb, Fi, hs, hDD⟩
section
variable {w w' : World} {b m g : Nat} {t : Tb} {F : List Nat}
theorem TP.keep (h : TP w b m g t) (hk : Kept F w w') (hF : Away [b, m, g] F) : TP w' b m g t := by
  obtain ⟨D, hD, hS⟩ := h.map
  exact ⟨h.fit, h.blk.kept hk (hF b (by simp)), h.vot.kept hk (hF g (by simp)), ⟨D, own_kept hD hk (hF m (by simp)), hS⟩, h.ne⟩
theorem TP.below (h : TP w b m g t) (hb : Below w.heap.size w w') : TP w' b m g t := h.keep (Kept.of_below [] hb) (fun _ _ hx => by cases hx)
theorem TP.low (h : TP w b m g t) : Low w [b, m, g] := fun x hx => by
  obtain ⟨D, hD, hS⟩ := h.map
  simp only [List.mem_cons, List.not_mem_nil, or_false] at hx
  rcases hx with rfl | rfl | rfl
  · exact h.blk.lt
  · exact hD.lt
  · exact h.vot.lt
theorem TP.cell0 (h : TP w b m g t) : w.cell? ⟨b, 0, none⟩ = some (.int .i64 (t.k : Int)) := h.blk.cell 0
theorem TP.cell1 (h : TP w b m g t) : w.cell? ⟨b, 1, none⟩ = some (.slice (some ⟨g, 0, none⟩) t.n t.n) := h.blk.cell 1
theorem TP.cell2 (h : TP w b m g t) : w.cell? ⟨b, 2, none⟩ = some (.map (some m)) := h.blk.cell 2
theorem TP.rowcell (h : TP w b m g t) {i : Nat} (hi : i < t.n) {j : Nat} (hj : j < 36) : w.cell? ⟨g, i * 36 + j, none⟩ = (vrow t i)[j]? := by rw [h.vot.cell, rowsOf_at h.fit.vrow hi hj]
theorem TP.last (h : TP w b m g t) {i : Nat} (hi : i < t.n) : ∀ j v, (vcl (ltN t i))[j]? = some v → w.cell? ⟨g, i * 36 + j, none⟩ = some v := fun j v hj => by
  have hjl : j < 34 := by
    have := (List.getElem?_eq_some_iff.1 hj).1
    rwa [vcl_length (h.fit.l i).1] at this
  rw [h.rowcell hi (by omega), vrow, List.getElem?_append_left (by rw [vcl_length (h.fit.l i).1]; exact hjl)]
  exact hj
theorem TP.slot (h : TP w b m g t) {i : Nat} (hi : i < t.n) : w.cell? ⟨g, i * 36 + 1, none⟩ = some (.int .i64 (ltN t i).s) := h.last hi 1 _ rfl
theorem TP.voted (h : TP w b m g t) {i : Nat} (hi : i < t.n) : w.cell? ⟨g, i * 36 + 34, none⟩ = some (.bool (hsN t i)) := by
  rw [h.rowcell hi (by omega), vrow, List.getElem?_append_right (by rw [vcl_length (h.fit.l i).1]; omega), vcl_length (h.fit.l i).1]; rfl
theorem TP.out (h : TP w b m g t) {i : Nat} (hi : i < t.n) : w.cell? ⟨g, i * 36 + 35, none⟩ = some (.bool (otN t i)) := by
  rw [h.rowcell hi (by omega), vrow, List.getElem?_append_right (by rw [vcl_length (h.fit.l i).1]; omega), vcl_length (h.fit.l i).1]; rfl
theorem TP.look (h : TP w b m g t) {a e : Int} (ha : I6 a) (he : I6 e) :
    (Instr.lookup 55 (.map (some m)) (tmv a e) true).run Try.prog w = .ok (.tuple #[.agg (bv (match fstT t.fs a e with | some f => f.g | none => zero32)).toArray, .bool (fstT t.fs a e).isSome]) w := by
  obtain ⟨D, hD, hS⟩ := h.map
  obtain ⟨v, ps, hrun, hv⟩ := hD.look_ok Try.keyedT Try.underlying55 (Try.zeroRoot w) (rootE_mk (r := zero32) (by simp [zero32])) (key_term ha he)
  obtain ⟨r, hr, rfl, hz⟩ := rootE_inv hv
  rw [hrun, hS.look h.fit.fs ha he]
  simp only [Prod.mk.injEq] at hz
  cases hf : fstT t.fs a e with
  | none =>
    have hh := hS.look h.fit.fs ha he
    rw [hf] at hh
    rw [Go.Maps.atKey_of_not_has (by simpa using hh)] at hz
    have h1 := hz.1
    simp only [DataW.lit.injEq, Lit.string.injEq] at h1
    rw [← h1]
  | some f =>
    rw [hS.at hf] at hz
    have h1 := hz.1
    simp only [DataW.lit.injEq, Lit.string.injEq] at h1
    rw [← h1]
end
end Go.Proofs.Ytoinigcfcjllcaa

/-
  Votes (api.Vote): out of memory, into it, built, held against each other, handed back.
-/
namespace Go.Proofs.Ytoinigcfcjllcaa
open Go Go.RowKit
set_option maxRecDepth 10000

theorem Try.sizeVote : (Try.prog.info? 29).map (·.size) = some 34 := by kernel_rfl
theorem Try.aggVote (w : World) : (isAgg 29).run Try.prog w = .ok true w := by
  unfold isAgg
  rw [Sem.run_bind, run_underlying Try.underlying29 w]
  rfl
theorem vsize {v : Vt} (h : v.g.length = 32) : (Try.prog.info? 29).map (·.size) = some (vcl v).length := by rw [vcl_length h]; exact Try.sizeVote
theorem Try.infoVote : (Try.prog.info? 29).map (fun i => (i.zero, i.size, i.bytes)) = some (some (.agg (vcl vt0).toArray), 34, 48) := by kernel_rfl
theorem run_load_vote {w : World} {g off : Nat} {v : Vt} (hl : v.g.length = 32) (hc : ∀ j x, (vcl v)[j]? = some x → w.cell? ⟨g, off + j, none⟩ = some x) :
    (Instr.loadAt 29 (.pointer (some ⟨g, off, none⟩))).run Try.prog w = .ok (.agg (vcl v).toArray) w := run_loadAt_agg hc 29 Try.aggVote (vsize hl)
theorem Blk.voteAll {w : World} {g : Nat} {ty : TypeId} {v : Vt} (h : Blk w g ty (vcl v)) : ∀ j x, (vcl v)[j]? = some x → w.cell? ⟨g, 0 + j, none⟩ = some x := fun j x hj => by rw [Nat.zero_add, h.cell j]; exact hj
theorem Blk.voteName {w : World} {g : Nat} {ty : TypeId} {v : Vt} (h : Blk w g ty (vcl v)) : ∀ j x, (bv v.g)[j]? = some x → w.cell? ⟨g, 2 + j, none⟩ = some x := fun j x hj => by rw [h.cell]; exact vcl_name hj
theorem run_store_vote {w : World} {g off : Nat} {ty : TypeId} {vs : List Value} {v : Vt} (hg : Blk w g ty vs) (hl : v.g.length = 32) (hf : off + 34 ≤ vs.length) :
    (Instr.storeAt 29 (.pointer (some ⟨g, off, none⟩)) (.agg (vcl v).toArray)).run Try.prog w = .ok () (w.setRow g (splice vs off (vcl v)).toArray) :=
  run_storeAt_part hg 29 (vsize hl) (by rw [vcl_length hl]; exact hf) (vcl_one v)
section
variable {ops : Array Oper} {rest : List Oper} {o : Oper} {a : Act} {w : World} {Q : Exit → Act → World → Prop}
theorem wpList_load_vote (y : Operand) (ho : o.op = .load 29 y) (hgd : Region.wanted o (yielded ops a.tmps) = true)
    (g off : Nat) (v : Vt) (hx : a.eval y = .pointer (some ⟨g, off, none⟩)) (hl : v.g.length = 32) (hc : ∀ j x, (vcl v)[j]? = some x → w.cell? ⟨g, off + j, none⟩ = some x)
    (h : wpList Try.prog ops Q rest (a.put o.dst (.agg (vcl v).toArray)) w) : wpList Try.prog ops Q (o :: rest) a w := by
  refine wpList_step fun K hK => ?_
  rw [if_pos hgd]
  unfold Oper.wp execOp
  simp only [ho, hx, Sem.run_bind, run_load_vote hl hc, Result.andThen_ok]
  exact hK _ _ h
/-- A vote into a block, at a place. -/
theorem wpList_store_votePart (x y : Operand) (ho : o.op = .store 29 x y) (hgd : o.guard = none)
    (g off : Nat) (ty : TypeId) (vs vs' : List Value) (v : Vt) (hx : a.eval x = .pointer (some ⟨g, off, none⟩)) (hy : a.eval y = .agg (vcl v).toArray) (hg : Blk w g ty vs) (hl : v.g.length = 32) (hf : off + 34 ≤ vs.length) (he : splice vs off (vcl v) = vs')
    (h : wpList Try.prog ops Q rest (a.put o.dst undef) (w.setRow g vs'.toArray)) : wpList Try.prog ops Q (o :: rest) a w := by
  subst he
  exact wpList_store_part hgd 29 x y ho g off (vcl v) hx hy ty vs hg (vsize hl) (by rw [vcl_length hl]; exact hf) (vcl_one v) h
/-- A vote into a block that holds one. -/
theorem wpList_store_vote (x y : Operand) (ho : o.op = .store 29 x y) (hgd : o.guard = none)
    (g : Nat) (v v' : Vt) (hx : a.eval x = .pointer (some ⟨g, 0, none⟩)) (hy : a.eval y = .agg (vcl v').toArray) (hg : Blk w g 29 (vcl v)) (hl : v.g.length = 32) (hl' : v'.g.length = 32)
    (h : wpList Try.prog ops Q rest (a.put o.dst undef) (w.setRow g (vcl v').toArray)) : wpList Try.prog ops Q (o :: rest) a w :=
  wpList_store_votePart x y ho hgd g 0 _ (vcl v) (vcl v') v' hx hy hg hl' (by rw [vcl_length hl]; omega) (splice_all _ _ (by rw [vcl_length hl, vcl_length hl'])) h
end
theorem execs_store {P : Program} {o : Oper} {a : Act} {w w' : World} {ty : TypeId} {x y : Operand} {p v : Value} (ho : o.op = .store ty x y) (hx : a.eval x = p) (hy : a.eval y = v) (hr : (Instr.storeAt ty p v).run P w = .ok () w') : (execOp a.eval o).run P w = .ok .skip w' := by
  unfold execOp
  simp only [ho, hx, hy, Sem.run_bind, hr, Result.andThen_ok]
  rfl

/-! Built. -/
def vplace : Array (Nat × Nat) := #[(0, 1), (1, 1), (2, 32)]
theorem vote_parts0 : Try.prog.built 29 = fun parts => Go.Instr.fill (fun x => vplace[x]?) (vcl vt0).toArray parts := by kernel_rfl
theorem vset0 (a b x : Int) (r : List UInt8) : (vcl ⟨a, b, r⟩).set 0 (.int .i64 x) = vcl ⟨x, b, r⟩ := rfl
theorem vset1 (a b x : Int) (r : List UInt8) : (vcl ⟨a, b, r⟩).set 1 (.int .i64 x) = vcl ⟨a, x, r⟩ := rfl
theorem vset2 (a b : Int) (r q : List UInt8) (hr : r.length = 32) (hq : q.length = 32) : splice (vcl ⟨a, b, r⟩) 2 (Value.agg (bv q).toArray).cells.toList = vcl ⟨a, b, q⟩ := by
  rw [show (Value.agg (bv q).toArray).cells.toList = bv q by simp [Value.cells]]
  simp only [splice, vcl, List.take_succ_cons, List.take_zero, bv_length, hq, List.drop_succ_cons]
  rw [List.drop_of_length_le (show (bv r).length ≤ 2 + 30 by rw [bv_length, hr]; omega)]
  simp
theorem fillV0 (a b x : Int) (r : List UInt8) (hr : r.length = 32) (rest : List (Nat × Value)) : Go.Instr.fill (fun x => vplace[x]?) (vcl ⟨a, b, r⟩).toArray ((0, .int .i64 x) :: rest) = Go.Instr.fill (fun x => vplace[x]?) (vcl ⟨x, b, r⟩).toArray rest := by
  rw [fill_step (place := fun x => vplace[x]?) (z := vcl ⟨a, b, r⟩) (j := 0) (off := 0) (size := 1) rfl rfl (by rw [vcl_length hr]; omega), show (Value.int .i64 x).cells.toList = [.int .i64 x] from rfl, splice_one _ _ _ (by rw [vcl_length hr]; omega), vset0]
theorem fillV1 (a b x : Int) (r : List UInt8) (hr : r.length = 32) (rest : List (Nat × Value)) : Go.Instr.fill (fun x => vplace[x]?) (vcl ⟨a, b, r⟩).toArray ((1, .int .i64 x) :: rest) = Go.Instr.fill (fun x => vplace[x]?) (vcl ⟨a, x, r⟩).toArray rest := by
  rw [fill_step (place := fun x => vplace[x]?) (z := vcl ⟨a, b, r⟩) (j := 1) (off := 1) (size := 1) rfl rfl (by rw [vcl_length hr]; omega), show (Value.int .i64 x).cells.toList = [.int .i64 x] from rfl, splice_one _ _ _ (by rw [vcl_length hr]; omega), vset1]
theorem fillV2 (a b : Int) (r q : List UInt8) (hr : r.length = 32) (hq : q.length = 32) (rest : List (Nat × Value)) : Go.Instr.fill (fun x => vplace[x]?) (vcl ⟨a, b, r⟩).toArray ((2, .agg (bv q).toArray) :: rest) = Go.Instr.fill (fun x => vplace[x]?) (vcl ⟨a, b, q⟩).toArray rest := by
  rw [fill_step (place := fun x => vplace[x]?) (z := vcl ⟨a, b, r⟩) (j := 2) (off := 2) (size := 32) rfl (by simp [Value.cells, bv_length, hq]) (by rw [vcl_length hr]; omega), vset2 _ _ _ _ hr hq]
theorem built_vt (a b : Int) (r : List UInt8) (hr : r.length = 32) : Try.prog.built 29 [(0, .int .i64 a), (1, .int .i64 b), (2, .agg (bv r).toArray)] = some (vcl ⟨a, b, r⟩).toArray := by
  rw [vote_parts0]
  exact (fillV0 0 0 a vt0.g vt0_len _).trans ((fillV1 a 0 b vt0.g vt0_len _).trans (fillV2 a b vt0.g r vt0_len hr []))
theorem built_vt0 : Try.prog.built 29 [] = some (vcl vt0).toArray := by rw [vote_parts0]; rfl
theorem built_vtW (a : Int) (r : List UInt8) (hr : r.length = 32) : Try.prog.built 29 [(0, .int .i64 a), (2, .agg (bv r).toArray)] = some (vcl ⟨a, 0, r⟩).toArray := by
  rw [vote_parts0]
  exact (fillV0 0 0 a vt0.g vt0_len _).trans (fillV2 a 0 vt0.g r vt0_len hr [])
theorem built_vtS (b : Int) (r : List UInt8) (hr : r.length = 32) : Try.prog.built 29 [(1, .int .i64 b), (2, .agg (bv r).toArray)] = some (vcl ⟨0, b, r⟩).toArray := by
  rw [vote_parts0]
  exact (fillV1 0 0 b vt0.g vt0_len _).trans (fillV2 0 b vt0.g r vt0_len hr [])

/-! Held against each other. -/
theorem Try.fieldsVote : Try.prog.underlying 29 = some (.struct (Try.prog.fieldsOf 29)) := by kernel_rfl
theorem Try.heldVote : Try.prog.stoodInHeld 29 = false := by kernel_rfl
theorem vpart_name (x : Vt) (hx : x.g.length = 32) (w : World) : (part 27 (vcl x).toArray 2).run Try.prog w = .ok (.agg (bv x.g).toArray) w := by
  have hs : (sizeOf 27).run Try.prog w = .ok 32 w := by
    have hz := Try.sizeRoot
    cases hq : Try.prog.info? 27 with
    | none => rw [hq] at hz; cases hz
    | some i => rw [hq] at hz; simp at hz; simp [sizeOf, typeInfo, hq, hz]
  simp only [part, Sem.run_bind, Try.aggRoot, Result.andThen_ok, if_true, hs]
  have hb : (bv x.g).length = 32 := by rw [bv_length, hx]
  simp [vcl]
  exact List.take_of_length_le (by omega)
theorem vt_eq (w : World) (x y : Vt) (hx : x.g.length = 32) (hy : y.g.length = 32) :
    (Op.equalIn 10000 29 (.agg (vcl x).toArray) (.agg (vcl y).toArray)).run Try.prog w = .ok ((x.w == y.w) && (x.s == y.s) && (x.g == y.g)) w := by
  rw [run_equalIn_struct w 9999 29 _ _ Try.fieldsVote Try.heldVote]
  have p1 : ∀ z : Vt, (part 3 (vcl z).toArray 0).run Try.prog w = .ok (.int .i64 z.w) w := fun z => by simp [part, isAgg, run_underlying Try.underlying3, vcl]
  have p2 : ∀ z : Vt, (part 3 (vcl z).toArray 1).run Try.prog w = .ok (.int .i64 z.s) w := fun z => by simp [part, isAgg, run_underlying Try.underlying3, vcl]
  have e1 : (Op.equalIn 9999 3 (.int .i64 x.w) (.int .i64 y.w)).run Try.prog w = .ok (x.w == y.w) w := run_equalIn_int (P := Try.prog) w 9998 3 .i64 .i64 x.w y.w Try.underlying3
  have e2 : (Op.equalIn 9999 3 (.int .i64 x.s) (.int .i64 y.s)).run Try.prog w = .ok (x.s == y.s) w := run_equalIn_int (P := Try.prog) w 9998 3 .i64 .i64 x.s y.s Try.underlying3
  have e3 : (Op.equalIn 9999 27 (.agg (bv x.g).toArray) (.agg (bv y.g).toArray)).run Try.prog w = .ok (x.g == y.g) w := root_eqT w x.g y.g hx hy
  simp only [Program.fieldsOf, Try.underlying29, Op.eqFields]
  rw [if_pos (by decide), if_pos (by decide), if_pos (by decide)]
  simp only [Sem.run_bind, p1 x, p1 y, e1, Result.andThen_ok]
  cases h1 : (x.w == y.w) with
  | false => simp
  | true =>
    simp only [Bool.not_true, Bool.false_eq_true, if_false, Sem.run_bind, p2 x, p2 y, e2, Result.andThen_ok, Bool.true_and]
    cases h2 : (x.s == y.s) with
    | false => simp
    | true =>
      simp only [Bool.not_true, Bool.false_eq_true, if_false, Sem.run_bind, vpart_name x hx, vpart_name y hy, e3, Result.andThen_ok, Bool.true_and]
      cases h3 : (x.g == y.g) <;> simp
def eqV (x y : Vt) : Bool := (x.w == y.w) && (x.s == y.s) && (x.g == y.g)
theorem eqV_iff {x y : Vt} : eqV x y = true ↔ x = y := by
  obtain ⟨a, b, c⟩ := x
  obtain ⟨a', b', c'⟩ := y
  simp [eqV, Vt.mk.injEq, and_assoc]
theorem eqV_self (x : Vt) : eqV x x = true := eqV_iff.2 rfl
theorem Try.eqGuardVote : Try.prog.eqGuardType Try.prog.depth 29 = false := by kernel_rfl
theorem run_neq_vt (w : World) (xo yo : Operand) (x y : Vt) (hx : x.g.length = 32) (hy : y.g.length = 32) :
    (do eqGuard .neq 29 xo yo (.agg (vcl x).toArray) (.agg (vcl y).toArray); binOp .neq 29 (.agg (vcl x).toArray) (.agg (vcl y).toArray)).run Try.prog w = .ok (.bool (!(eqV x y))) w := by
  simp only [Sem.run_bind, run_eqGuard_agg w .neq 29 xo yo _ _ Try.eqGuardVote, Result.andThen_ok, run_neq_struct, vt_eq w x y hx hy]
  rfl
theorem run_eql_vt (w : World) (xo yo : Operand) (x y : Vt) (hx : x.g.length = 32) (hy : y.g.length = 32) :
    (do eqGuard .eql 29 xo yo (.agg (vcl x).toArray) (.agg (vcl y).toArray); binOp .eql 29 (.agg (vcl x).toArray) (.agg (vcl y).toArray)).run Try.prog w = .ok (.bool (eqV x y)) w := by
  simp only [Sem.run_bind, run_eqGuard_agg w .eql 29 xo yo _ _ Try.eqGuardVote, Result.andThen_ok, run_eql_struct, vt_eq w x y hx hy]
  rfl
section
variable {ops : Array Oper} {rest : List Oper} {o : Oper} {a : Act} {w : World} {Q : Exit → Act → World → Prop}
theorem wpList_neq_vt (xo yo : Operand) (ty : TypeId) (ho : o.op = .binOp .neq 29 xo yo ty) (hgd : Region.wanted o (yielded ops a.tmps) = true)
    (x y : Vt) (ex : a.eval xo = .agg (vcl x).toArray) (ey : a.eval yo = .agg (vcl y).toArray) (hx : x.g.length = 32) (hy : y.g.length = 32)
    (h : wpList Try.prog ops Q rest (a.put o.dst (.bool (!(eqV x y)))) w) : wpList Try.prog ops Q (o :: rest) a w := by
  refine wpList_step fun K hK => ?_
  rw [if_pos hgd]
  have hr := run_neq_vt w xo yo x y hx hy
  unfold Oper.wp execOp
  simp only [ho, ex, ey]
  rw [Sem.run_bind, hr]
  exact hK _ _ h
theorem wpList_eql_vt (xo yo : Operand) (ty : TypeId) (ho : o.op = .binOp .eql 29 xo yo ty) (hgd : Region.wanted o (yielded ops a.tmps) = true)
    (x y : Vt) (ex : a.eval xo = .agg (vcl x).toArray) (ey : a.eval yo = .agg (vcl y).toArray) (hx : x.g.length = 32) (hy : y.g.length = 32)
    (h : wpList Try.prog ops Q rest (a.put o.dst (.bool (eqV x y))) w) : wpList Try.prog ops Q (o :: rest) a w := by
  refine wpList_step fun K hK => ?_
  rw [if_pos hgd]
  have hr := run_eql_vt w xo yo x y hx hy
  unfold Oper.wp execOp
  simp only [ho, ex, ey]
  rw [Sem.run_bind, hr]
  exact hK _ _ h
end

/-! Handed back. -/
theorem ret_vote2 {fn : Func} {p u : Tmp} (h : fn.results = #[.cell p 29, .tmp u]) {a : Act} {w : World} {g : Nat} {n : Vt} (hp : a.tmps.getD p undef = .pointer (some ⟨g, 0, none⟩)) (hg : Blk w g 29 (vcl n)) (hl : n.g.length = 32) (hd : a.defers = [])
    {R : Ending → World → Prop} (hR : R (.returned (.tuple #[.agg (vcl n).toArray, a.tmps.getD u undef])) w) : bodyPost Try.prog fn R .ret a w := by
  refine bodyPost_ret ?_ hd hR
  rw [results_cell_tmp h, hp]
  have hlo := run_load_vote (w := w) (g := g) (off := 0) hl hg.voteAll
  simp only [Instr.loadAt, Instr.sureAddr, Sem.run_bind, Sem.run_pure, Result.andThen] at hlo
  simp only [asAddr, Sem.run_pure, Result.andThen_ok]
  rw [hlo]
  rfl
theorem ret_vote {fn : Func} {p : Tmp} (h : fn.results = #[.cell p 29]) {a : Act} {w : World} {g : Nat} {r : Vt} (hp : a.tmps.getD p undef = .pointer (some ⟨g, 0, none⟩)) (hg : Blk w g 29 (vcl r)) (hl : r.g.length = 32) (hd : a.defers = [])
    {R : Ending → World → Prop} (hR : R (.returned (.agg (vcl r).toArray)) w) : bodyPost Try.prog fn R .ret a w := by
  refine bodyPost_ret ?_ hd hR
  rw [results_cell h, hp]
  have hlo := run_load_vote (w := w) (g := g) (off := 0) hl hg.voteAll
  simp only [Instr.loadAt, Instr.sureAddr, Sem.run_bind, Sem.run_pure, Result.andThen] at hlo
  simp only [asAddr, Sem.run_pure, Result.andThen_ok]
  rw [hlo]
end Go.Proofs.Ytoinigcfcjllcaa

/-
  Votes compared in a region that draws its order.
-/
namespace Go.Proofs.Ytoinigcfcjllcaa
open Go Go.RowKit
theorem stepAt_neq_vt {ops : Array Oper} {o : Oper} {a : Act} {w : World} {R : Value → World → Prop} {d : Tmp} (hd : o.dst = some d) (hw : Region.wanted o (yielded ops a.tmps) = true) (hz : decide (d < a.tmps.size) = true) (xo yo : Operand) (ty : TypeId) (ho : o.op = .binOp .neq 29 xo yo ty)
    (x y : Vt) (ex : a.eval xo = .agg (vcl x).toArray) (ey : a.eval yo = .agg (vcl y).toArray) (hx : x.g.length = 32) (hy : y.g.length = 32) (h : R (.bool (!(eqV x y))) w) : stepAt Try.prog ops o a w R := by
  refine stepAt_value hd hw hz _ w ?_ h
  unfold execOp
  simp only [ho, ex, ey]
  rw [Sem.run_bind, run_neq_vt w xo yo x y hx hy]
  rfl
end Go.Proofs.Ytoinigcfcjllcaa
