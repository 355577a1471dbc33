/-
  Worlds that are as they were but for some blocks (F): for objects that a call makes and writes (a struct, its slices, its map), several of them side by side. It holds of every program.
-/
import Derived.Test.YtmchjmcdlapegaaWide
import Derived.Test.YtmchjmcdlapegaaBlk
namespace Go.Proofs.Ytmchjmcdlapegaa
open Go.RowKit

structure Kept (F : List Nat) (w w' : World) : Prop where
  os : w'.os = w.os
  tape : w'.tape = w.tape
  output : w'.output = w.output
  size : w.heap.size ≤ w'.heap.size
  block : ∀ k, k < w.heap.size → k ∉ F → w'.heap[k]? = w.heap[k]?
/-- What belongs to an object now belonged to it, or is new. -/
def NewF (w : World) (F F' : List Nat) : Prop := ∀ x ∈ F', x ∈ F ∨ w.heap.size ≤ x
def Low (w : World) (F : List Nat) : Prop := ∀ x ∈ F, x < w.heap.size
def High (B : Nat) (F : List Nat) : Prop := ∀ x ∈ F, B ≤ x
def Away (F G : List Nat) : Prop := ∀ x ∈ F, x ∉ G

theorem Kept.refl (F : List Nat) (w : World) : Kept F w w := ⟨rfl, rfl, rfl, Nat.le_refl _, fun _ _ _ => rfl⟩
theorem Kept.of_below {w w' : World} (F : List Nat) (h : Below w.heap.size w w') : Kept F w w' := ⟨h.os, h.tape, h.output, h.size, fun k hk _ => h.block k hk⟩
theorem Kept.of_grown {w w' : World} {row : Option Nat} (F : List Nat) (h : w.grownBy w' row) (hr : ∀ k, row = some k → k ∈ F) : Kept F w w' :=
  ⟨h.os, h.tape, h.output, h.size, fun k hk hF => h.block k hk fun e => hF (hr k e.symm)⟩
theorem Kept.drew {F : List Nat} {w w' : World} (h : Kept F w w') : Kept F w w'.drew := ⟨h.os, h.tape, h.output, h.size, h.block⟩
theorem Kept.drewN {F : List Nat} {w w' : World} (h : Kept F w w') (n : Nat) : Kept F w (w'.drewN n) := ⟨h.os, h.tape, h.output, h.size, h.block⟩
theorem Kept.mono {F F' : List Nat} {w w' : World} (h : Kept F w w') (hF : ∀ x ∈ F, x ∈ F') : Kept F' w w' := ⟨h.os, h.tape, h.output, h.size, fun k hk hk' => h.block k hk fun hm => hk' (hF k hm)⟩
theorem Kept.trans {F F' : List Nat} {a b c : World} (h : Kept F a b) (k : Kept F' b c) (hF : NewF a F F') : Kept F a c :=
  ⟨k.os.trans h.os, k.tape.trans h.tape, k.output.trans h.output, Nat.le_trans h.size k.size, fun i hi hn => (k.block i (Nat.lt_of_lt_of_le hi h.size) fun hm => by
    rcases hF i hm with h1 | h1
    · exact hn h1
    · omega).trans (h.block i hi hn)⟩
theorem NewF.refl (w : World) (F : List Nat) : NewF w F F := fun _ h => .inl h
theorem NewF.trans {a b : World} {F F' F'' : List Nat} (h : NewF a F F') (k : NewF b F' F'') (hs : a.heap.size ≤ b.heap.size) : NewF a F F'' := fun x hx => by
  rcases k x hx with h1 | h1
  · exact h x h1
  · exact .inr (Nat.le_trans hs h1)
theorem Kept.then {F : List Nat} {a b c : World} (h : Kept F a b) (k : Below b.heap.size b c) : Kept F a c := h.trans (Kept.of_below F k) (NewF.refl _ _)
theorem Kept.after {F : List Nat} {a b c : World} (h : Below a.heap.size a b) (k : Kept F b c) : Kept F a c := (Kept.of_below F h).trans k (NewF.refl _ _)
theorem Kept.alloc {F : List Nat} {a b : World} (h : Kept F a b) (o : Obj) : Kept F a (b.alloc o) := h.then ((Below.refl _ _).alloc (Nat.le_refl _) o)
theorem Kept.setCell {F : List Nat} {a b : World} (h : Kept F a b) (p : Addr) (v : Value) (hp : p.block ∈ F ∨ a.heap.size ≤ p.block) : Kept F a (b.setCell p v) :=
  ⟨h.os, h.tape, h.output, Nat.le_trans h.size (by simp [World.setCell]), fun k hk hn => (Below.heap_setCell b p v k (fun e => by
    rcases hp with hp | hp
    · exact hn (e ▸ hp)
    · omega)).trans (h.block k hk hn)⟩
theorem Kept.below {F : List Nat} {a b : World} (h : Kept F a b) {B : Nat} (hB : B ≤ a.heap.size) (hF : High B F) : Below B a b :=
  ⟨h.os, h.tape, h.output, h.size, fun k hk => h.block k (by omega) fun hm => by have := hF k hm; omega⟩
theorem High.new {F F' : List Nat} {w : World} {B : Nat} (h : High B F) (hn : NewF w F F') (hB : B ≤ w.heap.size) : High B F' := fun x hx => by
  rcases hn x hx with h1 | h1
  · exact h x h1
  · omega
theorem High.mono {F : List Nat} {B B' : Nat} (h : High B F) (hB : B' ≤ B) : High B' F := fun x hx => Nat.le_trans hB (h x hx)
/-- Two objects stay apart, whichever of the two grows. -/
theorem Away.new {F F' G : List Nat} {w : World} (h : Away F G) (hn : NewF w F F') (hG : Low w G) : Away F' G := fun x hx hxg => by
  rcases hn x hx with h1 | h1
  · exact h x h1 hxg
  · have := hG x hxg; omega
theorem Away.new' {F G G' : List Nat} {w : World} (h : Away F G) (hn : NewF w G G') (hF : Low w F) : Away F G' := fun x hx hxg => by
  rcases hn x hxg with h1 | h1
  · exact h x hx h1
  · have := hF x hx; omega
theorem Away.symm {F G : List Nat} (h : Away F G) : Away G F := fun x hx hxg => h x hxg hx
theorem Low.keep {F : List Nat} {w w' : World} (h : Low w F) (hs : w.heap.size ≤ w'.heap.size) : Low w' F := fun x hx => Nat.lt_of_lt_of_le (h x hx) hs
theorem Away.high {F G : List Nat} {w : World} (h : Low w F) (hG : High w.heap.size G) : Away F G := fun x hx hxg => by have := h x hx; have := hG x hxg; omega

theorem Wide.kept {k : Nat} {w w' : World} {base : Nat} {v : Value} {xs : List Value} {F : List Nat} (h : Wide k w base v xs) (hk : Kept F w w') (hF : ∀ j, v.ownBlock = some j → j ∉ F) : Wide k w' base v xs := by
  obtain ⟨n, cap, g, off, ao, rfl, h⟩ := h
  refine ⟨n, cap, g, off, ao, rfl, h.carry hk.size fun hc => ?_⟩
  refine hk.block g (h.lt hc) ?_
  exact hF g (by rw [h.addr hc]; rfl)
theorem Blk.kept {w w' : World} {g : Nat} {t : TypeId} {vs : List Value} {F : List Nat} (h : Blk w g t vs) (hk : Kept F w w') (hF : g ∉ F) : Blk w' g t vs := (hk.block g h.lt hF).trans h
theorem Wide.ownLt {k : Nat} {w : World} {base : Nat} {v : Value} {xs : List Value} (h : Wide k w base v xs) (hx : 0 < xs.length) : ∀ j, v.ownBlock = some j → j < w.heap.size := by
  obtain ⟨n, cap, g, off, ao, rfl, h⟩ := h
  intro j hj
  have hc : 0 < cap := by
    have h1 := h.len
    have h2 := h.le
    rcases Nat.eq_zero_or_pos n with hn | hn
    · rw [hn, Nat.zero_mul] at h1; omega
    · omega
  rw [h.addr hc] at hj
  simp [Value.ownBlock] at hj
  rw [← hj]
  exact h.lt hc
theorem below_dN {B : Nat} {a w : World} (h : Below B a w) (k : Nat) : Below B a (w.drewN k) := ⟨h.os, h.tape, h.output, h.size, h.block⟩
theorem below_row {B : Nat} {a w : World} (h : Below B a w) {g : Nat} (hg : B ≤ g) (cs : Array Value) : Below B a (w.setRow g cs) :=
  h.trans ⟨rfl, rfl, rfl, by simp [World.setRow], fun k hk => Go.setRow_other w g k cs (by omega)⟩
theorem Kept.setRow {F : List Nat} {a b : World} (h : Kept F a b) {g : Nat} (hg : g ∈ F ∨ a.heap.size ≤ g) (cs : Array Value) : Kept F a (b.setRow g cs) :=
  ⟨h.os, h.tape, h.output, Nat.le_trans h.size (by simp [World.setRow]), fun k hk hn => (Go.setRow_other b g k cs (fun e => by
    rcases hg with hg | hg
    · exact hn (e ▸ hg)
    · omega)).trans (h.block k hk hn)⟩
theorem wide_nil0 (k : Nat) (w : World) (base : Nat) : Wide k w base (.slice none 0 0) [] :=
  ⟨0, 0, 0, 0, none, rfl, by simp, Nat.le_refl _, Nat.zero_le _, fun h => absurd h (by omega), fun a' ha => (by cases ha), fun h => absurd h (by omega), fun j u h => by simp at h, fun j h => absurd h (by omega), fun j h => absurd h (by omega)⟩
def ownL (v : Value) : List Nat := v.ownBlock.toList
theorem mem_ownL {v : Value} {j : Nat} : j ∈ ownL v ↔ v.ownBlock = some j := by simp [ownL]
/-- A row of cells that was just built, as append's source. -/
theorem src_rowT {P : Program} (w : World) (k : Nat) (hk : 0 < k) (t e : TypeId) (ht : P.underlying t = some (.slice e)) (r : List Value) (hr : r.length = k) (h1 : ∀ u ∈ r, u.oneCell' = true) : Src P k t (.slice (some ⟨w.heap.size, 0, none⟩) 1 1) 1 r (w.alloc (.cells r.toArray e)) := by
  have hl : Lies (w.alloc (.cells r.toArray e)) (w.alloc (.cells r.toArray e)).heap.size (some ⟨w.heap.size, 0, none⟩) w.heap.size 0 r :=
    ⟨fun _ => rfl, fun _ => by simp, fun j u hj => by rw [Nat.zero_add]; exact ((Blk.new w e r.toArray).cell j).trans hj⟩
  exact hl.src 1 t e ht (by omega) h1 hk
end Go.Proofs.Ytmchjmcdlapegaa
