/-
  The texts Blk, Mem, QTail, Parts, Spread, one behind the other.
-/
import Derived.Test.YtnbdpalbompjlaaDoorRows
import Derived.Test.YtnbdpalbompjlaaDoorM1
import Derived.Deep.WholeRow
import Derived.Laws.CopyOwn
import Derived.WalkKit
import Derived.WalkSpells
import Derived.WalkLawsBesides
import Derived.Outline
import Derived.Lib.Hide
import Derived.StillTail
import Derived.Deep.Quiet
import Derived.Below
import Derived.Deep.RegionWith
/-
  Blocks of memory that are known whole. It holds of every program.
-/
namespace Go.Proofs.YtnbdpalbompjlaaDoor
open Go.RowKit
set_option maxRecDepth 10000

/-- Block g holds just these cells. -/
def Blk (w : World) (g : Nat) (t : TypeId) (vs : List Value) : Prop := w.heap[g]? = some (.cells vs.toArray t (0, 0))

theorem Blk.lt {w : World} {g : Nat} {t : TypeId} {vs : List Value} (h : Blk w g t vs) : g < w.heap.size := (Array.getElem?_eq_some_iff.1 h).1
theorem Blk.cell {w : World} {g : Nat} {t : TypeId} {vs : List Value} (h : Blk w g t vs) (j : Nat) : w.cell? ⟨g, j, none⟩ = vs[j]? := by
  rw [cell_of_row w g j vs.toArray t (0, 0) h]; simp
theorem Blk.free {w : World} {g : Nat} {t : TypeId} {vs : List Value} (h : Blk w g t vs) (j : Nat) : w.frozen? ⟨g, j, none⟩ = false := frozen_of_row w g j _ t h
theorem Blk.below {w w' : World} {g B : Nat} {t : TypeId} {vs : List Value} (h : Blk w g t vs) (hb : Below B w w') (hg : g < B) : Blk w' g t vs := (hb.block g hg).trans h
theorem Blk.drewN {w : World} {g : Nat} {t : TypeId} {vs : List Value} (h : Blk w g t vs) (k : Nat) : Blk (w.drewN k) g t vs := h
theorem Blk.drew {w : World} {g : Nat} {t : TypeId} {vs : List Value} (h : Blk w g t vs) : Blk w.drew g t vs := h
theorem Blk.alloc {w : World} {g : Nat} {t : TypeId} {vs : List Value} (h : Blk w g t vs) (o : Obj) : Blk (w.alloc o) g t vs := (Go.heap_alloc_old w o (h := h.lt)).trans h
theorem Blk.new (w : World) (t : TypeId) (vs : Array Value) : Blk (w.alloc (.cells vs t (0, 0))) w.heap.size t vs.toList := by
  unfold Blk; rw [Array.toArray_toList]; exact heap_alloc_new w _
theorem Blk.newAt (w : World) (t : TypeId) (vs : Array Value) (g : Nat) (h : g = w.heap.size) : Blk (w.alloc (.cells vs t (0, 0))) g t vs.toList := by subst h; exact Blk.new w t vs
theorem Blk.set {w : World} {g : Nat} {t : TypeId} {vs : List Value} (h : Blk w g t vs) (j : Nat) (v : Value) : Blk (w.setCell ⟨g, j, none⟩ v) g t (vs.set j v) := by
  have := heap_setCell_same w g j vs.toArray t v h
  simpa [Blk] using this
theorem Blk.other {w : World} {g : Nat} {t : TypeId} {vs : List Value} (h : Blk w g t vs) (a : Addr) (v : Value) (hne : g ≠ a.block) : Blk (w.setCell a v) g t vs := (heap_setCell_other w a g v hne).trans h
theorem Blk.setRow {w : World} {g : Nat} {t : TypeId} {vs : List Value} (h : Blk w g t vs) (cs : List Value) : Blk (w.setRow g cs.toArray) g t cs := setRow_heap w g _ _ t _ h
theorem Blk.setRow_other {w : World} {g k : Nat} {t : TypeId} {vs : List Value} (h : Blk w g t vs) (cs : Array Value) (hne : g ≠ k) : Blk (w.setRow k cs) g t vs := (Go.setRow_other w k g cs hne).trans h

theorem bv_one (l : List UInt8) : ∀ v ∈ bv l, v.oneCell' = true := by
  intro v hv; rw [bv, List.mem_map] at hv; obtain ⟨x, _, rfl⟩ := hv; rfl


/-- Twelve cells that are known whole. -/
theorem Blk.twelve {w : World} {g : Nat} {t : TypeId} {a0 a1 a2 a3 a4 a5 a6 a7 a8 a9 a10 a11 : Value} (h : Blk w g t [a0, a1, a2, a3, a4, a5, a6, a7, a8, a9, a10, a11]) :
    w.cell? ⟨g, 0, none⟩ = some a0 ∧ w.cell? ⟨g, 1, none⟩ = some a1 ∧ w.cell? ⟨g, 2, none⟩ = some a2 ∧ w.cell? ⟨g, 3, none⟩ = some a3 ∧ w.cell? ⟨g, 4, none⟩ = some a4 ∧ w.cell? ⟨g, 5, none⟩ = some a5 ∧ w.cell? ⟨g, 6, none⟩ = some a6 ∧ w.cell? ⟨g, 7, none⟩ = some a7 ∧ w.cell? ⟨g, 8, none⟩ = some a8 ∧ w.cell? ⟨g, 9, none⟩ = some a9 ∧ w.cell? ⟨g, 10, none⟩ = some a10 ∧ w.cell? ⟨g, 11, none⟩ = some a11 :=
  ⟨h.cell 0, h.cell 1, h.cell 2, h.cell 3, h.cell 4, h.cell 5, h.cell 6, h.cell 7, h.cell 8, h.cell 9, h.cell 10, h.cell 11⟩
end Go.Proofs.YtnbdpalbompjlaaDoor

/-
  What wordOf and bytesOf answer.
-/
namespace Go.Proofs.YtnbdpalbompjlaaDoor
open Go.RowKit
set_option maxRecDepth 10000

/-- Words as cells. -/
def uv (l : List Nat) : List Value := l.map fun (x : Nat) => Value.int .u32 (x : Int)
theorem uv_length (l : List Nat) : (uv l).length = l.length := by simp [uv]
theorem uv_at {l : List Nat} {j x : Nat} (h : l[j]? = some x) : (uv l)[j]? = some (.int .u32 (x : Int)) := by simp [uv, h]
theorem uv_set (l : List Nat) (j x : Nat) : (uv l).set j (.int .u32 (x : Int)) = uv (l.set j x) := by simp [uv, List.map_set]
theorem uv_one (l : List Nat) : ∀ v ∈ uv l, v.oneCell' = true := by
  intro v hv; rw [uv, List.mem_map] at hv; obtain ⟨x, _, rfl⟩ := hv; rfl
/-- Four bytes as a word. -/
def word (a b c d : Nat) : Nat := orw (orw (orw (shlw a 24) (shlw b 16)) (shlw c 8)) d

theorem conv8 (b : UInt8) : IntKind.u32.wrap ((b.toNat : Nat) : Int) = ((b.toNat : Nat) : Int) := by
  have := b.toNat_lt
  rw [IntKind.wrap_u32']; omega

set_option maxHeartbeats 1000000 in
theorem wordOf_any (w : World) (g off n cap : Nat) (b0 b1 b2 b3 : UInt8) (hn : 4 ≤ n) (h0 : w.cell? ⟨g, off, none⟩ = some (.int .u8 b0.toNat)) (h1 : w.cell? ⟨g, off + 1, none⟩ = some (.int .u8 b1.toNat))
    (h2 : w.cell? ⟨g, off + 2, none⟩ = some (.int .u8 b2.toNat)) (h3 : w.cell? ⟨g, off + 3, none⟩ = some (.int .u8 b3.toNat)) :
    Calls Tryd.prog 98 #[.slice (some ⟨g, off, none⟩) n cap] w fun e w' => e = .returned (.int .u32 (word b0.toNat b1.toNat b2.toNat b3.toNat)) ∧ ∃ m, w' = w.drewN m := by
  have i0 : (0 : Int) < (n : Int) := by omega
  have i1 : (1 : Int) < (n : Int) := by omega
  have i2 : (2 : Int) < (n : Int) := by omega
  have i3 : (3 : Int) < (n : Int) := by omega
  have c0 := conv8 b0
  have c1 := conv8 b1
  have c2 := conv8 b2
  have c3 := conv8 b3
  have r1 := rule_or
  have s1 : ∀ x : Nat, (x : Int) * 16777216 % 4294967296 = ((shlw x 24 : Nat) : Int) := fun x => by simp [shlw]
  have s2 : ∀ x : Nat, (x : Int) * 65536 % 4294967296 = ((shlw x 16 : Nat) : Int) := fun x => by simp [shlw]
  have s3 : ∀ x : Nat, (x : Int) * 256 % 4294967296 = ((shlw x 8 : Nat) : Int) := fun x => by simp [shlw]
  go_enter Tryd.func98, Tryd.ntmps98
  go_wp2_with fail
  go_quiet (fail)
  go_wp2_with fail
  go_ret
  exact ⟨rfl, _, rfl⟩

/-- A word's bytes, the highest first. -/
def be4 (x : Nat) : List UInt8 := [UInt8.ofNat (x / 16777216), UInt8.ofNat (x / 65536), UInt8.ofNat (x / 256), UInt8.ofNat x]

theorem bv_be4 (x : Nat) : (bv (be4 x)).toArray = #[.int .u8 ((x : Int) / 16777216 % 256), .int .u8 ((x : Int) / 65536 % 256), .int .u8 ((x : Int) / 256 % 256), .int .u8 ((x : Int) % 256)] := by
  simp [bv, be4]

theorem Tryd.size122 : (Tryd.prog.info? 122).map (·.size) = some 4 := by kernel_rfl

theorem bytesOf_any (w : World) (x : Nat) : Calls Tryd.prog 80 #[.int .u32 x] w fun e w' => e = .returned (.agg (bv (be4 x)).toArray) ∧ Below w.heap.size w w' := by
  go_enter Tryd.func80, Tryd.ntmps80
  go_wp2_with fail
  rw [← bv_be4]
  refine bodyPost_ret (v := .agg (bv (be4 x)).toArray) ?_ rfl ⟨rfl, (Below.refl _ _).alloc (Nat.le_refl _) _⟩
  exact results_cell_row rfl _ _ w.heap.size 122 _ (0, 0) (.array 4 5) rfl (heap_alloc_new w _) Tryd.underlying122 rfl Tryd.size122
end Go.Proofs.YtnbdpalbompjlaaDoor

/-
  A region that draws its order, in two parts: the first n operations, which are quiet in a class of worlds, make a region of their own; the others wait for all of them, and come in one order. So the first part is walked once, by the library's walk of quiet regions, and then the others. It holds of every program.
-/
namespace Go.Proofs.YtnbdpalbompjlaaDoor
open Go Go.RowKit

variable {P : Program} {C : World → Prop}

/-- The head's marks, and none of the tail's. -/
def marks (h : Array Bool) (g : Nat) : Array Bool := h ++ Array.replicate g false

theorem marks_low {h : Array Bool} {g j : Nat} (d : Bool) (hj : j < h.size) : (marks h g).getD j d = h.getD j d := by
  simp [marks, Array.getD_eq_getD_getElem?, Array.getElem?_append_left hj]
theorem marks_set {h : Array Bool} {g i : Nat} (hi : i < h.size) : (marks h g).setIfInBounds i true = marks (h.setIfInBounds i true) g := by
  unfold marks
  apply Array.ext_getElem?
  intro j
  by_cases hij : i = j
  · subst hij
    simp [Array.getElem?_append, hi]
  · rw [Array.getElem?_setIfInBounds_ne hij]
    by_cases hj : j < h.size
    · rw [Array.getElem?_append_left hj, Array.getElem?_append_left (by simpa using hj), Array.getElem?_setIfInBounds_ne hij]
    · rw [Array.getElem?_append_right (by omega), Array.getElem?_append_right (by simp; omega)]
      simp

/-- Each of the first n operations looks back alone. -/
def backB (l : List Oper) (n : Nat) : Bool :=
  (List.range n).all fun i => match l[i]? with
    | some o => (o.after.all fun e => !Region.binds .any e || decide (e.on < i)) && (match o.guard with | none => true | some (k, _) => decide (k < i))
    | none => false

theorem back_spec {l : List Oper} {n i : Nat} (h : backB l n = true) (hi : i < n) : ∃ o, l[i]? = some o ∧ (∀ e ∈ o.after, Region.binds .any e = true → e.on < i) ∧ ∀ k b, o.guard = some (k, b) → k < i := by
  have h1 := List.all_eq_true.1 h i (List.mem_range.2 hi)
  cases ho : l[i]? with
  | none => rw [ho] at h1; cases h1
  | some o =>
    rw [ho] at h1
    simp only [Bool.and_eq_true] at h1
    refine ⟨o, rfl, fun e he hbi => by simpa [hbi] using (Array.all_eq_true_iff_forall_mem.1 h1.1) e he, fun k b hg => ?_⟩
    have h2 := h1.2
    rw [hg] at h2
    simpa using h2

theorem take_at {l : List Oper} {n i : Nat} (hi : i < n) : (l.take n).toArray[i]? = l.toArray[i]? := by
  simp [hi]

/-- What may come up next in the head may come up in the whole, and the other way round. -/
theorem ready_head {l : List Oper} {n g i : Nat} {h : Array Bool} (hb : backB l n = true) (hs : h.size = n) (hi : i < n) :
    i ∈ Region.ready .any (l.take n).toArray h ↔ i ∈ Region.ready .any l.toArray (marks h g) := by
  rw [mem_ready, mem_ready, marks_low true (by omega), take_at hi]
  obtain ⟨o, ho, hd, _⟩ := back_spec hb hi
  have ho' : l.toArray[i]? = some o := by simpa using ho
  constructor
  · rintro ⟨h1, o', h2, h3⟩
    obtain rfl : o = o' := Option.some.inj (ho'.symm.trans h2)
    exact ⟨h1, o, h2, fun e he hbi => by rw [marks_low false (by have := hd e he hbi; omega)]; exact h3 e he hbi⟩
  · rintro ⟨h1, o', h2, h3⟩
    obtain rfl : o = o' := Option.some.inj (ho'.symm.trans h2)
    exact ⟨h1, o, h2, fun e he hbi => by have := h3 e he hbi; rwa [marks_low false (by have := hd e he hbi; omega)] at this⟩

/-- As long as one of the head is wanting, one of it may come up: the first that is wanting. -/
theorem head_moves {l : List Oper} {n : Nat} {h : Array Bool} (hb : backB l n = true) (hs : h.size = n) : ∀ i, i < n → h.getD i true = false → Region.ready .any (l.take n).toArray h ≠ [] := by
  intro i
  induction i using Nat.strongRecOn with
  | _ i ih =>
    intro hi hun
    by_cases hall : ∀ j, j < i → h.getD j true = true
    · obtain ⟨o, ho, hd, _⟩ := back_spec hb hi
      have hm : i ∈ Region.ready .any (l.take n).toArray h := mem_ready.2 ⟨hun, o, by rw [take_at hi]; simpa using ho, fun e he hbi => by
        have h1 := hd e he hbi
        have h2 := hall e.on h1
        have h3 : e.on < h.size := by omega
        simpa [Array.getD_eq_getD_getElem?, h3] using h2⟩
      intro h0
      rw [h0] at hm
      cases hm
    · have ⟨j, hj⟩ : ∃ j, ¬ (j < i → h.getD j true = true) := Classical.not_forall.1 hall
      have hji : j < i := Classical.byContradiction fun h => hj fun h' => absurd h' h
      exact ih j hji (by omega) (by
        cases hv : h.getD j true with
        | false => rfl
        | true => exact absurd (fun _ => hv) hj)

/-- .. so where nothing may come up, nothing is wanting. -/
theorem head_whole {l : List Oper} {n : Nat} {h : Array Bool} (hb : backB l n = true) (hs : h.size = n) (h0 : Region.ready .any (l.take n).toArray h = []) : h = Array.replicate n true := by
  apply Array.ext
  · simpa using hs
  · intro i h1 h2
    have hi : i < n := by omega
    have : h.getD i true = true := by
      cases hv : h.getD i true with
      | true => rfl
      | false => exact absurd h0 (head_moves hb hs i hi hv)
    simpa [Array.getD_eq_getD_getElem?, h1] using this

theorem qOp_head {l : List Oper} {n i : Nat} {K : Act → Prop} {a : Act} (hb : backB l n = true) (hi : i < n) (h : qOp P (l.take n).toArray C i K a) : qOp P l.toArray C i K a := by
  obtain ⟨o, ho, _, hg⟩ := back_spec hb hi
  have ho' : l.toArray[i]? = some o := by simpa using ho
  unfold qOp at h ⊢
  rw [take_at hi, ho'] at h
  rw [ho']
  have hw : Region.wanted o (yielded (l.take n).toArray a.tmps) = Region.wanted o (yielded l.toArray a.tmps) := by
    unfold Region.wanted
    cases hgd : o.guard with
    | none => rfl
    | some p =>
      obtain ⟨k, b⟩ := p
      have hk := hg k b hgd
      simp only [yielded, take_at (l := l) (show k < n by omega)]
  simpa [hw] using h

/-- The tail, in its one order; fuel may be left over. -/
theorem tail_any {md : Region.Mode} {ops : Array Oper} {Q : Exit → Act → World → Prop} : ∀ (t : List Oper) (k g : Nat) (m : Array Bool) (a : Act) (w : World), (∀ j, t[j]? = ops[k + j]?) → t.length ≤ g → Region.seqB md ops t.length k m = true →
    wpList P ops Q t a w → wpAny P md ops Q g m a w
  | [], k, g, m, a, w, _, _, hB, h => by
    have h0 : Region.ready md ops m = [] := by simpa [Region.seqB] using hB
    cases g with
    | zero => exact ⟨h0, h⟩
    | succ g => exact ⟨fun _ => h, fun i hi => by rw [h0] at hi; cases hi⟩
  | o :: t, k, g, m, a, w, hl, hg, hB, h => by
    obtain ⟨g, rfl⟩ : ∃ g', g = g' + 1 := ⟨g - 1, by simp at hg; omega⟩
    simp only [List.length_cons, Region.seqB, Bool.and_eq_true, decide_eq_true_eq] at hB
    refine ⟨fun h1 => absurd (hB.1.symm.trans h1) (by simp), fun i hi => ?_⟩
    obtain rfl : i = k := by rw [hB.1] at hi; simpa using hi
    have ho : ops[i]? = some o := by simpa using (hl 0).symm
    refine wpOp_mono (fun a' w' h' => tail_any t (i + 1) g _ a' w' (fun j => ?_) (by simp at hg; omega) hB.2 h') (by unfold wpOp; simp only [ho]; exact h)
    have := hl (j + 1)
    simpa [Nat.add_assoc, Nat.add_comm 1 j] using this

theorem head_then {l : List Oper} {n g : Nat} {Q : Exit → Act → World → Prop} {Q' : Act → Prop} (hb : backB l n = true) (hs : Region.sinkB .any l.toArray n = true) (hc : Region.chainB .any l.toArray n = true) (hn : n < l.toArray.size)
    (hend : ∀ k a w, g ≤ k → C w → Q' a → wpAny P .any l.toArray Q k (marks (Array.replicate n true) g) a w) :
    ∀ (f : Nat) (h : Array Bool) (a : Act) (w : World), h.size = n → HeadInv .any l.toArray n (marks h g) → C w → wpAnyQ P .any (l.take n).toArray C Q' f h a → wpAny P .any l.toArray Q (f + g) (marks h g) a w
  | 0, h, a, w, hz, _, hw, hq => by
    rw [head_whole hb hz hq.1]
    exact hend _ a w (by omega) hw hq.2
  | f + 1, h, a, w, hz, inv, hw, hq => by
    cases h0 : Region.ready .any (l.take n).toArray h with
    | nil =>
      rw [head_whole hb hz h0]
      exact hend _ a w (by omega) hw (hq.1 h0)
    | cons j js =>
      have hj : j ∈ Region.ready .any (l.take n).toArray h := by rw [h0]; simp
      have hjn : j < n := by
        obtain ⟨_, o, ho, _⟩ := mem_ready.1 hj
        have := (Array.getElem?_eq_some_iff.1 ho).1
        simp at this
        omega
      have hju : (marks h g).getD j true = false := by rw [marks_low true (by omega)]; exact (mem_ready.1 hj).1
      rw [show f + 1 + g = (f + g) + 1 by omega]
      refine ⟨fun he => ?_, fun i hi => ?_⟩
      · have := (ready_head (g := g) hb hz hjn).1 hj
        rw [he] at this
        cases this
      · have hin : i < n := Nat.lt_of_not_le fun hle => tail_waits hs hc hn inv _ j rfl hjn hju i hle hi
        have hi' := (ready_head hb hz hin).2 hi
        have inv' := inv.set hi hin
        rw [marks_set (by omega)] at inv' ⊢
        exact wpOp_of_qOp hw (fun a' w' hw' hq' => head_then hb hs hc hn hend f _ a' w' (by simpa using hz) inv' hw' hq') (qOp_head hb hin (hq.2 i hi'))

/-- All that is asked of the region. -/
def twoB (l : List Oper) (n : Nat) : Bool :=
  decide (n < l.length) && backB l n && Region.sinkB .any l.toArray n && Region.chainB .any l.toArray n && Region.lexB .any (l.take n).toArray && Region.seqB .any l.toArray (l.length - n) n (marks (Array.replicate n true) (l.length - n))

theorem wp_region_quiet_tail {id : Nat} {Q : Exit → Act → World → Prop} {a : Act} {w : World} {l : List Oper} (n : Nat) (hm : P.follows .mixedOrders = true) (hB : twoB l n = true) (hC : C w.drew)
    (h : wpQuiet P (l.take n).toArray C (fun a' => ∀ w', C w' → wpList P l.toArray Q (l.drop n) a' w') (l.take n) a) : (Code.region id l.toArray true).wp P Q a w := by
  simp only [twoB, Bool.and_eq_true, decide_eq_true_eq] at hB
  obtain ⟨⟨⟨⟨⟨hn, hb⟩, hs⟩, hc⟩, hx⟩, hq⟩ := hB
  simp only [Region.lexB, Bool.and_eq_true] at hx
  refine wp_region_any hm ?_
  have hl : (l.take n).length = n := by simp; omega
  have h1 := wpAnyQ_lex (P := P) (C := C) (md := .any) hx.1 (l.take n) 0 (Array.replicate (l.take n).toArray.size false) a (by simp) (by simpa using hx.2) h
  rw [hl] at h1
  have h2 := head_then (P := P) (C := C) (Q := Q) (Q' := fun a' => ∀ w', C w' → wpList P l.toArray Q (l.drop n) a' w') (g := l.length - n) hb hs hc (by simpa using hn) (fun k a' w' hk hw' hq' => tail_any (l.drop n) n k _ a' w' (fun j => by simp [List.getElem?_drop]) (by simp; omega) (by simpa using hq) (hq' w' hw')) n (Array.replicate n false) a w.drew (by simp)
    ⟨by simp [marks]; omega, fun j oj _ hl => by
      exfalso
      by_cases hj : j < n
      · rw [marks_low false (by simpa using hj)] at hl
        simp [hj] at hl
      · simp [marks, Array.getD_eq_getD_getElem?] at hl
        simp [Array.getElem?_replicate] at hl
        split at hl <;> simp at hl, fun t ht ht' => by
      have h3 : t < n + (l.length - n) := by simp at ht'; omega
      simp [marks, Array.getD_eq_getD_getElem?, h3]⟩ hC (by simpa [hl] using h1)
  have e : marks (Array.replicate n false) (l.length - n) = Array.replicate l.toArray.size false := by
    unfold marks
    rw [Array.replicate_append_replicate]
    congr 1
    simp
    omega
  rw [e, show n + (l.length - n) = l.toArray.size by simp; omega] at h2
  exact h2

/-- .. in the worlds that some draws lead to. -/
theorem wp_region_draws_tail {id : Nat} {Q : Exit → Act → World → Prop} {a : Act} {w : World} {l : List Oper} (n : Nat) (hm : P.follows .mixedOrders = true) (hB : twoB l n = true)
    (h : wpQuiet P (l.take n).toArray (fun w' => ∃ n, w' = w.drewN n) (fun a' => ∀ w', (∃ n, w' = w.drewN n) → wpList P l.toArray Q (l.drop n) a' w') (l.take n) a) : (Code.region id l.toArray true).wp P Q a w :=
  wp_region_quiet_tail n hm hB ⟨1, rfl⟩ h
end Go.Proofs.YtnbdpalbompjlaaDoor

/-
  Arrays as values, out of and into a part of a block that is known whole; for the walk, one operation at a time. It holds of every program.
-/
namespace Go.Proofs.YtnbdpalbompjlaaDoor
open Go.RowKit
set_option maxRecDepth 10000

variable {P : Program}

theorem run_loadAt_cells {w : World} {g off : Nat} {cs : List Value} (hc : ∀ j v, cs[j]? = some v → w.cell? ⟨g, off + j, none⟩ = some v) (ty : TypeId) (n : Nat) (e : TypeId) (hu : P.underlying ty = some (.array n e)) (hi : (P.info? ty).map (·.size) = some cs.length) :
    (Instr.loadAt ty (.pointer (some ⟨g, off, none⟩))).run P w = .ok (.agg cs.toArray) w := by
  simp only [Instr.loadAt, Instr.sureAddr, Sem.run_bind, Sem.run_pure, Result.andThen]
  have hl := run_loadCells_list (P := P) w ⟨g, off, none⟩ cs (fun j v hv => by rw [Addr.add_lit]; exact hc j v hv)
  cases hq : P.info? ty with
  | none => simp [hq] at hi
  | some i =>
    have hs : i.size = cs.length := by simpa [hq] using hi
    have hagg : (isAgg ty).run P w = .ok true w := by
      unfold isAgg
      rw [Sem.run_bind, run_underlying hu w]
      rfl
    simp [loadVar, Sem.run_bind, hagg, sizeOf, typeInfo, hq, hs, hl]

theorem run_storeAt_part {w : World} {g off : Nat} {t : TypeId} {vs cs : List Value} (h : Blk w g t vs) (ty : TypeId) (hi : (P.info? ty).map (·.size) = some cs.length) (hf : off + cs.length ≤ vs.length) (h1 : ∀ v ∈ cs, v.oneCell' = true) :
    (Instr.storeAt ty (.pointer (some ⟨g, off, none⟩)) (.agg cs.toArray)).run P w = .ok () (w.setRow g (splice vs off cs).toArray) := by
  simp only [Instr.storeAt, Instr.sureAddr, Sem.run_bind, Sem.run_pure, Result.andThen]
  have hr := run_storeCells_at (P := P) g off t cs 0 vs.toArray w h (by simpa using hf) h1
  cases hq : P.info? ty with
  | none => simp [hq] at hi
  | some i =>
    have hs : i.size = cs.length := by simpa [hq] using hi
    simp [storeVar, sizeOf, typeInfo, hq, Value.cells, hs, hr, splice]

theorem wpList_load_cells {ops : Array Oper} {rest : List Oper} {o : Oper} {a : Act} {w : World} {Q : Exit → Act → World → Prop} (hgd : o.guard = none) (ty : TypeId) (x : Operand) (ho : o.op = .load ty x)
    (g off : Nat) (cs : List Value) (hx : a.eval x = .pointer (some ⟨g, off, none⟩)) (n : Nat) (e : TypeId)
    (hc : ∀ j v, cs[j]? = some v → w.cell? ⟨g, off + j, none⟩ = some v) (hu : P.underlying ty = some (.array n e)) (hi : (P.info? ty).map (·.size) = some cs.length)
    (h : wpList P ops Q rest (a.put o.dst (.agg cs.toArray)) w) : wpList P ops Q (o :: rest) a w := by
  refine wpList_plain hgd fun K hK => ?_
  unfold Oper.wp execOp
  simp only [ho, hx, Sem.run_bind, run_loadAt_cells hc ty n e hu hi, Result.andThen_ok]
  exact hK _ _ h

theorem wpList_store_part {ops : Array Oper} {rest : List Oper} {o : Oper} {a : Act} {w : World} {Q : Exit → Act → World → Prop} (hgd : o.guard = none) (ty : TypeId) (x y : Operand) (ho : o.op = .store ty x y)
    (g off : Nat) (cs : List Value) (hx : a.eval x = .pointer (some ⟨g, off, none⟩)) (hy : a.eval y = .agg cs.toArray) (t : TypeId) (vs : List Value) (hg : Blk w g t vs) (hi : (P.info? ty).map (·.size) = some cs.length)
    (hf : off + cs.length ≤ vs.length) (h1 : ∀ v ∈ cs, v.oneCell' = true)
    (h : wpList P ops Q rest (a.put o.dst undef) (w.setRow g (splice vs off cs).toArray)) : wpList P ops Q (o :: rest) a w := by
  refine wpList_plain hgd fun K hK => ?_
  unfold Oper.wp execOp
  simp only [ho, hx, hy, Sem.run_bind, run_storeAt_part hg ty hi hf h1, Result.andThen_ok]
  exact hK _ _ h

theorem splice_all {α : Type} (vs cs : List α) (h : vs.length = cs.length) : splice vs 0 cs = cs := by
  simp [splice, h]

/-- One operation of a quiet walk that hands back a value in every world of the class. -/
theorem quiet_value {C : World → Prop} {o : Oper} {a : Act} {K : Act → Prop} (v : Value) (h : ∀ w, C w → (execOp a.eval o).run P w = .ok (.value v) w) (hk : K (a.put o.dst v)) : o.quiet P a C K :=
  ⟨v, fun w hw => by unfold Oper.quietAt; rw [h w hw]; exact ⟨rfl, rfl⟩, hk⟩

theorem quiet_load_cells {C : World → Prop} {o : Oper} {a : Act} {K : Act → Prop} (ty : TypeId) (x : Operand) (ho : o.op = .load ty x) (g off : Nat) (cs : List Value) (hx : a.eval x = .pointer (some ⟨g, off, none⟩)) (n : Nat) (e : TypeId) (hc : ∀ w, C w → ∀ j v, cs[j]? = some v → w.cell? ⟨g, off + j, none⟩ = some v) (hu : P.underlying ty = some (.array n e)) (hi : (P.info? ty).map (·.size) = some cs.length)
    (hk : K (a.put o.dst (.agg cs.toArray))) : o.quiet P a C K := by
  refine quiet_value _ (fun w hw => ?_) hk
  unfold execOp
  simp only [ho, hx, Sem.run_bind, run_loadAt_cells (hc w hw) ty n e hu hi, Result.andThen_ok]
  rfl

theorem quiet_call {C : World → Prop} {o : Oper} {a : Act} {K : Act → Prop} (f : Nat) (args : Array Value) (v : Value) (hr : ∀ w, (execOp a.eval o).run P w = .ok (.enter f args) w)
    (hc : ∀ w, C w → Calls P f args w fun e w' => e = .returned v ∧ C w') (hk : K (a.put o.dst v)) : o.quiet P a C K :=
  ⟨v, fun w hw => by unfold Oper.quietAt; rw [hr w]; exact ⟨rfl, hc w hw⟩, hk⟩
end Go.Proofs.YtnbdpalbompjlaaDoor

/-
  What spread answers.
-/
namespace Go.Proofs.YtnbdpalbompjlaaDoor
open Go.RowKit
set_option maxRecDepth 10000

def nextw (b : List UInt8) (l : List Nat) (i : Nat) : Nat :=
  if i < 16 then word (b.getD (i * 4) 0).toNat (b.getD (i * 4 + 1) 0).toNat (b.getD (i * 4 + 2) 0).toNat (b.getD (i * 4 + 3) 0).toNat
  else addw (addw (addw (l.getD (i - 16) 0) (small (l.getD (i - 15) 0) 7 18 3)) (l.getD (i - 7) 0)) (small (l.getD (i - 2) 0) 17 19 10)

/-- The first i words of a block. -/
def spw (b : List UInt8) : Nat → List Nat
  | 0 => []
  | i + 1 => spw b i ++ [nextw b (spw b i) i]

theorem spw_length (b : List UInt8) : ∀ i, (spw b i).length = i
  | 0 => rfl
  | i + 1 => by simp [spw, spw_length b i]

/-- The cells behind i rounds. -/
def spc (b : List UInt8) (i : Nat) : List Nat := spw b i ++ List.replicate (64 - i) 0
theorem spc_length (b : List UInt8) (i : Nat) (hi : i ≤ 64) : (spc b i).length = 64 := by simp [spc, spw_length]; omega
theorem spc_at (b : List UInt8) (i j : Nat) (hj : j < i) : (spc b i)[j]? = some ((spw b i).getD j 0) := by
  have : j < (spw b i).length := by rw [spw_length]; exact hj
  rw [spc, List.getElem?_append_left this, List.getElem?_eq_getElem this]
  simp [this]
theorem spc_zero (b : List UInt8) (i : Nat) (hi : i < 64) : (spc b i)[i]? = some 0 := by
  rw [spc, List.getElem?_append_right (by rw [spw_length]; exact Nat.le_refl _), spw_length, Nat.sub_self, List.getElem?_replicate, if_pos (by omega)]
theorem spc_set (b : List UInt8) (i : Nat) (hi : i < 64) : (spc b i).set i (nextw b (spw b i) i) = spc b (i + 1) := by
  rw [spc, spc, List.set_append_right _ _ (by rw [spw_length]; exact Nat.le_refl _), spw_length, Nat.sub_self, show 64 - i = (64 - (i + 1)) + 1 by omega, List.replicate_succ, List.set_cons_zero, spw]
  simp

def SpRel (w : World) (b : List UInt8) (x : Value) (wr : World) : Prop :=
  ∃ i : Nat, x = .int .i64 (i : Int) ∧ i ≤ 64 ∧ Blk wr w.heap.size 82 (bv b) ∧ Blk wr (w.heap.size + 1 + 1) 97 (uv (spc b i)) ∧ (∃ z, z.length = 64 ∧ Blk wr (w.heap.size + 1) 97 z) ∧ Below w.heap.size w wr

def intN : Value → Nat
  | .int _ n => n.toNat
  | _ => 0

theorem bv_getD (b : List UInt8) (j : Nat) (h : j < b.length) : (bv b)[j]? = some (.int .u8 ((b.getD j 0).toNat : Int)) := by
  rw [bv_at h]; simp [h]

theorem below_drewN' {B : Nat} {w wr : World} (hb : Below B w wr) (k : Nat) : Below B w (wr.drewN k) := ⟨hb.os, hb.tape, hb.output, hb.size, hb.block⟩

theorem Tryd.size97 : (Tryd.prog.info? 97).map (·.size) = some 64 := by kernel_rfl

theorem Blk.cells {w : World} {g : Nat} {t : TypeId} {vs : List Value} (h : Blk w g t vs) : ∀ j v, vs[j]? = some v → w.cell? ⟨g, 0 + j, none⟩ = some v := fun j v hv => by rw [Nat.zero_add, h.cell, hv]

theorem slice64 (w : World) (g i : Nat) (hi : i < 16) : (Instr.sliceAt 82 (.pointer (some ⟨g, 0, none⟩)) (some (.int .i64 ((i : Int) * 4))) none none).run Tryd.prog w = .ok (.slice (some ⟨g, i * 4, none⟩) (64 - i * 4) (64 - i * 4)) w := by
  have h := run_sliceAt_array_l (P := Tryd.prog) w 82 ⟨g, 0, none⟩ (by kernel_rfl) .i64 ((i : Int) * 4) (by omega) (by
    have : Tryd.prog.arrayLen 82 = 64 := by kernel_rfl
    omega)
  rw [h, show Tryd.prog.arrayLen 82 = 64 by kernel_rfl, show Tryd.prog.elem 82 = 5 by kernel_rfl]
  have hs : (sizeOf 5).run Tryd.prog w = .ok 1 w := by
    obtain ⟨i5, h5, hz⟩ : ∃ i5, Tryd.prog.info? 5 = some i5 ∧ i5.size = 1 := by
      have h : (Tryd.prog.info? 5).map (·.size) = some 1 := by kernel_rfl
      cases hq : Tryd.prog.info? 5 with
      | none => rw [hq] at h; cases h
      | some i => rw [hq] at h; exact ⟨i, rfl, by simpa using h⟩
    simp [sizeOf, typeInfo, h5, hz]
  rw [hs]
  have e : ((i : Int) * 4).toNat = i * 4 := by omega
  simp only [Result.andThen_ok, slicedAt, e, Nat.mul_one]
  rw [if_neg (by omega)]
  rw [Addr.add_lit, Nat.zero_add]

theorem sp_round {w wr : World} {b : List UInt8} {i x : Nat} {z : List Value} (hi : i < 64) (hA : Blk wr w.heap.size 82 (bv b)) (hC : Blk wr (w.heap.size + 1 + 1) 97 (uv (spc b i))) (hz : z.length = 64) (hR : Blk wr (w.heap.size + 1) 97 z) (hB : Below w.heap.size w wr) (m : Nat)
    (hx : x = nextw b (spw b i) i) : SpRel w b (.int .i64 ((i : Int) + 1)) ((wr.drewN m).setCell ⟨w.heap.size + 1 + 1, i, none⟩ (.int .u32 (x : Int))) := by
  refine ⟨i + 1, by simp, by omega, (hA.drewN m).other _ _ (by simp; omega), ?_, ⟨z, hz, (hR.drewN m).other _ _ (by simp)⟩, (below_drewN' hB m).setCell (by simp; omega) _⟩
  have h := (hC.drewN m).set i (.int .u32 (x : Int))
  rw [uv_set, hx, spc_set b i hi] at h
  rw [hx]
  exact h

set_option maxHeartbeats 2000000 in
theorem spread_any (w : World) (b : List UInt8) (hb : b.length = 64) :
    Calls Tryd.prog 79 #[.agg (bv b).toArray] w fun e w' => e = .returned (.agg (uv (spw b 64)).toArray) ∧ Below w.heap.size w w' := by
  have HBL := Lib.hid hb
  clear hb
  go_enter Tryd.func79, Tryd.ntmps79
  go_wp2_with fail
  go_loopw [5] (fun x wr => SpRel w b x wr) (fun x _ => 64 - intN x)
  case atStart =>
    refine ⟨0, rfl, by omega, ((Blk.new w 82 (bv b).toArray).alloc _).alloc _, ?_, ⟨Array.toList (Array.replicate 64 (.int .u32 0)), ?_, ?_⟩, (((Below.refl _ _).alloc (Nat.le_refl _) _).alloc (by simp) _).alloc (by simp; omega) _⟩
    · have h := Blk.new ((w.alloc (.cells (bv b).toArray 82)).alloc (.cells (Array.replicate 64 (.int .u32 0)) 97)) 97 (Array.replicate 64 (.int .u32 0))
      simp only [World.size_alloc] at h
      exact h
    · rfl
    · have h := (Blk.new (w.alloc (.cells (bv b).toArray 82)) 97 (Array.replicate 64 (.int .u32 0))).alloc (.cells (Array.replicate 64 (.int .u32 0)) 97)
      simp only [World.size_alloc] at h
      exact h
  case round =>
    obtain ⟨i, rfl, hi, hA, hC, hR, hB⟩ := hrel
    by_cases hlt : i < 64
    · have d0 : (i : Int) < 64 := by omega
      by_cases h16 : i < 16
      · have d1 : (i : Int) < 16 := by omega
        have hsl := slice64 wr w.heap.size i h16
        have HA := Lib.hid hA
        have HC := Lib.hid hC
        have HR := Lib.hid hR
        have HB := Lib.hid hB
        clear hA hC hR hB
        go_wp2_with fail
        have hcell := fun j (hj : j < 64) => (HA.out.cell j).trans (bv_getD b j (by rw [HBL.out]; exact hj))
        refine (wordOf_any wr w.heap.size (i * 4) _ _ _ _ _ _ (by omega) (hcell (i * 4) (by omega)) (hcell (i * 4 + 1) (by omega)) (hcell (i * 4 + 2) (by omega)) (hcell (i * 4 + 3) (by omega))).mono ?_
        rintro e w2 ⟨rfl, m, rfl⟩
        clear hcell
        have hc0 : (wr.drewN m).cell? ⟨w.heap.size + 1 + 1, i, none⟩ = some (.int .u32 0) := by
          rw [(HC.out.drewN m).cell]
          exact uv_at (spc_zero b i hlt)
        have hf0 := (HC.out.drewN m).free i
        have hN : nextw b (spw b i) i = word (b.getD (i * 4) 0).toNat (b.getD (i * 4 + 1) 0).toNat (b.getD (i * 4 + 2) 0).toNat (b.getD (i * 4 + 3) 0).toNat := by rw [nextw, if_pos h16]
        rw [← hN]
        obtain ⟨x, hx⟩ : ∃ x, x = nextw b (spw b i) i := ⟨_, rfl⟩
        rw [← hx]
        clear hN
        have HX := Lib.hid hx
        clear hx
        go_wp2_with fail
        obtain ⟨z, hz, hR⟩ := HR.out
        refine ⟨sp_round hlt HA.out HC.out hz hR HB.out m HX.out, ?_⟩
        simp only [intN]
        omega
      · have d1 : ¬ ((i : Int) < 16) := by omega
        obtain ⟨j16, hj16⟩ : ∃ j, j = i - 16 := ⟨_, rfl⟩
        obtain ⟨j15, hj15⟩ : ∃ j, j = i - 15 := ⟨_, rfl⟩
        obtain ⟨j7, hj7⟩ : ∃ j, j = i - 7 := ⟨_, rfl⟩
        obtain ⟨j2, hj2⟩ : ∃ j, j = i - 2 := ⟨_, rfl⟩
        obtain ⟨x16, hx16⟩ : ∃ x, x = (spw b i).getD j16 0 := ⟨_, rfl⟩
        obtain ⟨x15, hx15⟩ : ∃ x, x = (spw b i).getD j15 0 := ⟨_, rfl⟩
        obtain ⟨x7, hx7⟩ : ∃ x, x = (spw b i).getD j7 0 := ⟨_, rfl⟩
        obtain ⟨x2, hx2⟩ : ∃ x, x = (spw b i).getD j2 0 := ⟨_, rfl⟩
        have h16' : wr.cell? ⟨w.heap.size + 1 + 1, j16, none⟩ = some (.int .u32 (x16 : Int)) := by rw [hC.cell, hx16]; exact uv_at (spc_at b i j16 (by omega))
        have h15 : wr.cell? ⟨w.heap.size + 1 + 1, j15, none⟩ = some (.int .u32 (x15 : Int)) := by rw [hC.cell, hx15]; exact uv_at (spc_at b i j15 (by omega))
        have h7 : wr.cell? ⟨w.heap.size + 1 + 1, j7, none⟩ = some (.int .u32 (x7 : Int)) := by rw [hC.cell, hx7]; exact uv_at (spc_at b i j7 (by omega))
        have h2 : wr.cell? ⟨w.heap.size + 1 + 1, j2, none⟩ = some (.int .u32 (x2 : Int)) := by rw [hC.cell, hx2]; exact uv_at (spc_at b i j2 (by omega))
        have hi0 : wr.cell? ⟨w.heap.size + 1 + 1, i, none⟩ = some (.int .u32 0) := by
          rw [hC.cell]
          exact uv_at (spc_zero b i hlt)
        have hfz := hC.free i
        have e16 : (i : Int) - 16 = (j16 : Int) := by omega
        have e15 : (i : Int) - 15 = (j15 : Int) := by omega
        have e7 : (i : Int) - 7 = (j7 : Int) := by omega
        have e2 : (i : Int) - 2 = (j2 : Int) := by omega
        have l16 : (j16 : Int) < 64 := by omega
        have l15 : (j15 : Int) < 64 := by omega
        have l7 : (j7 : Int) < 64 := by omega
        have l2 : (j2 : Int) < 64 := by omega
        have r1 := rule_add
        go_wp2_with fail
        clear h16
        have h16 := h16'
        clear h16'
        have HA := Lib.hid hA
        have HC := Lib.hid hC
        have HR := Lib.hid hR
        have HB := Lib.hid hB
        have HX := Lib.hid (show nextw b (spw b i) i = addw (addw (addw x16 (small x15 7 18 3)) x7) (small x2 17 19 10) by rw [nextw, if_neg (by omega), ← hj16, ← hj15, ← hj7, ← hj2, ← hx16, ← hx15, ← hx7, ← hx2])
        clear hA hC hR hB hj16 hj15 hj7 hj2 hx16 hx15 hx7 hx2
        refine wp_region_draws_tail 23 (by kernel_rfl) (by kernel_rfl) ?_
        simp only [List.take_succ_cons, List.take_zero, List.drop_succ_cons, List.drop_zero]
        repeat (go_big_quiet_step (first | (go_at_call_of 99 (Value.int .u32 (x15 : Int)); refine Calls.quiet_of (small_0 _ x15)) | (go_at_call_of 99 (Value.int .u32 (x2 : Int)); refine Calls.quiet_of (small_1 _ x2))))
        refine wpQuiet_nil ?_
        rintro _ ⟨nq, rfl⟩
        go_wp2_with fail
        obtain ⟨z, hz, hR⟩ := HR.out
        refine ⟨sp_round hlt HA.out HC.out hz hR HB.out nq HX.out.symm, ?_⟩
        simp only [intN]
        omega
    · obtain rfl : i = 64 := by omega
      obtain ⟨z, hz, hR⟩ := hR
      have hlen : (uv (spc b 64)).length = 64 := by rw [uv_length, spc_length b 64 (by omega)]
      have HSZ := Lib.hid (show (Tryd.prog.info? 97).map (·.size) = some (uv (spc b 64)).length by rw [hlen]; exact Tryd.size97)
      have HR' := Lib.hid (hR.setRow (uv (spc b 64)))
      have HB' := Lib.hid (below_setRow hB (show w.heap.size ≤ w.heap.size + 1 by omega) (uv (spc b 64)).toArray)
      have HC := Lib.hid hC.cells
      have HR := Lib.hid hR
      have HL := Lib.hid (show 0 + (uv (spc b 64)).length ≤ z.length by omega)
      have HS := Lib.hid (splice_all z (uv (spc b 64)) (by omega))
      have HE := Lib.hid (show spc b 64 = spw b 64 by simp [spc])
      clear hA hC hR hB hz hlen
      go_wp2_with (first
        | ((with_reducible refine wpList_load_cells ?_ 97 (.tmp 3) ?_ _ 0 _ ?_ 64 92 HC.out Tryd.underlying97 HSZ.out ?_); rfl; rfl; rfl)
        | ((with_reducible refine wpList_store_part ?_ 97 (.tmp 2) (.tmp 40) ?_ (w.heap.size + 1) 0 (uv (spc b 64)) ?_ ?_ 97 _ HR.out HSZ.out HL.out (uv_one _) ?_); rfl; rfl; rfl; rfl; rw [HS.out]))
      rw [← HE.out]
      refine bodyPost_ret (v := .agg (uv (spc b 64)).toArray) ?_ rfl ⟨rfl, HB'.out⟩
      exact results_cell_row rfl _ _ (w.heap.size + 1) 97 _ (0, 0) (.array 64 92) rfl HR'.out Tryd.underlying97 rfl (by rw [List.size_toArray]; exact HSZ.out)
end Go.Proofs.YtnbdpalbompjlaaDoor
