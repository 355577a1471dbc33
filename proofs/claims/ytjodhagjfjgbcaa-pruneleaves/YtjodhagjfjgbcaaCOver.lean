/-
  The texts Over, one behind the other.
-/
import Derived.Test.YtjodhagjfjgbcaaLeavesM2
import Derived.RangeFuncNested
import Derived.RangeFuncLeaves
import Derived.Shelf.Abstract
/-
  A range over a function whose iterator keeps a variable of its own in memory: what the loop's owner must show of his rounds, and what the iterator must show. 'LB': the one block that the rounds write (a variable of the owner's: an answer, or a slice that grows, with its memory); R: the heap's size where the loop begins. It holds of every program.
-/
namespace Go.Proofs.Ytjodhagjfjgbcaa
open Go Go.RowKit

variable {P : Program} {α : Type}

/-- What the rounds write: the variable's block, and the memory of the slice in it. -/
def SB (LB : Nat) (A : World) : List Nat := LB :: ownL ((A.cell? ⟨LB, 0, none⟩).getD undef)
theorem SB.same {LB : Nat} {A B : World} (h : B.heap[LB]? = A.heap[LB]?) : SB LB B = SB LB A := by
  unfold SB; rw [World.cell?_of_block (a := ⟨LB, 0, none⟩) h]

/-- What a round that goes on keeps: all memory but what rounds write. -/
structure KpB (LB R : Nat) (A B : World) : Prop where
  size : A.heap.size ≤ B.heap.size
  block : ∀ k, k < A.heap.size → k ∉ SB LB A → (k < R ∨ ∃ o, A.heap[k]? = some o ∧ o.isCells = true) → B.heap[k]? = A.heap[k]?
  grow : NewF A (SB LB A) (SB LB B)
theorem KpB.trans {LB R : Nat} {A B C : World} (h : KpB LB R A B) (k : KpB LB R B C) : KpB LB R A C :=
  ⟨Nat.le_trans h.size k.size, fun i hi hn hc => by
    have h1 := h.block i hi hn hc
    refine (k.block i (Nat.lt_of_lt_of_le hi h.size) (fun hm => ?_) (by rw [h1]; exact hc)).trans h1
    rcases h.grow i hm with h2 | h2
    · exact hn h2
    · omega, h.grow.trans k.grow h.size⟩
theorem KpB.put {LB R : Nat} {A : World} {l : Nat} {o o' : Obj} (hLB : LB < R) (hl : R ≤ l) (h : A.heap[l]? = some o) (ho : o.isCells = false) : KpB LB R A (A.putObj l o') :=
  ⟨Nat.le_of_eq (World.putObj_size).symm, fun k _ _ hc => World.putObj_heap_other (fun e => by
    subst e
    rcases hc with hc | ⟨o2, h2, hc⟩
    · omega
    · rw [h] at h2; cases h2; rw [ho] at hc; cases hc), fun x hx => .inl (by rwa [SB.same (World.putObj_heap_other (by omega))] at hx)⟩
/-- A step that writes into what rounds write, or makes memory. -/
theorem KpB.of_kept {LB R : Nat} {A B : World} {F : List Nat} (h : Kept F A B) (hF : ∀ x ∈ F, x ∈ SB LB A) (hg : NewF A (SB LB A) (SB LB B)) : KpB LB R A B :=
  ⟨h.size, fun k hk hn _ => h.block k hk fun hm => hn (hF k hm), hg⟩
theorem KpB.of_below {LB R : Nat} {A B : World} (h : Below A.heap.size A B) (hLB : LB < A.heap.size) : KpB LB R A B :=
  ⟨h.size, fun k hk _ _ => h.block k hk, fun x hx => .inl (by rwa [SB.same (h.block LB hLB)] at hx)⟩

/-- What the iterator may write of its own: memory made since, none of the rounds'. -/
def Mine (LB R : Nat) (W : World) (r : Nat) : Prop := R ≤ r ∧ r ∉ SB LB W ∧ ∃ o, W.heap[r]? = some o ∧ o.isCells = true
def Stays (LB R : Nat) (J : List α → World → Prop) : Prop := ∀ s W W' row, J s W → W.grownBy W' row → (∀ r, row = some r → Mine LB R W r) → J s W'
/-- .. and what the loop's book-keeping writes: blocks that are no cells. -/
def Minds (R : Nat) (J : List α → World → Prop) : Prop := ∀ s W l o o', J s W → R ≤ l → W.heap[l]? = some o → o.isCells = false → J s (W.putObj l o')

theorem Stays.alloc {LB R : Nat} {J : List α → World → Prop} (h : Stays LB R J) {s : List α} {W : World} (o : Obj) (hs : J s W) : J s (W.alloc o) := h s W _ none hs (World.grownBy_alloc W o none) (fun r e => by cases e)
/-- A block that is no cells stays, whatever the iterator writes. -/
theorem Mine.keeps {LB R : Nat} {A B : World} {row : Option Nat} (hg : A.grownBy B row) (hr : ∀ r, row = some r → Mine LB R A r) {k : Nat} {o : Obj} (hk : A.heap[k]? = some o) (ho : o.isCells = false) : B.heap[k]? = some o :=
  (hg.block k (Array.getElem?_eq_some_iff.1 hk).1 fun e => by
    obtain ⟨_, _, o2, h2, hc⟩ := hr k e.symm
    rw [hk] at h2; cases h2; rw [ho] at hc; cases hc).trans hk

/-- The iterator's contract. -/
def Gives (P : Program) (LB R : Nat) (g : Nat) (lb : Array Value) (encs : α → Array Value) (S Sp : List α → Prop) (N : Nat) (w : World) : Prop :=
  ∀ (l : Nat) (J Jx : List α → World → Prop) (W : World), Below w.heap.size w W → Stays LB R J → Stays LB R Jx →
    (∀ pre x W1, J pre W1 → pre.length < N → YieldAt Fence.wide 8 P l (encs x) W1 fun e W' =>
      (e = .returned (.bool true) ∧ J (pre ++ [x]) W' ∧ KpB LB R W1 W') ∨ (e = .returned (.bool false) ∧ Jx (pre ++ [x]) W')) →
    J [] W →
    CallsIn Fence.wide 9 P g (#[.func (.yield l) #[] #[]] ++ lb) W fun e W' => (∃ v, e = .returned v) ∧ ((∃ xs, S xs ∧ J xs W') ∨ (∃ pre, Sp pre ∧ Jx pre W'))

/-- What the loop's own book-keeping may turn between two steps of the owner's. -/
def Turn (R : Nat) (A B : World) : Prop := ∃ l o o', R ≤ l ∧ A.heap[l]? = some o ∧ o.isCells = false ∧ B = A.putObj l o'
theorem Turn.block {R : Nat} {A B : World} (h : Turn R A B) {k : Nat} {c : Array Value} {t : TypeId} {m : Nat × Nat} (hk : A.heap[k]? = some (.cells c t m)) : B.heap[k]? = some (.cells c t m) := by
  obtain ⟨l, o, o', _, h1, h2, rfl⟩ := h
  refine (World.putObj_heap_other fun e => ?_).trans hk
  subst e; rw [hk] at h1; cases h1; cases h2
theorem Turn.blk {R : Nat} {A B : World} (h : Turn R A B) {g : Nat} {t : TypeId} {vs : List Value} (hb : Blk A g t vs) : Blk B g t vs := h.block hb
theorem Turn.size {R : Nat} {A B : World} (h : Turn R A B) : B.heap.size = A.heap.size := by
  obtain ⟨l, o, o', _, _, _, rfl⟩ := h; exact World.putObj_size
theorem Turn.kept {R : Nat} {A B : World} (h : Turn R A B) : ∃ l, R ≤ l ∧ Kept [l] A B := by
  obtain ⟨l, o, o', h0, _, _, rfl⟩ := h
  exact ⟨l, h0, rfl, rfl, rfl, Nat.le_of_eq (World.putObj_size).symm, fun k _ hk => World.putObj_heap_other (by simpa using hk)⟩
theorem Turn.below {R B0 : Nat} {A B w : World} (h : Turn R A B) (hb : Below B0 w A) (h0 : B0 ≤ R) : Below B0 w B := by
  obtain ⟨l, o, o', h1, _, _, rfl⟩ := h
  exact hb.trans ⟨rfl, rfl, rfl, Nat.le_of_eq (World.putObj_size).symm, fun k hk => World.putObj_heap_other (by omega)⟩

/-- How a round may be left: it goes on; or the function is left from within it. -/
def RoundEnd (LB R : Nat) (I Ix : List α → World → Prop) (xs : List α) (W : World) (e : Exit) (_ : Act) (W' : World) : Prop :=
  KeepsFrom R W W' ∧ ((e = .normal ∧ KpB LB R W W' ∧ I xs W') ∨ (e = .ret ∧ Ix xs W'))

/-- 'for x := range g { .. }' -/
theorem over_func {g : Operand} {ps : Array Tmp} {assign body : Code} {Q : Exit → Act → World → Prop} {a : Act} {w : World} {gf : Nat} {lb : Array Value} (hg : a.eval g = .func (.func gf) #[] lb)
    (eg : ∀ args w, (callFunc gf args).run P w = .ok (.enter gf args) w) {encs : α → Array Value} (hps : ∀ x, (encs x).size = ps.size) {LB : Nat} (hLB : LB < w.heap.size) {S Sp : List α → Prop} {N : Nat} {w0 : World} (hit : Gives P LB w.heap.size gf lb encs S Sp N w0) (hb0 : Below w0.heap.size w0 w)
    (I Ix : List α → World → Prop) (h0 : I [] w) (hI : Stays LB w.heap.size I) (hIx : Stays LB w.heap.size Ix) (hIo : Minds w.heap.size I) (hIxo : Minds w.heap.size Ix)
    (hround : ∀ (l : Nat) (pre : List α) (x : α) (W : World), I pre W → pre.length < N →
      assign.wpIn (Fence.wide.inRound l) 8 P (Exit.then (fun a₁ W₁ => KeepsFrom w.heap.size W W₁ ∧ KpB LB w.heap.size W W₁ ∧ ∀ W₂, Turn w.heap.size W₁ W₂ → body.wpIn (Fence.wide.inRound l) 8 P (RoundEnd LB w.heap.size I Ix (pre ++ [x]) W₂) a₁ W₂) (fun _ _ _ => False))
        { tmps := (ps.zip (encs x)).foldl (fun t (p, v) => t.setIfInBounds p v) a.tmps, defers := [] } W)
    (hdone : ∀ (D : Nat) (xs : List α) (W : World), w.heap.size ≤ D → S xs → I xs W → W.heap[D]? = some (.deferred (some [])) → Q .normal { a with defers := { target := .collected D, args := #[] } :: a.defers } W)
    (hstop : ∀ (D : Nat) (pre : List α) (W : World), w.heap.size ≤ D → Sp pre → Ix pre W → W.heap[D]? = some (.deferred (some [])) → Code.ret.wpIn Fence.wide 10 P Q { a with defers := { target := .collected D, args := #[] } :: a.defers } W) :
    (Code.rangeFunc g ps assign body).wpIn Fence.wide 10 P Q a w := by
  refine wpIn_rangeFunc fun fn hfn => ?_
  obtain ⟨B, hB⟩ : ∃ B, B = w.heap.size := ⟨_, rfl⟩
  obtain ⟨R, hR⟩ : ∃ R : LoopState → Option Code → Loop, R = fun s p => { state := s, pending := p, fn := fn, tmps := a.tmps, params := ps, assign := assign, body := body, defers := B } := ⟨_, rfl⟩
  -- the two blocks of the book-keeping
  have hstart := run_enterLoop_outer (P := P) (w := w) fn a.tmps ps assign body
  obtain ⟨V, hV⟩ : ∃ V, V = (w.alloc (.deferred (some []))).alloc (.loop (R .ready none)) := ⟨_, rfl⟩
  have hVe : (w.alloc (.deferred (some []))).alloc (.loop { state := .ready, pending := none, fn := fn, tmps := a.tmps, params := ps, assign := assign, body := body, defers := w.heap.size }) = V := by rw [hV, hR, hB]
  rw [hVe] at hstart
  have vL : V.heap[B + 1]? = some (.loop (R .ready none)) := by
    have := World.alloc_heap_new (w.alloc (.deferred (some []))) (.loop (R .ready none))
    rwa [World.size_alloc, ← hB, ← hV] at this
  have vD : V.heap[B]? = some (.deferred (some [])) := by
    rw [hV, Below.heap_alloc _ _ _ (by simp; omega), hB]; exact World.alloc_heap_new w _
  have vB : Below w0.heap.size w0 V := by
    rw [hV]; exact hb0.trans ((((Below.refl _ w).alloc (Nat.le_refl _) _).alloc (by simp) _).mono hb0.size)
  have vI : I [] V := by rw [hV]; exact hI.alloc _ (hI.alloc _ h0)
  clear hVe hV hb0 h0
  refine ⟨B + 1, [{ target := .collected B, args := #[] }], V, { target := .fn (.func gf) lb, args := #[.func (.yield (B + 1)) #[] #[]] }, V, gf, #[.func (.yield (B + 1)) #[] #[]] ++ lb, V, by rw [hB]; exact hstart, ?_, fun _ _ => trivial, ?_, fun h => (by cases h), ?_⟩
  · simp only [resolve, hg]; simp [go_sem]
  · simp [invoke, go_sem, eg]
  rw [← hB] at hLB hit hI hIx hIo hIxo hround hdone hstop
  clear hstart
  -- what the book-keeping is, between two rounds
  refine (hit (B + 1) (fun pre W => I pre W ∧ W.heap[B + 1]? = some (.loop (R .ready none)) ∧ W.heap[B]? = some (.deferred (some [])))
    (fun pre W => Ix pre W ∧ W.heap[B + 1]? = some (.loop (R .done (some .ret))) ∧ W.heap[B]? = some (.deferred (some []))) V vB
    (fun s A C row hs hgr hr => ⟨hI s A C row hs.1 hgr hr, Mine.keeps hgr hr hs.2.1 rfl, Mine.keeps hgr hr hs.2.2 rfl⟩)
    (fun s A C row hs hgr hr => ⟨hIx s A C row hs.1 hgr hr, Mine.keeps hgr hr hs.2.1 rfl, Mine.keeps hgr hr hs.2.2 rfl⟩) ?_ ⟨vI, vL, vD⟩).mono ?_
  · rintro pre x W ⟨hi, hl, hd⟩ hN
    have hy := run_yield (P := P) (args := encs x) hl (by rw [hR]; exact hps x)
    have hy2 : (Instr.yield (B + 1) (encs x)).run P W = .ok (.round (B + 1) fn ((ps.zip (encs x)).foldl (fun t (p, v) => t.setIfInBounds p v) a.tmps) assign body) W := by rw [hR] at hy; exact hy
    clear hy
    refine ⟨fn, _, assign, body, hy2, roundIn_of_wpIn hfn (wpIn_mono (hround (B + 1) pre x W hi hN) ?_)⟩
    clear hy2
    rintro e a1 W1 h1
    cases e with
    | normal =>
      obtain ⟨hk1, hp1, hbody⟩ := h1
      have l1 := hk1.same (B + 1) _ (by omega) hl rfl
      have d1 := hk1.same B _ (Nat.le_refl _) hd rfl
      have hlt := (Array.getElem?_eq_some_iff.1 l1).1
      refine ⟨_, run_beginRound l1 (by rw [hR]), ?_⟩
      obtain ⟨W2, hW2⟩ : ∃ W2, W2 = W1.putObj (B + 1) (.loop { R .ready none with state := .busy }) := ⟨_, rfl⟩
      have t2 : Turn B W1 W2 := ⟨B + 1, _, _, by omega, l1, rfl, hW2⟩
      have l2 : W2.heap[B + 1]? = some (.loop { R .ready none with state := .busy }) := by rw [hW2]; exact World.putObj_heap_same hlt
      have d2 : W2.heap[B]? = some (.deferred (some [])) := by rw [hW2, World.putObj_heap_other (by omega)]; exact d1
      have p2 : KpB LB B W1 W2 := by rw [hW2]; exact KpB.put hLB (by omega) l1 rfl
      rw [← hW2]
      refine wpIn_mono (hbody W2 t2) ?_
      rintro e3 a3 W3 ⟨hk3, h3⟩
      have l3 := hk3.same (B + 1) _ (by omega) l2 rfl
      have d3 := hk3.same B _ (Nat.le_refl _) d2 rfl
      have hlt3 := (Array.getElem?_eq_some_iff.1 l3).1
      rcases h3 with ⟨rfl, hp3, hi3⟩ | ⟨rfl, hx3⟩
      · have hend := run_endRound (P := P) none l3
        refine ⟨_, _, hend, .inl ⟨rfl, ⟨hIo _ _ _ _ _ hi3 (by omega) l3 rfl, ?_, ?_⟩, ((hp1.trans p2).trans hp3).trans (KpB.put hLB (by omega) l3 rfl)⟩⟩
        · rw [World.putObj_heap_same hlt3, hR]; rfl
        · rw [World.putObj_heap_other (by omega)]; exact d3
      · have hend := run_endRound (P := P) (some Code.ret) l3
        refine ⟨_, _, hend, .inr ⟨rfl, hIxo _ _ _ _ _ hx3 (by omega) l3 rfl, ?_, ?_⟩⟩
        · rw [World.putObj_heap_same hlt3, hR]; rfl
        · rw [World.putObj_heap_other (by omega)]; exact d3
    | ret => exact h1.elim
    | exit id => exact h1.elim
    | goto t => exact h1.elim
    | panic ch => exact h1.elim
    | outgrown => exact h1.elim
  · rintro e W2 ⟨⟨v, rfl⟩, ⟨xs, hS, hi, hl, hd⟩ | ⟨pre, hSp, hx, hl, hd⟩⟩
    · have h := run_endLoop (P := P) hl (by rw [hR]; simp)
      have hp : (R .ready none).pending = none := by rw [hR]
      rw [hp] at h
      exact ⟨none, _, h, hdone B xs _ (Nat.le_refl _) hS (hIo _ _ _ _ _ hi (by omega) hl rfl) (by rw [World.putObj_heap_other (by omega)]; exact hd)⟩
    · have h := run_endLoop (P := P) hl (by rw [hR]; simp)
      have hp : (R .done (some .ret)).pending = some .ret := by rw [hR]
      rw [hp] at h
      exact ⟨some .ret, _, h, hstop B pre _ (Nat.le_refl _) hSp (hIxo _ _ _ _ _ hx (by omega) hl rfl) (by rw [World.putObj_heap_other (by omega)]; exact hd)⟩
end Go.Proofs.Ytjodhagjfjgbcaa
