/-
  The texts Bk12, one behind the other.
-/
import Derived.Test.YtjodhagjfjgbcaaFirstM8
import Derived.Test.YtjodhagjfjgbcaaFirstM10
import Derived.Test.YtjodhagjfjgbcaaFirstM1
/-
  Rows of blocks (their numbers, and own weights) as cells; what they make of a tree, and as deltas.
-/
namespace Go.Proofs.Ytjodhagjfjgbcaa
open Go Go.RowKit
set_option maxRecDepth 10000

theorem results_tmp4 {fn : Func} {t u v x : Tmp} (h : fn.results = #[.tmp t, .tmp u, .tmp v, .tmp x]) (tmps : Array Value) (P : Program) (w : World) :
    (results fn tmps).run P w = .ok (.tuple #[tmps.getD t undef, tmps.getD u undef, tmps.getD v undef, tmps.getD x undef]) w := by
  simp [results, h]
structure Bk where
  r : Int
  p : Int
  s : Int
  n : Int
def bkv (b : Bk) : List Value := [.int .i64 b.r, .int .i64 b.p, .int .i64 b.s, .int .i64 b.n]
def bks (l : List Bk) : List Value := l.flatMap bkv
theorem bks_length : ∀ (l : List Bk), (bks l).length = l.length * 4
  | [] => rfl
  | a :: l => by
    have h := bks_length l
    rw [bks, List.flatMap_cons, List.length_append, ← bks, h, List.length_cons]
    simp [bkv]; omega
theorem bks_at : ∀ (l : List Bk) (i j : Nat) (a : Bk), l[i]? = some a → j < 4 → (bks l)[i * 4 + j]? = (bkv a)[j]?
  | [], i, j, a, h, _ => by simp at h
  | y :: l, 0, j, a, h, hj => by
    simp at h
    subst h
    rw [bks, List.flatMap_cons, Nat.zero_mul, Nat.zero_add, List.getElem?_append_left (by simp [bkv]; exact hj)]
  | y :: l, i + 1, j, a, h, hj => by
    have hy : (bkv y).length = 4 := rfl
    rw [bks, List.flatMap_cons, List.getElem?_append_right (by rw [hy]; omega), hy, show (i + 1) * 4 + j - 4 = i * 4 + j by omega, ← bks]
    exact bks_at l i j a (by simpa using h) hj
theorem Lies.bk {w : World} {B b off : Nat} {ao : Option Addr} {l : List Bk} (h : Lies w B ao b off (bks l)) {i : Nat} {a : Bk} (hi : l[i]? = some a) : ao = some ⟨b, off, none⟩ ∧ ∀ j v, (bkv a)[j]? = some v → w.cell? ⟨b, off + i * 4 + j, none⟩ = some v := by
  have hl := (List.getElem?_eq_some_iff.1 hi).1
  refine ⟨h.addr (by rw [bks_length]; omega), fun j v hj => ?_⟩
  have hj4 : j < 4 := by have := (List.getElem?_eq_some_iff.1 hj).1; simpa [bkv] using this
  rw [Nat.add_assoc]
  exact h.cells _ v ((bks_at l i j a hi hj4).trans hj)
theorem Try.sizeBk : (Try.prog.info? 64).map (·.size) = some 4 := by kernel_rfl
theorem Try.aggBk (w : World) : (isAgg 64).run Try.prog w = .ok true w := by
  unfold isAgg
  rw [Sem.run_bind, run_underlying Try.underlying64 w]
  rfl
theorem bkv_one (a : Bk) : ∀ v ∈ bkv a, v.oneCell' = true := fun v hv => by
  simp only [bkv, List.mem_cons, List.not_mem_nil, or_false] at hv
  rcases hv with rfl | rfl | rfl | rfl <;> rfl
section
variable {ops : Array Oper} {rest : List Oper} {o : Oper} {a : Act} {w : World} {Q : Exit → Act → World → Prop}
theorem wpList_load_bk (y : Operand) (ho : o.op = .load 64 y) (hgd : o.guard = none) (g off : Nat) (x : Bk) (hx : a.eval y = .pointer (some ⟨g, off, none⟩)) (hc : ∀ j v, (bkv x)[j]? = some v → w.cell? ⟨g, off + j, none⟩ = some v)
    (h : wpList Try.prog ops Q rest (a.put o.dst (.agg (bkv x).toArray)) w) : wpList Try.prog ops Q (o :: rest) a w :=
  wpList_load_agg hgd 64 y ho g off (bkv x) hx hc Try.aggBk Try.sizeBk h
theorem wpList_store_bk (x y : Operand) (ho : o.op = .store 64 x y) (hgd : o.guard = none) (g : Nat) (n n' : Bk) (hx : a.eval x = .pointer (some ⟨g, 0, none⟩)) (hy : a.eval y = .agg (bkv n').toArray) (hg : Blk w g 64 (bkv n))
    (h : wpList Try.prog ops Q rest (a.put o.dst undef) (w.setRow g (bkv n').toArray)) : wpList Try.prog ops Q (o :: rest) a w := by
  refine wpList_store_part hgd 64 x y ho g 0 (bkv n') hx hy 64 (bkv n) hg Try.sizeBk (Nat.le_refl _) (bkv_one _) ?_
  rw [show splice (bkv n) 0 (bkv n') = bkv n' from splice_all _ _ rfl]
  exact h
end
def bk0 : Bk := ⟨0, 0, 0, 0⟩

def root12 : List Nd := [(nmN 0, 0, -1)]
/-- What a block makes of a tree, and of the deltas. -/
def mk1 (x : List Nd × List Dl) (b : Bk) : List Nd × List Dl := ((addT 100 x.1 (nmN b.r) (nmN b.p) b.s).2, if 0 ≤ plc (addT 100 x.1 (nmN b.r) (nmN b.p) b.s).2 (nmN b.r) then x.2 ++ [(nmN b.r, b.n)] else x.2)
def mkAll (l : List Bk) : List Nd × List Dl := l.foldl mk1 (root12, [])
theorem mkAll_next {l : List Bk} {k : Nat} {a : Bk} (h : l[k]? = some a) : mkAll (l.take (k + 1)) = mk1 (mkAll (l.take k)) a := by
  unfold mkAll
  rw [List.take_add_one, h, List.foldl_append]
  rfl
def mkT (l : List Bk) : List Nd := (mkAll l).1
/-- Its own weights, when all deltas are applied. -/
def mkO (l : List Bk) : List Int := (appW (mkT l) (List.replicate (mkT l).length 0) (mkAll l).2).2
def okB (b : Bk) : Bool := decide (0 ≤ b.n) && decide (b.n ≤ 1099511627776)
/-- It is played. -/
def play (l : List Bk) : Bool := decide (l.length ≤ 60) && l.all okB
theorem mkAll_good : ∀ l : List Bk, Good (mkAll l).1 100 ∧ (mkAll l).1[0]? = some (nmN 0, 0, -1) ∧ (∀ d ∈ (mkAll l).2, d.1.length = 32) ∧ (mkAll l).2.length ≤ l.length := by
  suffices h : ∀ (l : List Bk) (x : List Nd × List Dl), Good x.1 100 → x.1[0]? = some (nmN 0, 0, -1) → (∀ d ∈ x.2, d.1.length = 32) → Good (l.foldl mk1 x).1 100 ∧ (l.foldl mk1 x).1[0]? = some (nmN 0, 0, -1) ∧ (∀ d ∈ (l.foldl mk1 x).2, d.1.length = 32) ∧ (l.foldl mk1 x).2.length ≤ x.2.length + l.length from fun l => by
    have := h l (root12, []) (Good.one (nmN_len 0) (by decide) (by decide) (by decide) (by decide)) rfl (fun d hd => (by cases hd))
    rw [show (root12, ([] : List Dl)).2.length + l.length = l.length from Nat.zero_add _] at this
    exact this
  intro l
  induction l with
  | nil => intro x h1 h2 h3; exact ⟨h1, h2, h3, by simp⟩
  | cons b l ih =>
    intro x h1 h2 h3
    have g2 : (mk1 x b).1[0]? = some (nmN 0, 0, -1) := by
      obtain ⟨s, hs⟩ := addT_prefix 100 x.1 (nmN b.r) (nmN b.p) b.s
      show (addT 100 x.1 (nmN b.r) (nmN b.p) b.s).2[0]? = _
      rw [← hs, List.getElem?_append_left h1.pos, h2]
    have g3 : ∀ d ∈ (mk1 x b).2, d.1.length = 32 := fun d hd => by
      unfold mk1 at hd
      simp only at hd
      split at hd
      · rcases List.mem_append.1 hd with hd | hd
        · exact h3 d hd
        · simp at hd; rw [hd]; exact nmN_len _
      · exact h3 d hd
    have g4 : (mk1 x b).2.length ≤ x.2.length + 1 := by
      unfold mk1
      simp only
      split
      · simp
      · omega
    obtain ⟨i1, i2, i3, i4⟩ := ih (mk1 x b) (addT_good h1 b.s (nmN_len _)) g2 g3
    exact ⟨i1, i2, i3, by rw [List.foldl_cons, List.length_cons]; omega⟩
theorem mkT_good (l : List Bk) : Good (mkT l) 100 := (mkAll_good l).1
theorem mkT_root (l : List Bk) : (mkT l)[0]? = some (nmN 0, 0, -1) := (mkAll_good l).2.1
theorem OwnG.zerosN (n : Nat) : OwnG (List.replicate n 0) := by
  have := OwnG.none.zeros n
  rwa [List.nil_append] at this
theorem mkO_own (l : List Bk) : OwnG (mkO l) := appW_ok (OwnG.zerosN _) _ _
theorem mkO_length (l : List Bk) : (mkO l).length = (mkT l).length := appW_length (OwnG.zerosN _) (by rw [List.length_replicate]; exact Nat.le_refl _) _
end Go.Proofs.Ytjodhagjfjgbcaa
