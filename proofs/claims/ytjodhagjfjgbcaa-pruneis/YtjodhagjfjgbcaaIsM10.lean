/-
  The texts Less0, Ord0, Weigh1, RefLess, one behind the other.
-/
import Derived.Test.YtjodhagjfjgbcaaCBlk
import Derived.Stop.BytesEq
import Derived.BigQuiet
import Derived.Deep.QuietTactic
import Derived.Lib.BytesEntry
import Derived.Laws.Externs
import Derived.Test.YtjodhagjfjgbcaaIsM5
/-
  What Less answers.
-/
namespace Go.Proofs.Ytjodhagjfjgbcaa
open Go.RowKit
set_option maxRecDepth 10000

/-- A digest comes ahead of another one. -/
def lessB (r s : List UInt8) : Bool := decide (Lib.compareBytes r s < 0)

theorem bytesOf_ints (l : List UInt8) : Lib.bytesOf (l.map fun b => (b.toNat : Int)) = l := by
  rw [Lib.bytesOf, List.map_map]
  conv => rhs; rw [← List.map_id l]
  congr 1
  funext b
  simp

theorem load_bytes {w : World} {g : Nat} {t : TypeId} {l : List UInt8} (h : Blk w g t (bv l)) (n c : Nat) (hn : l.length = n) : (Extern.Bytes.bytesOf (.slice (some ⟨g, 0, none⟩) n c)).run Try.prog w = .ok ⟨l.toArray⟩ w := by
  have hl := Lib.run_loadBytesX (P := Try.prog) w (l.map fun b => (b.toNat : Int)) ⟨g, 0, none⟩ .empty (fun j x hj => by
    rw [Addr.add_lit, Nat.zero_add, h.cell]
    rw [List.getElem?_map] at hj
    cases hx : l[j]? with
    | none => rw [hx] at hj; cases hj
    | some y => rw [hx] at hj; cases hj; simp [bv, hx])
  rw [bytesOf_ints, List.length_map, hn] at hl
  simpa [Extern.Bytes.bytesOf] using hl

theorem cmp_run {w : World} {g1 g2 : Nat} {t1 t2 : TypeId} {r s : List UInt8} (h1 : Blk w g1 t1 (bv r)) (h2 : Blk w g2 t2 (bv s)) (hr : r.length = 32) (hs : s.length = 32) :
    (callFunc 68 #[.slice (some ⟨g1, 0, none⟩) 32 32, .slice (some ⟨g2, 0, none⟩) 32 32]).run Try.prog w = .ok (.value (.int .i64 (Lib.compareBytes r s))) w := by
  rw [run_callFunc_extern Try.func68 (by kernel_rfl) (by kernel_rfl) (by kernel_rfl) (e := Extern.BytealgCompare.compare) (by kernel_rfl)]
  have hc : (Extern.BytealgCompare.compare #[.slice (some ⟨g1, 0, none⟩) 32 32, .slice (some ⟨g2, 0, none⟩) 32 32]).run Try.prog w = .ok (.int .i64 (Lib.compareBytes r s)) w := by
    change Sem.run Try.prog (do pure (goInt (Extern.BytealgCompare.cmp (← Extern.Bytes.bytesOf (.slice (some ⟨g1, 0, none⟩) 32 32)) (← Extern.Bytes.bytesOf (.slice (some ⟨g2, 0, none⟩) 32 32))))) w = _
    simp only [Sem.run_bind, load_bytes h1 32 32 hr, load_bytes h2 32 32 hs, Result.andThen, Sem.run_pure]
    rw [Lib.cmp_eq]
    rfl
  rw [hc]
  rfl

theorem compare_any (w : World) (g1 g2 : Nat) (t1 t2 : TypeId) (r s : List UInt8) (h1 : Blk w g1 t1 (bv r)) (h2 : Blk w g2 t2 (bv s)) (hr : r.length = 32) (hs : s.length = 32) :
    Calls Try.prog 67 #[.slice (some ⟨g1, 0, none⟩) 32 32, .slice (some ⟨g2, 0, none⟩) 32 32] w fun e w' => e = .returned (.int .i64 (Lib.compareBytes r s)) ∧ w' = w := by
  have hc := cmp_run h1 h2 hr hs
  clear h1 h2
  go_enter Try.func67, Try.ntmps67
  go_wp2_with fail
  go_ret
  exact ⟨rfl, rfl⟩

set_option maxHeartbeats 1000000 in
theorem less_any (w : World) (r s : List UInt8) (hr : r.length = 32) (hs : s.length = 32) :
    Calls Try.prog 64 #[.agg (bv r).toArray, .agg (bv s).toArray] w fun e w' => e = .returned (.bool (lessB r s)) ∧ Below w.heap.size w w' := by
  have h1 := (Blk.new w 24 (bv r).toArray).alloc (.cells (bv s).toArray 24)
  have h2 := Blk.new (w.alloc (.cells (bv r).toArray 24)) 24 (bv s).toArray
  have hb : Below w.heap.size w ((w.alloc (.cells (bv r).toArray 24)).alloc (.cells (bv s).toArray 24)) := ((Below.refl _ _).alloc (Nat.le_refl _) _).alloc (by simp) _
  simp only [World.size_alloc] at h2
  have H1 := Lib.hid h1
  have H2 := Lib.hid h2
  have HB := Lib.hid hb
  clear h1 h2 hb
  go_enter Try.func64, Try.ntmps64
  go_wp2_with fail
  generalize (w.alloc (.cells (bv r).toArray 24)).alloc (.cells (bv s).toArray 24) = w1 at H1 H2 HB ⊢
  go_quiet ((go_at_call 67; refine Calls.quiet_of_same (compare_any _ _ _ 24 24 r s (H1.out.drewN _) (H2.out.drewN _) hr hs)))
  go_wp2_with fail
  go_ret
  exact ⟨rfl, below_drewN' HB.out nq⟩
end Go.Proofs.Ytjodhagjfjgbcaa

/-
  Less is an order: plain mathematics.
-/
namespace Go.Proofs.Ytjodhagjfjgbcaa

theorem lessB_cons (a b : UInt8) (r s : List UInt8) : lessB (a :: r) (b :: s) = if a < b then true else if b < a then false else lessB r s := by
  unfold lessB
  rw [Lib.compareBytes]
  split
  · simp
  · split
    · simp
    · rfl

theorem less_self : ∀ (r : List UInt8), lessB r r = false
  | [] => rfl
  | a :: r => by rw [lessB_cons, if_neg (UInt8.lt_irrefl a), if_neg (UInt8.lt_irrefl a)]; exact less_self r

theorem less_tri : ∀ (r s : List UInt8), r.length = s.length → r ≠ s → (lessB r s = true ∧ lessB s r = false) ∨ (lessB r s = false ∧ lessB s r = true)
  | [], [], _, h => absurd rfl h
  | [], b :: s, hl, _ => by simp at hl
  | a :: r, [], hl, _ => by simp at hl
  | a :: r, b :: s, hl, h => by
    rw [lessB_cons, lessB_cons]
    by_cases h1 : a < b
    · have h2 : ¬ b < a := UInt8.lt_asymm h1
      simp [h1, h2]
    · by_cases h2 : b < a
      · simp [h1, h2]
      · have hab : a = b := UInt8.le_antisymm (UInt8.not_lt.1 h2) (UInt8.not_lt.1 h1)
        subst hab
        simp only [h1, if_false]
        exact less_tri r s (by simpa using hl) (fun e => h (by rw [e]))

theorem less_trans : ∀ (r s t : List UInt8), r.length = s.length → s.length = t.length → lessB r s = true → lessB s t = true → lessB r t = true
  | [], [], _, _, _, h, _ => by simp [lessB, Lib.compareBytes] at h
  | [], b :: s, _, hl, _, _, _ => by simp at hl
  | a :: r, [], _, hl, _, _, _ => by simp at hl
  | _ :: _, _ :: _, [], _, hl, _, _ => by simp at hl
  | a :: r, b :: s, c :: t, hl, hl2, h1, h2 => by
    rw [lessB_cons] at h1 h2 ⊢
    by_cases ab : a < b
    · by_cases bc : b < c
      · rw [if_pos (UInt8.lt_trans ab bc)]
      · by_cases cb : c < b
        · simp [bc, cb] at h2
        · have hbc : b = c := UInt8.le_antisymm (UInt8.not_lt.1 cb) (UInt8.not_lt.1 bc)
          subst hbc
          rw [if_pos ab]
    · by_cases ba : b < a
      · simp [ab, ba] at h1
      · have hab : a = b := UInt8.le_antisymm (UInt8.not_lt.1 ba) (UInt8.not_lt.1 ab)
        subst hab
        simp only [ab, if_false] at h1
        by_cases bc : a < c
        · rw [if_pos bc]
        · by_cases cb : c < a
          · simp [bc, cb] at h2
          · simp only [bc, cb, if_false] at h2 ⊢
            exact less_trans r s t (by simpa using hl) (by simpa using hl2) h1 h2

end Go.Proofs.Ytjodhagjfjgbcaa

/-
  Best children, the head, what deltas make of own weights, plainly; the stages in which weights are worked out from the last place to the first. It holds of every program.
-/
namespace Go.Proofs.Ytjodhagjfjgbcaa
open Go

/-- The stage in which all places above p have been added to their parents. -/
def stW (t : List Nd) (own : List Int) (p i : Nat) : Int := owZ own i + smZ (fun k => if parW t k = (i : Int) ∧ p < k then wtW t own k else 0) own.length
theorem stW_start {t : List Nd} {own : List Int} {p : Nat} (h : own.length ≤ p + 1) (i : Nat) : stW t own p i = owZ own i := by
  unfold stW
  rw [smZ_none _ (fun k hk => if_neg (fun x => by have := x.2; omega))]; omega
theorem Good.stW_step {t : List Nd} {most : Int} (_G : Good t most) {own : List Int} {p : Nat} (h0 : 0 < p) (h : p < own.length) (i : Nat) : stW t own (p - 1) i = stW t own p i + if parW t p = (i : Int) then wtW t own p else 0 := by
  unfold stW
  rw [smZ_congr (g := fun k => (if parW t k = (i : Int) ∧ p < k then wtW t own k else 0) + (if k = p then (if parW t p = (i : Int) then wtW t own p else 0) else 0)) _ (fun k _ => by
    by_cases e : k = p
    · subst e
      rw [if_pos rfl, if_neg (c := parW t k = (i : Int) ∧ k < k) (fun x => by have := x.2; omega)]
      by_cases h1 : parW t k = (i : Int)
      · rw [if_pos ⟨h1, by omega⟩, if_pos h1]; omega
      · rw [if_neg (fun x => h1 x.1), if_neg h1]; rfl
    · rw [if_neg e]
      by_cases h1 : parW t k = (i : Int) ∧ p < k
      · rw [if_pos h1, if_pos ⟨h1.1, by omega⟩]; omega
      · rw [if_neg h1, if_neg (fun x => h1 ⟨x.1, by have := x.2; omega⟩)]; rfl), smZ_add,
    smZ_one (q := p) (f := fun k => if k = p then (if parW t p = (i : Int) then wtW t own p else 0) else 0) _ h (fun k _ hne => if_neg hne), if_pos rfl]
  omega
theorem Good.stW_self {t : List Nd} {most : Int} (G : Good t most) (own : List Int) {p i : Nat} (h : p ≤ i) : stW t own p i = wtW t own i := by
  rw [G.wtW_eq]
  unfold stW
  congr 1
  refine smZ_congr _ fun k _ => ?_
  by_cases h1 : parW t k = (i : Int)
  · have := G.parW_lt k
    rw [if_pos h1, if_pos ⟨h1, by omega⟩]
  · rw [if_neg h1, if_neg (fun x => h1 x.1)]
theorem Good.stW_end {t : List Nd} {most : Int} (G : Good t most) (own : List Int) (i : Nat) : stW t own 0 i = wtW t own i := G.stW_self own (Nat.zero_le _)
theorem Good.stW_le {t : List Nd} {most : Int} (G : Good t most) {own : List Int} (h : OwnG own) (p i : Nat) : 0 ≤ stW t own p i ∧ stW t own p i ≤ wtW t own i := by
  rw [G.wtW_eq]
  unfold stW
  have h1 := h.owZ i
  have h2 := smZ_nonneg (f := fun k => if parW t k = (i : Int) ∧ p < k then wtW t own k else 0) own.length (fun k _ => by
    have := wtW_nonneg h t k
    split <;> omega)
  have h3 := smZ_le (f := fun k => if parW t k = (i : Int) ∧ p < k then wtW t own k else 0) (g := fun k => if parW t k = (i : Int) then wtW t own k else 0) own.length (fun k _ => by
    have := wtW_nonneg h t k
    by_cases h1 : parW t k = (i : Int)
    · rw [if_pos h1]; split <;> omega
    · rw [if_neg h1, if_neg (fun x => h1 x.1)]; exact Int.le_refl _)
  omega
def sumsL (t : List Nd) (own : List Int) (p : Nat) : List Int := (List.range own.length).map (stW t own p)
theorem sumsL_length (t : List Nd) (own : List Int) (p : Nat) : (sumsL t own p).length = own.length := by simp [sumsL]
theorem sumsL_at {t : List Nd} {own : List Int} {p i : Nat} (h : i < own.length) : (sumsL t own p)[i]? = some (stW t own p i) := by simp [sumsL, h]
theorem sumsL_start {t : List Nd} {own : List Int} {p : Nat} (h : own.length ≤ p + 1) : sumsL t own p = own := by
  apply List.ext_getElem?
  intro i
  by_cases hi : i < own.length
  · rw [sumsL_at hi, stW_start h, List.getElem?_eq_getElem hi, owZ_at (List.getElem?_eq_getElem hi)]
  · rw [List.getElem?_eq_none (by rw [sumsL_length]; omega), List.getElem?_eq_none (by omega)]
theorem Good.sumsL_step {t : List Nd} {most : Int} (G : Good t most) {own : List Int} {p q : Nat} (h0 : 0 < p) (h : p < own.length) (hq : parW t p = (q : Int)) :
    (sumsL t own p).set q (stW t own p q + wtW t own p) = sumsL t own (p - 1) := by
  have hqp := G.parW_lt p
  apply List.ext_getElem?
  intro i
  by_cases hi : i < own.length
  · rw [sumsL_at hi, G.stW_step h0 h, hq]
    by_cases e : q = i
    · subst e
      rw [List.getElem?_set_self (by rw [sumsL_length]; omega), if_pos rfl]
    · rw [List.getElem?_set_ne e, sumsL_at hi, if_neg (by omega), Int.add_zero]
  · rw [List.getElem?_eq_none (by rw [List.length_set, sumsL_length]; omega), List.getElem?_eq_none (by rw [sumsL_length]; omega)]
def wtsL (t : List Nd) (own : List Int) : List Int := (List.range own.length).map (wtW t own)
theorem wtsL_length (t : List Nd) (own : List Int) : (wtsL t own).length = own.length := by simp [wtsL]
theorem wtsL_at {t : List Nd} {own : List Int} {i : Nat} (h : i < own.length) : (wtsL t own)[i]? = some (wtW t own i) := by simp [wtsL, h]
theorem Good.sumsL_end {t : List Nd} {most : Int} (G : Good t most) (own : List Int) : sumsL t own 0 = wtsL t own := by
  unfold sumsL wtsL
  exact List.map_congr_left fun i _ => G.stW_end own i

/-- Block k is a better child than block j. -/
def btW (t : List Nd) (own : List Int) (k j : Nat) : Bool := decide (wtW t own j < wtW t own k) || (decide (wtW t own k = wtW t own j) && lessB (pnm t (j : Int)) (pnm t (k : Int)))
theorem Good.pnm_ne {t : List Nd} {most : Int} (G : Good t most) {j k : Nat} (hj : j < t.length) (hk : k < t.length) (h : j ≠ k) : pnm t (j : Int) ≠ pnm t (k : Int) := fun e => by
  have h1 := List.getElem?_eq_getElem hj
  have h2 := List.getElem?_eq_getElem hk
  simp only [pnm, nodeAt_nat, h1, h2] at e
  exact h (G.at_inj h1 h2 e)
theorem Good.btW_tri {t : List Nd} {most : Int} (G : Good t most) (own : List Int) {j k : Nat} (hj : j < t.length) (hk : k < t.length) (h : j ≠ k) : (btW t own k j = true ∧ btW t own j k = false) ∨ (btW t own k j = false ∧ btW t own j k = true) := by
  have h1 := less_tri (pnm t (j : Int)) (pnm t (k : Int)) (by rw [G.pnm_len, G.pnm_len]) (G.pnm_ne hj hk h)
  unfold btW
  rcases Int.lt_trichotomy (wtW t own j) (wtW t own k) with h2 | h2 | h2
  · left; simp [h2, show ¬ wtW t own k < wtW t own j by omega, show ¬ wtW t own j = wtW t own k by omega]
  · rcases h1 with ⟨h3, h4⟩ | ⟨h3, h4⟩
    · left; simp [h2, h3, h4]
    · right; simp [h2, h3, h4]
  · right; simp [h2, show ¬ wtW t own j < wtW t own k by omega, show ¬ wtW t own k = wtW t own j by omega]
theorem Good.btW_trans {t : List Nd} {most : Int} (G : Good t most) (own : List Int) {i j k : Nat} (h1 : btW t own i j = true) (h2 : btW t own j k = true) : btW t own i k = true := by
  unfold btW at h1 h2 ⊢
  rw [Bool.or_eq_true, Bool.and_eq_true, decide_eq_true_eq, decide_eq_true_eq] at h1 h2 ⊢
  rcases h1 with h1 | ⟨h1, h3⟩
  · rcases h2 with h2 | ⟨h2, h4⟩ <;> left <;> omega
  · rcases h2 with h2 | ⟨h2, h4⟩
    · left; omega
    · right
      exact ⟨by omega, less_trans _ _ _ (by rw [G.pnm_len, G.pnm_len]) (by rw [G.pnm_len, G.pnm_len]) h4 h3⟩

/-- b is the best one of the children that K names; -1: there is none. -/
def IsBw (t : List Nd) (own : List Int) (K : Nat → Prop) (b : Int) : Prop := (b = -1 ∧ ∀ k, ¬ K k) ∨ ∃ q : Nat, b = (q : Int) ∧ K q ∧ ∀ k, K k → k ≠ q → btW t own q k = true
theorem Good.isBw_one {t : List Nd} {most : Int} (G : Good t most) {own : List Int} {K : Nat → Prop} (hK : ∀ k, K k → k < t.length) {a b : Int} (ha : IsBw t own K a) (hb : IsBw t own K b) : a = b := by
  rcases ha with ⟨rfl, ha⟩ | ⟨q, rfl, hq, ha⟩
  · rcases hb with ⟨rfl, _⟩ | ⟨r, rfl, hr, _⟩
    · rfl
    · exact absurd hr (ha r)
  · rcases hb with ⟨rfl, hb⟩ | ⟨r, rfl, hr, hb⟩
    · exact absurd hq (hb q)
    · by_cases e : q = r
      · rw [e]
      · have h1 := ha r hr (fun x => e x.symm)
        have h2 := hb q hq e
        rcases G.btW_tri own (hK q hq) (hK r hr) e with ⟨h3, h4⟩ | ⟨h3, h4⟩
        · rw [h1] at h4; cases h4
        · rw [h2] at h3; cases h3
theorem IsBw.congr {t : List Nd} {own : List Int} {K K' : Nat → Prop} {b : Int} (h : IsBw t own K b) (e : ∀ k, K k ↔ K' k) : IsBw t own K' b := by
  rcases h with ⟨h1, h2⟩ | ⟨q, h1, h2, h3⟩
  · exact .inl ⟨h1, fun k hk => h2 k ((e k).2 hk)⟩
  · exact .inr ⟨q, h1, (e q).1 h2, fun k hk => h3 k ((e k).2 hk)⟩
/-- One more. -/
def nxW (t : List Nd) (own : List Int) (k : Nat) (b : Int) : Int := if b < 0 ∨ btW t own k b.toNat = true then (k : Int) else b
theorem Good.isBw_next {t : List Nd} {most : Int} (G : Good t most) {own : List Int} {K : Nat → Prop} (hK : ∀ k, K k → k < t.length) {b : Int} (h : IsBw t own K b) {n : Nat} (hn : n < t.length) (hnK : ¬ K n) : IsBw t own (fun k => K k ∨ k = n) (nxW t own n b) := by
  unfold nxW
  rcases h with ⟨rfl, h2⟩ | ⟨q, rfl, h2, h3⟩
  · rw [if_pos (.inl (by decide))]
    exact .inr ⟨n, rfl, .inr rfl, fun k hk hne => by
      rcases hk with hk | hk
      · exact absurd hk (h2 k)
      · exact absurd hk hne⟩
  · have hqn : q ≠ n := fun e => hnK (e ▸ h2)
    rw [Int.toNat_natCast]
    by_cases hb : btW t own n q = true
    · rw [if_pos (.inr hb)]
      exact .inr ⟨n, rfl, .inr rfl, fun k hk hne => by
        rcases hk with hk | hk
        · by_cases e : k = q
          · rw [e]; exact hb
          · exact G.btW_trans own hb (h3 k hk e)
        · exact absurd hk hne⟩
    · rw [if_neg (fun x => by rcases x with x | x; · omega
                              · exact hb x)]
      refine .inr ⟨q, rfl, .inl h2, fun k hk hne => ?_⟩
      rcases hk with hk | hk
      · exact h3 k hk hne
      · subst hk
        rcases G.btW_tri own (hK q h2) hn hqn with ⟨h4, h5⟩ | ⟨h4, h5⟩
        · exact absurd h4 hb
        · exact h5

/-- The best child: from the first place on. -/
def bsN (t : List Nd) (own : List Int) (i : Nat) : Nat → Int
  | 0 => -1
  | n + 1 => if parW t n = (i : Int) then nxW t own n (bsN t own i n) else bsN t own i n
def bsW (t : List Nd) (own : List Int) (i : Nat) : Int := bsN t own i own.length
theorem Good.bsN_is {t : List Nd} {most : Int} (G : Good t most) (own : List Int) (i : Nat) : ∀ n : Nat, n ≤ t.length → IsBw t own (fun k => k < n ∧ parW t k = (i : Int)) (bsN t own i n)
  | 0, _ => .inl ⟨rfl, fun k h => by omega⟩
  | n + 1, h => by
    have ih := Good.bsN_is G own i n (by omega)
    rw [bsN]
    by_cases hp : parW t n = (i : Int)
    · rw [if_pos hp]
      refine (G.isBw_next (fun k hk => by omega) ih (n := n) (by omega) (fun x => by omega)).congr fun k => ?_
      constructor
      · rintro (⟨h1, h2⟩ | rfl)
        · exact ⟨by omega, h2⟩
        · exact ⟨by omega, hp⟩
      · rintro ⟨h1, h2⟩
        by_cases e : k = n
        · exact .inr e
        · exact .inl ⟨by omega, h2⟩
    · rw [if_neg hp]
      refine ih.congr fun k => ?_
      constructor
      · rintro ⟨h1, h2⟩; exact ⟨by omega, h2⟩
      · rintro ⟨h1, h2⟩
        refine ⟨?_, h2⟩
        by_cases e : k = n
        · subst e; exact absurd h2 hp
        · omega
theorem Good.bsW_is {t : List Nd} {most : Int} (G : Good t most) {own : List Int} (h : own.length ≤ t.length) (i : Nat) : IsBw t own (fun k => k < own.length ∧ parW t k = (i : Int)) (bsW t own i) := G.bsN_is own i _ h
/-- .. and from the last one down to those above p. -/
def bdN (t : List Nd) (own : List Int) (i : Nat) : Nat → Int
  | 0 => -1
  | m + 1 => if parW t (own.length - 1 - m) = (i : Int) then nxW t own (own.length - 1 - m) (bdN t own i m) else bdN t own i m
theorem Good.bdN_is {t : List Nd} {most : Int} (G : Good t most) {own : List Int} (hl : own.length ≤ t.length) (i : Nat) : ∀ m : Nat, m ≤ own.length → IsBw t own (fun k => own.length ≤ k + m ∧ k < own.length ∧ parW t k = (i : Int)) (bdN t own i m)
  | 0, _ => .inl ⟨rfl, fun k h => by omega⟩
  | m + 1, h => by
    have ih := Good.bdN_is G hl i m (by omega)
    rw [bdN]
    by_cases hp : parW t (own.length - 1 - m) = (i : Int)
    · rw [if_pos hp]
      refine (G.isBw_next (fun k hk => by omega) ih (n := own.length - 1 - m) (by omega) (fun x => by omega)).congr fun k => ?_
      constructor
      · rintro (⟨h1, h2, h3⟩ | rfl)
        · exact ⟨by omega, h2, h3⟩
        · exact ⟨by omega, by omega, hp⟩
      · rintro ⟨h1, h2, h3⟩
        by_cases e : k = own.length - 1 - m
        · exact .inr e
        · exact .inl ⟨by omega, h2, h3⟩
    · rw [if_neg hp]
      refine ih.congr fun k => ?_
      constructor
      · rintro ⟨h1, h2⟩; exact ⟨by omega, h2⟩
      · rintro ⟨h1, h2, h3⟩
        refine ⟨?_, h2, h3⟩
        by_cases e : k = own.length - 1 - m
        · subst e; exact absurd h3 hp
        · omega
def bdW (t : List Nd) (own : List Int) (p i : Nat) : Int := bdN t own i (own.length - 1 - p)
theorem bdW_start {t : List Nd} {own : List Int} {p : Nat} (h : own.length ≤ p + 1) (i : Nat) : bdW t own p i = -1 := by
  unfold bdW
  rw [show own.length - 1 - p = 0 by omega]; rfl
theorem bdW_step {t : List Nd} {own : List Int} {p : Nat} (h0 : 0 < p) (h : p < own.length) (i : Nat) : bdW t own (p - 1) i = if parW t p = (i : Int) then nxW t own p (bdW t own p i) else bdW t own p i := by
  unfold bdW
  rw [show own.length - 1 - (p - 1) = own.length - 1 - p + 1 by omega, bdN, show own.length - 1 - (own.length - 1 - p) = p by omega]
theorem Good.bdW_end {t : List Nd} {most : Int} (G : Good t most) {own : List Int} (hl : own.length ≤ t.length) (i : Nat) : bdW t own 0 i = bsW t own i := by
  refine G.isBw_one (K := fun k => k < own.length ∧ parW t k = (i : Int)) (fun k hk => by omega) ?_ (G.bsW_is hl i)
  refine (G.bdN_is hl i (own.length - 1 - 0) (by omega)).congr fun k => ?_
  constructor
  · rintro ⟨_, h2, h3⟩; exact ⟨h2, h3⟩
  · rintro ⟨h2, h3⟩
    have := G.parW_lt k
    exact ⟨by omega, h2, h3⟩
/-- Where the best child that is known at a stage stands. -/
theorem Good.bdW_place {t : List Nd} {most : Int} (G : Good t most) {own : List Int} (hl : own.length ≤ t.length) (p i : Nat) : bdW t own p i = -1 ∨ ∃ k : Nat, bdW t own p i = (k : Int) ∧ p < k ∧ k < own.length ∧ parW t k = (i : Int) := by
  by_cases h : p < own.length
  · rcases G.bdN_is hl i (own.length - 1 - p) (by omega) with ⟨h1, _⟩ | ⟨q, h1, ⟨h2, h3, h4⟩, _⟩
    · exact .inl h1
    · exact .inr ⟨q, h1, by omega, h3, h4⟩
  · exact .inl (bdW_start (by omega) i)
def bestsL (t : List Nd) (own : List Int) (p : Nat) : List Int := (List.range own.length).map (bdW t own p)
theorem bestsL_length (t : List Nd) (own : List Int) (p : Nat) : (bestsL t own p).length = own.length := by simp [bestsL]
theorem bestsL_at {t : List Nd} {own : List Int} {p i : Nat} (h : i < own.length) : (bestsL t own p)[i]? = some (bdW t own p i) := by simp [bestsL, h]
theorem bestsL_start {t : List Nd} {own : List Int} {p : Nat} (h : own.length ≤ p + 1) : bestsL t own p = List.replicate own.length (-1) := by
  unfold bestsL
  rw [List.map_congr_left (g := fun _ => (-1 : Int)) (fun i _ => bdW_start h i)]
  apply List.ext_getElem?
  intro i
  by_cases hi : i < own.length
  · simp [hi]
  · simp [hi]
theorem Good.bestsL_hit {t : List Nd} {most : Int} (G : Good t most) {own : List Int} {p q : Nat} (h0 : 0 < p) (h : p < own.length) (hq : parW t p = (q : Int)) (hb : bdW t own p q < 0 ∨ btW t own p (bdW t own p q).toNat = true) : (bestsL t own p).set q (p : Int) = bestsL t own (p - 1) := by
  have hqp := G.parW_lt p
  apply List.ext_getElem?
  intro i
  by_cases hi : i < own.length
  · rw [bestsL_at hi, bdW_step h0 h, hq]
    by_cases e : q = i
    · subst e
      rw [List.getElem?_set_self (by rw [bestsL_length]; omega), if_pos rfl, nxW, if_pos hb]
    · rw [List.getElem?_set_ne e, bestsL_at hi, if_neg (by omega)]
  · rw [List.getElem?_eq_none (by rw [List.length_set, bestsL_length]; omega), List.getElem?_eq_none (by rw [bestsL_length]; omega)]
theorem Good.bestsL_miss {t : List Nd} {most : Int} (_G : Good t most) {own : List Int} {p q : Nat} (h0 : 0 < p) (h : p < own.length) (hq : parW t p = (q : Int)) (hb : ¬ (bdW t own p q < 0 ∨ btW t own p (bdW t own p q).toNat = true)) : bestsL t own p = bestsL t own (p - 1) := by
  apply List.ext_getElem?
  intro i
  by_cases hi : i < own.length
  · rw [bestsL_at hi, bestsL_at hi, bdW_step h0 h, hq]
    by_cases e : q = i
    · subst e
      rw [if_pos rfl, nxW, if_neg hb]
    · rw [if_neg (by omega)]
  · rw [List.getElem?_eq_none (by rw [bestsL_length]; omega), List.getElem?_eq_none (by rw [bestsL_length]; omega)]
def bssL (t : List Nd) (own : List Int) : List Int := (List.range own.length).map (bsW t own)
theorem bssL_length (t : List Nd) (own : List Int) : (bssL t own).length = own.length := by simp [bssL]
theorem bssL_at {t : List Nd} {own : List Int} {i : Nat} (h : i < own.length) : (bssL t own)[i]? = some (bsW t own i) := by simp [bssL, h]
theorem Good.bestsL_end {t : List Nd} {most : Int} (G : Good t most) {own : List Int} (hl : own.length ≤ t.length) : bestsL t own 0 = bssL t own := List.map_congr_left fun i _ => G.bdW_end hl i
/-- Where the best child stands. -/
theorem Good.bsW_place {t : List Nd} {most : Int} (G : Good t most) {own : List Int} (hl : own.length ≤ t.length) (i : Nat) : (bsW t own i = -1 ∧ ∀ k, k < own.length → parW t k ≠ (i : Int)) ∨ ∃ k : Nat, bsW t own i = (k : Int) ∧ i < k ∧ k < own.length ∧ parW t k = (i : Int) := by
  rcases G.bsW_is hl i with ⟨h1, h2⟩ | ⟨q, h1, ⟨h2, h3⟩, _⟩
  · exact .inl ⟨h1, fun k hk hp => h2 k ⟨hk, hp⟩⟩
  · have := G.parW_lt q
    exact .inr ⟨q, h1, by omega, h2, h3⟩

/-- The head: from the first block on, always to the best child. -/
def hdN (t : List Nd) (own : List Int) : Nat → Nat → Nat
  | 0, i => i
  | f + 1, i => if bsW t own i < 0 then i else hdN t own f (bsW t own i).toNat
def hdF (t : List Nd) (own : List Int) (i : Nat) : Nat := hdN t own (own.length - i) i
def hdW (t : List Nd) (own : List Int) : Nat := hdF t own 0
theorem Good.hdN_more {t : List Nd} {most : Int} (G : Good t most) {own : List Int} (hl : own.length ≤ t.length) : ∀ (f g i : Nat), own.length ≤ i + f → own.length ≤ i + g → hdN t own f i = hdN t own g i
  | 0, 0, _, _, _ => rfl
  | 0, g + 1, i, h, _ => by
    rw [hdN, hdN]
    rcases G.bsW_place hl i with ⟨h1, _⟩ | ⟨k, _, h2, h3, _⟩
    · rw [if_pos (by omega)]
    · omega
  | f + 1, 0, i, _, h => by
    rw [hdN, hdN]
    rcases G.bsW_place hl i with ⟨h1, _⟩ | ⟨k, _, h2, h3, _⟩
    · rw [if_pos (by omega)]
    · omega
  | f + 1, g + 1, i, h1, h2 => by
    rw [hdN, hdN]
    rcases G.bsW_place hl i with ⟨h3, _⟩ | ⟨k, h3, h4, h5, _⟩
    · rw [if_pos (by omega), if_pos (by omega)]
    · rw [if_neg (by omega), if_neg (by omega), h3, Int.toNat_natCast]
      exact Good.hdN_more G hl f g k (by omega) (by omega)
theorem Good.hdF_end {t : List Nd} {most : Int} (_G : Good t most) {own : List Int} {i : Nat} (h : bsW t own i < 0) : hdF t own i = i := by
  unfold hdF
  cases own.length - i with
  | zero => rfl
  | succ f => rw [hdN, if_pos h]
theorem Good.hdF_next {t : List Nd} {most : Int} (G : Good t most) {own : List Int} (hl : own.length ≤ t.length) {i k : Nat} (h : bsW t own i = (k : Int)) : hdF t own i = hdF t own k := by
  rcases G.bsW_place hl i with ⟨h3, _⟩ | ⟨k', h3, h4, h5, _⟩
  · omega
  · obtain rfl : k = k' := by omega
    unfold hdF
    obtain ⟨f, hf⟩ : ∃ f, own.length - i = f + 1 := ⟨own.length - i - 1, by omega⟩
    rw [hf, hdN, if_neg (by omega), h, Int.toNat_natCast]
    exact G.hdN_more hl _ _ k (by omega) (by omega)
theorem Good.hdF_is {t : List Nd} {most : Int} (G : Good t most) {own : List Int} (hl : own.length ≤ t.length) : ∀ (f i : Nat), i < own.length → own.length ≤ i + f → hdF t own i < own.length ∧ bsW t own (hdF t own i) = -1
  | 0, i, h, h2 => by omega
  | f + 1, i, h, h2 => by
    rcases G.bsW_place hl i with ⟨h3, _⟩ | ⟨k, h3, h4, h5, _⟩
    · rw [G.hdF_end (by omega)]; exact ⟨h, h3⟩
    · rw [G.hdF_next hl h3]; exact Good.hdF_is G hl f k h5 (by omega)

/-- What deltas make of own weights: the error's number, and what they have come to. -/
abbrev Dl := List UInt8 × Int
def okZ (n : Int) : Prop := 0 ≤ n ∧ n < 4611686018427387904
instance (n : Int) : Decidable (okZ n) := inferInstanceAs (Decidable (_ ∧ _))
def chgW (t : List Nd) : List Int → List Dl → Int × List Int
  | own, [] => (0, own)
  | own, d :: l =>
    if plc t d.1 < 0 then (7, own)
    else if d.2 ≤ -4611686018427387904 ∨ 4611686018427387904 ≤ d.2 then (1, own)
    else if okZ (owZ own (plc t d.1).toNat + d.2) then chgW t (own.set (plc t d.1).toNat (owZ own (plc t d.1).toNat + d.2)) l
    else (1, own)
def padW (t : List Nd) (own : List Int) : List Int := own ++ List.replicate (t.length - own.length) 0
theorem padW_length {t : List Nd} {own : List Int} (h : own.length ≤ t.length) : (padW t own).length = t.length := by simp [padW]; omega
/-- Apply: the error's number, and the own weights behind it. -/
def endW (own : List Int) (r : Int × List Int) : Int × List Int := if r.1 = 0 then (if totW r.2 < 4611686018427387904 then (0, r.2) else (1, own)) else (r.1, own)
def appW (t : List Nd) (own : List Int) (l : List Dl) : Int × List Int := endW (padW t own) (chgW t (padW t own) l)
def AllOk (own : List Int) : Prop := ∀ x ∈ own, okZ x
theorem OwnG.allOk {own : List Int} (h : OwnG own) : AllOk own := fun x hx => ⟨h.pos x hx, h.lt x hx⟩
theorem AllOk.owZ {own : List Int} (h : AllOk own) (k : Nat) : okZ (owZ own k) := by
  unfold Go.Proofs.Ytjodhagjfjgbcaa.owZ
  cases hk : own[k]? with
  | none => simp only [Option.getD_none]; exact ⟨Int.le_refl _, by decide⟩
  | some x => simp only [Option.getD_some]; exact h x (List.mem_of_getElem? hk)
theorem AllOk.set {own : List Int} (h : AllOk own) (k : Nat) {x : Int} (hx : okZ x) : AllOk (own.set k x) := fun y hy => by
  rcases List.mem_or_eq_of_mem_set hy with hy | rfl
  · exact h y hy
  · exact hx
theorem chgW_ok {t : List Nd} : ∀ (l : List Dl) (own : List Int), AllOk own → AllOk (chgW t own l).2 ∧ (chgW t own l).2.length = own.length
  | [], _, h => ⟨h, rfl⟩
  | d :: l, own, h => by
    rw [chgW]
    split
    · exact ⟨h, rfl⟩
    · split
      · exact ⟨h, rfl⟩
      · split
        · rename_i h3
          have := chgW_ok (t := t) l _ (h.set (plc t d.1).toNat h3)
          rw [List.length_set] at this
          exact this
        · exact ⟨h, rfl⟩
theorem endW_ok {own : List Int} (h : OwnG own) {r : Int × List Int} (hr : AllOk r.2) : OwnG (endW own r).2 := by
  unfold endW
  split
  · split
    · rename_i h2; exact ⟨fun x hx => (hr x hx).1, h2⟩
    · exact h
  · exact h
theorem OwnG.pad {own : List Int} (h : OwnG own) (t : List Nd) : OwnG (padW t own) := h.zeros _
theorem appW_ok {own : List Int} (h : OwnG own) (t : List Nd) (l : List Dl) : OwnG (appW t own l).2 := endW_ok (h.pad t) (chgW_ok l _ (h.pad t).allOk).1
theorem endW_length {own : List Int} {r : Int × List Int} (h : r.2.length = own.length) : (endW own r).2.length = own.length := by
  unfold endW
  split
  · split
    · exact h
    · rfl
  · rfl
theorem appW_length {own : List Int} (h : OwnG own) {t : List Nd} (hl : own.length ≤ t.length) (l : List Dl) : (appW t own l).2.length = t.length := by
  unfold appW
  rw [endW_length (chgW_ok l _ (h.pad t).allOk).2, padW_length hl]
theorem appW_none {own : List Int} (h : OwnG own) (t : List Nd) : appW t own [] = (0, padW t own) := by
  unfold appW endW
  rw [chgW, if_pos rfl, if_pos (h.pad t).tot]
end Go.Proofs.Ytjodhagjfjgbcaa

/-
  What the reference's Less answers.
-/
namespace Go.Proofs.Ytjodhagjfjgbcaa
open Go.RowKit
set_option maxRecDepth 10000

theorem less_same : ∀ (p r s : List UInt8), lessB (p ++ r) (p ++ s) = lessB r s
  | [], _, _ => rfl
  | a :: p, r, s => by rw [List.cons_append, List.cons_append, lessB_cons, if_neg (UInt8.lt_irrefl a), if_neg (UInt8.lt_irrefl a)]; exact less_same p r s

theorem split_at (r : List UInt8) (i : Nat) (x : UInt8) (h : r[i]? = some x) : r = r.take i ++ x :: r.drop (i + 1) := by
  obtain ⟨hi, rfl⟩ := List.getElem?_eq_some_iff.1 h
  rw [← List.drop_eq_getElem_cons hi, List.take_append_drop]

theorem less_at (r s : List UInt8) (i : Nat) (x y : UInt8) (hx : r[i]? = some x) (hy : s[i]? = some y) (hp : r.take i = s.take i) (hne : x ≠ y) : lessB r s = decide (x.toNat < y.toNat) := by
  rw [split_at r i x hx, split_at s i y hy, hp, less_same, lessB_cons]
  have h1 : x < y ↔ x.toNat < y.toNat := UInt8.lt_iff_toNat_lt
  have h2 : y < x ↔ y.toNat < x.toNat := UInt8.lt_iff_toNat_lt
  have h3 : x.toNat ≠ y.toNat := fun e => hne (UInt8.toNat_inj.1 e)
  by_cases h : x.toNat < y.toNat
  · rw [if_pos (h1.2 h)]; simp [h]
  · rw [if_neg (fun e => h (h1.1 e)), if_pos (h2.2 (by omega))]; simp [h]

structure TwoIn (w : World) (r s : List UInt8) (wr : World) : Prop where
  a : Blk wr w.heap.size 24 (bv r)
  b : Blk wr (w.heap.size + 1) 24 (bv s)
  hB : Below w.heap.size w wr
theorem TwoIn.drewN {w : World} {r s : List UInt8} {wr : World} (d : TwoIn w r s wr) (k : Nat) : TwoIn w r s (wr.drewN k) := ⟨d.a.drewN k, d.b.drewN k, below_drewN' d.hB k⟩

def RLRel (w : World) (r s : List UInt8) (x : Value) (wr : World) : Prop := ∃ i : Nat, x = .int .i64 (i : Int) ∧ i ≤ 32 ∧ r.take i = s.take i ∧ TwoIn w r s wr

set_option maxHeartbeats 1000000 in
theorem refless_any (w : World) (r s : List UInt8) (hr : r.length = 32) (hs : s.length = 32) :
    Calls Try.prog 56 #[.agg (bv r).toArray, .agg (bv s).toArray] w fun e w' => e = .returned (.bool (lessB r s)) ∧ Below w.heap.size w w' := by
  have h2 : TwoIn w r s ((w.alloc (.cells (bv r).toArray 24)).alloc (.cells (bv s).toArray 24)) := by
    have b := Blk.new (w.alloc (.cells (bv r).toArray 24)) 24 (bv s).toArray
    simp only [World.size_alloc] at b
    exact ⟨(Blk.new w 24 (bv r).toArray).alloc _, b, ((Below.refl _ _).alloc (Nat.le_refl _) _).alloc (by simp) _⟩
  have H2 := Lib.hid h2
  have HHR := Lib.hid hr
  have HHS := Lib.hid hs
  clear h2 hr hs
  go_enter Try.func56, Try.ntmps56
  go_wp2_with fail
  go_loopw [6] (fun x wr => RLRel w r s x wr) (fun x _ => 32 - intN x)
  case atStart => exact ⟨0, rfl, by omega, by simp, H2.out⟩
  case round =>
    clear H2
    obtain ⟨i, rfl, hi, hp, hR⟩ := hrel
    by_cases hlt : i < 32
    · have d0 : (i : Int) < 32 := by omega
      obtain ⟨x, hx⟩ : ∃ x, r[i]? = some x := ⟨_, List.getElem?_eq_getElem (by rw [HHR.out]; exact hlt)⟩
      obtain ⟨y, hy⟩ : ∃ y, s[i]? = some y := ⟨_, List.getElem?_eq_getElem (by rw [HHS.out]; exact hlt)⟩
      have q1 : wr.cell? ⟨w.heap.size, i, none⟩ = some (.int .u8 (x.toNat : Int)) := by rw [hR.a.cell]; simp [bv, hx]
      have q2 : wr.cell? ⟨w.heap.size + 1, i, none⟩ = some (.int .u8 (y.toNat : Int)) := by rw [hR.b.cell]; simp [bv, hy]
      obtain ⟨n, hn⟩ : ∃ n, n = x.toNat := ⟨_, rfl⟩
      obtain ⟨m, hm⟩ : ∃ m, m = y.toNat := ⟨_, rfl⟩
      rw [← hn] at q1
      rw [← hm] at q2
      have HR := Lib.hid hR
      by_cases hxy : x = y
      · have HP := Lib.hid (show r.take (i + 1) = s.take (i + 1) by rw [List.take_add_one, List.take_add_one, hp, hx, hy, hxy])
        obtain rfl : n = m := by rw [hn, hm, hxy]
        clear hp hx hy hn hm hxy hR
        go_wp2_with fail
        go_quiet (fail)
        go_wp2_with fail
        refine ⟨⟨i + 1, by simp, by omega, HP.out, HR.out.drewN nq⟩, ?_⟩
        simp only [intN]
        omega
      · have HA := Lib.hid (less_at r s i x y hx hy hp hxy)
        have hnm : ¬ ((n : Int) = (m : Int)) := by
          intro e
          have : x.toNat = y.toNat := by omega
          exact hxy (UInt8.toNat_inj.1 this)
        have HA2 := Lib.hid (show lessB r s = decide (n < m) by rw [HA.out, hn, hm])
        clear hp hx hy hn hm hxy HA hR
        go_wp2_with fail
        go_quiet (fail)
        have q1' : (wr.drewN nq).cell? ⟨w.heap.size, i, none⟩ = some (.int .u8 (n : Int)) := q1
        have q2' : (wr.drewN nq).cell? ⟨w.heap.size + 1, i, none⟩ = some (.int .u8 (m : Int)) := q2
        have hR2 := HR.out.drewN nq
        generalize wr.drewN nq = w2 at q1' q2' hR2 ⊢
        have HR2 := Lib.hid hR2
        clear q1 q2 HR hR2
        go_wp2_with fail
        go_quiet (fail)
        go_wp2_with fail
        go_ret
        refine ⟨?_, below_drewN' HR2.out.hB _⟩
        rw [HA2.out]
        rfl
    · obtain rfl : i = 32 := by omega
      have hrs : r = s := by
        rw [List.take_of_length_le (by rw [HHR.out]; omega), List.take_of_length_le (by rw [HHS.out]; omega)] at hp
        exact hp
      have HA := Lib.hid (show lessB r s = false by rw [hrs]; exact less_self s)
      have HB := Lib.hid hR.hB
      clear hR hp hrs
      go_wp2_with fail
      go_ret
      refine ⟨?_, HB.out⟩
      rw [HA.out]
      rfl

end Go.Proofs.Ytjodhagjfjgbcaa
