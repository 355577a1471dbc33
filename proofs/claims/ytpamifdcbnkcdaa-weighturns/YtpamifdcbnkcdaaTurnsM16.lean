/-
  The texts Acts11, Ask11, MoreApp, Two11, TurnsApp, one behind the other.
-/
import Derived.Test.YtpamifdcbnkcdaaCDo11
import Derived.Test.YtpamifdcbnkcdaaCAlive11
import Derived.Test.YtpamifdcbnkcdaaTurnsM14
/-
  Rows of acts as cells.
-/
namespace Go.Proofs.Ytpamifdcbnkcdaa
open Go Go.RowKit
set_option maxRecDepth 10000

def acvs (l : List Ac) : List Value := l.flatMap acv
theorem acvs_length : ∀ (l : List Ac), (acvs l).length = l.length * 6
  | [] => rfl
  | a :: l => by
    have h := acvs_length l
    rw [acvs, List.flatMap_cons, List.length_append, ← acvs, h, List.length_cons]
    simp [acv]; omega
theorem acvs_at : ∀ (l : List Ac) (i j : Nat) (a : Ac), l[i]? = some a → j < 6 → (acvs l)[i * 6 + j]? = (acv a)[j]?
  | [], i, j, a, h, _ => by simp at h
  | y :: l, 0, j, a, h, hj => by
    simp at h
    subst h
    rw [acvs, List.flatMap_cons, Nat.zero_mul, Nat.zero_add, List.getElem?_append_left (by simp [acv]; exact hj)]
  | y :: l, i + 1, j, a, h, hj => by
    have hy : (acv y).length = 6 := rfl
    rw [acvs, List.flatMap_cons, List.getElem?_append_right (by rw [hy]; omega), hy, show (i + 1) * 6 + j - 6 = i * 6 + j by omega, ← acvs]
    exact acvs_at l i j a (by simpa using h) hj
theorem Lies.act {w : World} {B b off : Nat} {ao : Option Addr} {l : List Ac} (h : Lies w B ao b off (acvs l)) {i : Nat} {a : Ac} (hi : l[i]? = some a) : ao = some ⟨b, off, none⟩ ∧ ∀ j v, (acv a)[j]? = some v → w.cell? ⟨b, off + i * 6 + j, none⟩ = some v := by
  have hl := (List.getElem?_eq_some_iff.1 hi).1
  refine ⟨h.addr (by rw [acvs_length]; omega), fun j v hj => ?_⟩
  have hj6 : j < 6 := by have := (List.getElem?_eq_some_iff.1 hj).1; simpa [acv] using this
  rw [Nat.add_assoc]
  exact h.cells _ v ((acvs_at l i j a hi hj6).trans hj)
theorem Try.sizeAct : (Try.prog.info? 40).map (·.size) = some 6 := by kernel_rfl
theorem Try.aggAct (w : World) : (isAgg 40).run Try.prog w = .ok true w := by
  unfold isAgg
  rw [Sem.run_bind, run_underlying Try.underlying40 w]
  rfl
theorem acv_one (a : Ac) : ∀ v ∈ acv a, v.oneCell' = true := fun v hv => by
  simp only [acv, List.mem_cons, List.not_mem_nil, or_false] at hv
  rcases hv with rfl | rfl | rfl | rfl | rfl | rfl <;> rfl
theorem prv_one (a b c : Nat) : ∀ v ∈ prv a b c, v.oneCell' = true := fun v hv => by
  simp only [prv, List.mem_cons, List.not_mem_nil, or_false] at hv
  rcases hv with rfl | rfl | rfl <;> rfl
section
variable {ops : Array Oper} {rest : List Oper} {o : Oper} {a : Act} {w : World} {Q : Exit → Act → World → Prop}
theorem wpList_load_act (y : Operand) (ho : o.op = .load 40 y) (hgd : o.guard = none) (g off : Nat) (x : Ac) (hx : a.eval y = .pointer (some ⟨g, off, none⟩)) (hc : ∀ j v, (acv x)[j]? = some v → w.cell? ⟨g, off + j, none⟩ = some v)
    (h : wpList Try.prog ops Q rest (a.put o.dst (.agg (acv x).toArray)) w) : wpList Try.prog ops Q (o :: rest) a w :=
  wpList_load_agg hgd 40 y ho g off (acv x) hx hc Try.aggAct Try.sizeAct h
theorem wpList_store_act (x y : Operand) (ho : o.op = .store 40 x y) (hgd : o.guard = none) (g : Nat) (n n' : Ac) (hx : a.eval x = .pointer (some ⟨g, 0, none⟩)) (hy : a.eval y = .agg (acv n').toArray) (hg : Blk w g 40 (acv n))
    (h : wpList Try.prog ops Q rest (a.put o.dst undef) (w.setRow g (acv n').toArray)) : wpList Try.prog ops Q (o :: rest) a w := by
  refine wpList_store_part hgd 40 x y ho g 0 (acv n') hx hy 40 (acv n) hg Try.sizeAct (Nat.le_refl _) (acv_one _) ?_
  rw [show splice (acv n) 0 (acv n') = acv n' from splice_all _ _ rfl]
  exact h
theorem wpList_load_pair (y : Operand) (ho : o.op = .load 37 y) (hgd : o.guard = none) (g tb wb rb : Nat) (hx : a.eval y = .pointer (some ⟨g, 0, none⟩)) (hg : Blk w g 37 (prv tb wb rb))
    (h : wpList Try.prog ops Q rest (a.put o.dst (.agg (prv tb wb rb).toArray)) w) : wpList Try.prog ops Q (o :: rest) a w :=
  wpList_load_agg hgd 37 y ho g 0 (prv tb wb rb) hx (fun j v hj => by rw [Nat.zero_add, hg.cell]; exact hj) Try.aggPair Try.sizePair h
theorem wpList_store_pair (x y : Operand) (ho : o.op = .store 37 x y) (hgd : o.guard = none) (g tb wb rb : Nat) (hx : a.eval x = .pointer (some ⟨g, 0, none⟩)) (hy : a.eval y = .agg (prv tb wb rb).toArray) (hg : Blk w g 37 [.pointer none, .pointer none, .pointer none])
    (h : wpList Try.prog ops Q rest (a.put o.dst undef) (w.setRow g (prv tb wb rb).toArray)) : wpList Try.prog ops Q (o :: rest) a w := by
  refine wpList_store_part hgd 37 x y ho g 0 (prv tb wb rb) hx hy 37 _ hg Try.sizePair (Nat.le_refl _) (prv_one _ _ _) ?_
  rw [show splice [.pointer none, .pointer none, .pointer none] 0 (prv tb wb rb) = prv tb wb rb from splice_all _ _ rfl]
  exact h
end
def ac0 : Ac := ⟨0, 0, 0, 0, 0, 0⟩

/-- What a row of acts makes of a tree and own weights. -/
def doAll (x : List Nd × List Int) (l : List Ac) : List Nd × List Int := l.foldl doP x
theorem doAll_next {x : List Nd × List Int} {l : List Ac} {k : Nat} {a : Ac} (h : l[k]? = some a) : doAll x (l.take (k + 1)) = doP (doAll x (l.take k)) a := by
  unfold doAll
  rw [List.take_add_one, h, List.foldl_append]
  rfl
end Go.Proofs.Ytpamifdcbnkcdaa

/-
  What a pair is asked: reading calls; the tree's names, in their rows.
-/
namespace Go.Proofs.Ytpamifdcbnkcdaa
open Go Go.RowKit
set_option maxRecDepth 10000

theorem doP_prefix (x : List Nd × List Int) (a : Ac) : x.1 <+: (doP x a).1 := by
  unfold doP
  split
  · exact addT_prefix 256 x.1 _ _ _
  · exact List.prefix_refl _
theorem doAll_prefix : ∀ (l : List Ac) (x : List Nd × List Int), x.1 <+: (doAll x l).1
  | [], _ => List.prefix_refl _
  | a :: l, x => (doP_prefix x a).trans (doAll_prefix l (doP x a))
theorem doAll_root (l : List Ac) : (doAll (root11, [0]) l).1[0]? = some (nmN 0, 0, -1) := by
  obtain ⟨s, hs⟩ := doAll_prefix l (root11, [0])
  rw [← hs]
  rfl
theorem tellZ_at {t : List Nd} {most : Int} (G : Good t most) {k N : Nat} {n : Nd} (h : t[k]? = some n) (hN : k < N) (dn : Int) (z : Nat → Int) : tellZ t N n.1 dn z = z k := by
  unfold tellZ
  rw [G.plc_at h, if_pos (by omega), Int.toNat_natCast]
theorem Good.kids_in {t : List Nd} {most : Int} (G : Good t most) {k : Nat} {n : Nd} (h : t[k]? = some n) {c : List UInt8} (hc : c ∈ kidsT t n.1) : ∃ (i : Nat) (x : Nd), t[i]? = some x ∧ x.1 = c ∧ parW t i = (k : Int) := by
  unfold kidsT at hc
  rw [G.plc_at h, if_pos (by omega), rs] at hc
  obtain ⟨x, hx, rfl⟩ := List.mem_map.1 hc
  obtain ⟨hx, hp⟩ := List.mem_filter.1 hx
  obtain ⟨i, hi, he⟩ := List.getElem_of_mem hx
  have hi' : t[i]? = some x := by rw [List.getElem?_eq_getElem hi, he]
  exact ⟨i, x, hi', rfl, by rw [parW_at hi']; simpa using hp⟩

theorem kids_le (t : List Nd) (r : List UInt8) : (kidsT t r).length ≤ t.length := by
  unfold kidsT
  split
  · rw [rs_length]
    exact List.length_filter_le _ _
  · exact Nat.zero_le _

section
variable {B : Nat} {K : List Nat} {w : World} {tb wb mb rb : Nat} {tx ty : List Nd} {ox oy : List Int}
theorem PSX.own (h : PSX B K w tb wb mb rb tx ty ox oy) (r : List UInt8) (hr : r.length = 32) :
    Calls Try.prog 13 #[.pointer (some ⟨wb, 0, none⟩), .agg (bv r).toArray] w fun e w' => e = .returned (.int .i64 (tellZ tx ox.length r 0 (owZ ox))) ∧ Below w.heap.size w w' := by
  obtain ⟨⟨G, F, M, R, h⟩, _, _⟩ := h
  exact own_any w G tb tx 256 F wb ox r h.tre h.wgt hr
theorem PSX.weight (h : PSX B K w tb wb mb rb tx ty ox oy) (r : List UInt8) (hr : r.length = 32) :
    Calls Try.prog 14 #[.pointer (some ⟨wb, 0, none⟩), .agg (bv r).toArray] w fun e w' => e = .returned (.int .i64 (tellZ tx ox.length r 0 (wtW tx ox))) ∧ Below w.heap.size w w' := by
  obtain ⟨⟨G, F, M, R, h⟩, _, _⟩ := h
  exact wt_any w G tb tx 256 F wb ox r h.tre h.wgt hr
theorem PSX.best (h : PSX B K w tb wb mb rb tx ty ox oy) (r : List UInt8) (hr : r.length = 32) :
    Calls Try.prog 10 #[.pointer (some ⟨wb, 0, none⟩), .agg (bv r).toArray] w fun e w' => e = .returned (.tuple #[.agg (bv (pnm tx (bstZ tx ox r))).toArray, .bool (decide (0 ≤ bstZ tx ox r))]) ∧ Below w.heap.size w w' := by
  obtain ⟨⟨G, F, M, R, h⟩, _, _⟩ := h
  exact best_any w G tb tx 256 F wb ox r h.tre h.wgt hr
theorem PSX.head (h : PSX B K w tb wb mb rb tx ty ox oy) :
    Calls Try.prog 15 #[.pointer (some ⟨wb, 0, none⟩)] w fun e w' => e = .returned (.agg (bv (pnm tx (hdW tx ox : Int))).toArray) ∧ Below w.heap.size w w' := by
  obtain ⟨⟨G, F, M, R, h⟩, _, _⟩ := h
  exact head_any w G tb tx 256 F wb ox h.tre h.wgt
theorem PSX.roots (h : PSX B K w tb wb mb rb tx ty ox oy) :
    Calls Try.prog 22 #[.pointer (some ⟨tb, 0, none⟩)] w fun e w' => ∃ v, e = .returned v ∧ Wide 32 w' w.heap.size v (rv (rs tx)) ∧ Below w.heap.size w w' := by
  obtain ⟨⟨G, F, M, R, h⟩, _, _⟩ := h
  exact roots_any w G tb tx 256 h.tre
theorem PSX.kids (h : PSX B K w tb wb mb rb tx ty ox oy) (r : List UInt8) (hr : r.length = 32) :
    Calls Try.prog 23 #[.pointer (some ⟨tb, 0, none⟩), .agg (bv r).toArray] w fun e w' => ∃ v, e = .returned v ∧ Wide 32 w' w.heap.size v (rv (kidsT tx r)) ∧ Below w.heap.size w w' := by
  obtain ⟨⟨G, F, M, R, h⟩, _, _⟩ := h
  exact kids_any w G tb tx 256 r h.tre hr
theorem PSX.isbelow (h : PSX B K w tb wb mb rb tx ty ox oy) (x y : List UInt8) (hx : x.length = 32) (hy : y.length = 32) :
    Calls Try.prog 25 #[.pointer (some ⟨tb, 0, none⟩), .agg (bv x).toArray, .agg (bv y).toArray] w fun e w' => e = .returned (.bool (belowT tx x y)) ∧ Below w.heap.size w w' := by
  obtain ⟨⟨G, F, M, R, h⟩, _, _⟩ := h
  exact below_any w G tb tx 256 x y h.tre hx hy
/-- A block of K, and no other, was written. -/
theorem PSX.mine {w' : World} (h : PSX B K w tb wb mb rb tx ty ox oy) (hk : Kept K w w') : PSX B K w' tb wb mb rb tx ty ox oy := by
  obtain ⟨⟨G, F, M, R, h⟩, hl, hs⟩ := h
  exact ⟨⟨G, F, M, R, { h with tre := h.tre.keep hk h.kG.symm, wgt := h.wgt.keep hk h.kF.symm, ref := h.ref.keep hk h.kM.symm, rw := h.rw.keep hk h.kR.symm }⟩, hl.keep hk.size, Nat.le_trans hs hk.size⟩
theorem PSX.row (h : PSX B K w tb wb mb rb tx ty ox oy) {k : Nat} (hk : k ∈ K) (cs : Array Value) : PSX B K (w.setRow k cs) tb wb mb rb tx ty ox oy := h.mine ((Kept.refl K w).setRow (.inl hk) cs)
end
theorem pnm_at {t : List Nd} {i : Nat} {x : Nd} (h : t[i]? = some x) : pnm t (i : Int) = x.1 := by
  unfold pnm nodeAt
  simp [h]
theorem Good.kids_has {t : List Nd} {most : Int} (G : Good t most) {k i : Nat} {n x : Nd} (h : t[k]? = some n) (hx : t[i]? = some x) (hp : parW t i = (k : Int)) : x.1 ∈ kidsT t n.1 := by
  unfold kidsT
  rw [G.plc_at h, if_pos (by omega), rs]
  refine List.mem_map.2 ⟨x, List.mem_filter.2 ⟨List.mem_of_getElem? hx, ?_⟩, rfl⟩
  rw [parW_at hx] at hp
  simpa using hp
theorem Good.best_iff {t : List Nd} {most : Int} (G : Good t most) {own : List Int} (hl : own.length = t.length) {k : Nat} {n : Nd} (h : t[k]? = some n) : decide (0 ≤ bsW t own k) = decide (0 < (kidsT t n.1).length) := by
  rcases G.bsW_place (Nat.le_of_eq hl) k with ⟨hb, hn⟩ | ⟨q, hb, _, hq, hp⟩
  · have he : kidsT t n.1 = [] := by
      refine List.eq_nil_iff_forall_not_mem.2 fun c hc => ?_
      obtain ⟨i, x, hx, _, hp⟩ := G.kids_in h hc
      exact hn i (by rw [hl]; exact (List.getElem?_eq_some_iff.1 hx).1) hp
    rw [hb, he]
    rfl
  · obtain ⟨x, hx⟩ : ∃ x, t[q]? = some x := ⟨_, List.getElem?_eq_getElem (by omega)⟩
    have hm := G.kids_has h hx hp
    have h1 : 0 < (kidsT t n.1).length := List.length_pos_of_mem hm
    rw [hb, decide_eq_true h1]
    exact decide_eq_true (by omega)
theorem Good.chn_any {t : List Nd} {most : Int} (G : Good t most) {i : Nat} {n : Nd} (hi : t[i]? = some n) : ∀ (N j : Nat), j < N → j < t.length → ((chn t (j : Int)).any fun m => m.1 == n.1) = abW t i j
  | 0, j, h, _ => by omega
  | N + 1, j, h, hl => by
    obtain ⟨x, hx⟩ : ∃ x, t[j]? = some x := ⟨_, List.getElem?_eq_getElem hl⟩
    rw [G.chn_some hx, List.any_cons, G.abW_eq]
    have he : (x.1 == n.1) = (i == j) := by
      by_cases hij : i = j
      · subst hij
        rw [hi] at hx
        cases hx
        rw [beq_self_eq_true, beq_self_eq_true]
      · have hne : x.1 ≠ n.1 := fun e => hij (by
          have h1 := G.plc_at hi
          have h2 := G.plc_at hx
          rw [e] at h2
          omega)
        rw [beq_eq_false_iff_ne.2 hne, beq_eq_false_iff_ne.2 hij]
    rw [he, parW_at hx]
    congr 1
    have hp := G.parent_lt hx
    by_cases h0 : 0 ≤ x.2.2
    · rw [if_pos h0]
      obtain ⟨p, hpe⟩ : ∃ p : Nat, x.2.2 = (p : Int) := ⟨x.2.2.toNat, by omega⟩
      rw [hpe, Int.toNat_natCast]
      rw [hpe] at hp
      exact Good.chn_any G hi N p (by omega) (by omega)
    · rw [if_neg h0, chn_neg (by omega)]
      rfl
theorem Good.below_ab {t : List Nd} {most : Int} (G : Good t most) {i j : Nat} {n x : Nd} (hi : t[i]? = some n) (hj : t[j]? = some x) : belowT t n.1 x.1 = abW t i j := by
  unfold belowT
  rw [G.plc_at hj]
  exact G.chn_any hi (j + 1) j (by omega) (List.getElem?_eq_some_iff.1 hj).1
end Go.Proofs.Ytpamifdcbnkcdaa

/-
  So much more of one block, and so much less again: plain.
-/
namespace Go.Proofs.Ytpamifdcbnkcdaa
open Go
set_option maxRecDepth 10000

theorem padW_full {t : List Nd} {own : List Int} (hl : own.length = t.length) : padW t own = own := by rw [padW, hl, Nat.sub_self]; simp
theorem app_at {t : List Nd} (G : Good t 256) {own : List Int} (hl : own.length = t.length) (hO : OwnG own) {J : Nat} {x : Nd} (hx : t[J]? = some x) {m : Int} (h1 : -1099511627776 ≤ m) (h2 : m ≤ 1099511627776) (h3 : 0 ≤ owZ own J + m) (h4 : totW own + m < 4611686018427387904) :
    appW t own [(x.1, m)] = (0, own.set J (owZ own J + m)) := by
  have hj : J < own.length := by rw [hl]; exact (List.getElem?_eq_some_iff.1 hx).1
  have hle : owZ own J ≤ totW own := Int.le_trans (G.wtW_own hO J) (wtW_le hO t J)
  have hok : okZ (owZ own J + m) := ⟨h3, by omega⟩
  rw [appW_is, padW_full hl]
  have hc : chgW t own [(x.1, m)] = (0, own.set J (owZ own J + m)) := by
    rw [chgW]
    simp only
    rw [G.plc_at hx, if_neg (by omega), if_neg (by omega), Int.toNat_natCast, if_pos hok, chgW]
  rw [hc]
  unfold endW
  rw [if_pos rfl, if_pos (by rw [totW_set hj]; exact h4)]
theorem more_app {t : List Nd} (G : Good t 256) {own : List Int} (hl : own.length = t.length) (hO : OwnG own) {J : Nat} {x : Nd} (hx : t[J]? = some x) {m : Int} (h1 : 0 ≤ m) (h2 : m ≤ 1099511627776) (h4 : totW own ≤ 2305843009213693952) :
    appW t own [(x.1, m)] = (0, own.set J (owZ own J + m)) :=
  app_at G hl hO hx (by omega) h2 (by have := hO.owZ J; omega) (by omega)
theorem less_app {t : List Nd} (G : Good t 256) {own : List Int} (hl : own.length = t.length) (hO : OwnG own) {J : Nat} {x : Nd} (hx : t[J]? = some x) {m : Int} (h1 : 0 ≤ m) (h2 : m ≤ 1099511627776) (h4 : totW own ≤ 2305843009213693952) :
    appW t (own.set J (owZ own J + m)) [(x.1, -m)] = (0, own) := by
  have hj : J < own.length := by rw [hl]; exact (List.getElem?_eq_some_iff.1 hx).1
  have hO2 : OwnG (own.set J (owZ own J + m)) := by
    have := appW_ok hO t [(x.1, m)]
    rw [more_app G hl hO hx h1 h2 h4] at this
    exact this
  have hz : owZ (own.set J (owZ own J + m)) J = owZ own J + m := by rw [owZ_set hj, if_pos rfl]
  have hb := hO.owZ J
  rw [app_at G (by rw [List.length_set]; exact hl) hO2 hx (by omega) (by omega) (by rw [hz]; omega) (by rw [totW_set hj]; omega), hz, List.set_set, show owZ own J + m + -m = owZ own J by omega]
  congr 1
  apply List.ext_getElem?
  intro i
  rw [List.getElem?_set]
  split
  · rename_i hij
    subst hij
    obtain ⟨y, hy⟩ : ∃ y, own[J]? = some y := ⟨_, List.getElem?_eq_getElem hj⟩
    rw [owZ_at hy, hy]
  · rfl
end Go.Proofs.Ytpamifdcbnkcdaa

/-
  Two pairs side by side, none of whose blocks is the other's: what is done to one leaves the other.
-/
namespace Go.Proofs.Ytpamifdcbnkcdaa
open Go Go.RowKit
set_option maxRecDepth 10000

/-- Where a pair lies, and what it holds. -/
structure PS where
  tb : Nat
  wb : Nat
  mb : Nat
  rb : Nat
  tx : List Nd
  ty : List Nd
  ox : List Int
  oy : List Int
structure Two (B : Nat) (K : List Nat) (w : World) (a b : PS) : Prop where
  body : ∃ G F M R G' F' M' R', PBody B K w a.tb a.wb a.mb a.rb a.tx a.ty a.ox a.oy G F M R ∧ PBody B K w b.tb b.wb b.mb b.rb b.tx b.ty b.ox b.oy G' F' M' R' ∧ Away (G ++ (F ++ (M ++ R))) (G' ++ (F' ++ (M' ++ R')))
  low : Low w K
  size : B ≤ w.heap.size
theorem Two.symm {B : Nat} {K : List Nat} {w : World} {a b : PS} (h : Two B K w a b) : Two B K w b a := by
  obtain ⟨⟨G, F, M, R, G', F', M', R', h1, h2, h3⟩, hl, hs⟩ := h
  exact ⟨⟨G', F', M', R', G, F, M, R, h2, h1, h3.symm⟩, hl, hs⟩
theorem Two.fst {B : Nat} {K : List Nat} {w : World} {a b : PS} (h : Two B K w a b) : PSX B K w a.tb a.wb a.mb a.rb a.tx a.ty a.ox a.oy := by
  obtain ⟨⟨G, F, M, R, G', F', M', R', h1, h2, h3⟩, hl, hs⟩ := h
  exact ⟨⟨G, F, M, R, h1⟩, hl, hs⟩
theorem Two.snd {B : Nat} {K : List Nat} {w : World} {a b : PS} (h : Two B K w a b) : PSX B K w b.tb b.wb b.mb b.rb b.tx b.ty b.ox b.oy := h.symm.fst
theorem PBody.below {B : Nat} {K : List Nat} {w w' : World} {tb wb mb rb : Nat} {tx ty : List Nd} {ox oy : List Int} {G F M R : List Nat} (h : PBody B K w tb wb mb rb tx ty ox oy G F M R) (hb : Below w.heap.size w w') : PBody B K w' tb wb mb rb tx ty ox oy G F M R :=
  { h with tre := h.tre.below hb, wgt := h.wgt.below hb, ref := h.ref.below hb, rw := h.rw.below hb }
theorem PBody.low {B : Nat} {K : List Nat} {w : World} {tb wb mb rb : Nat} {tx ty : List Nd} {ox oy : List Int} {G F M R : List Nat} (h : PBody B K w tb wb mb rb tx ty ox oy G F M R) : Low w (G ++ (F ++ (M ++ R))) := fun x hx => by
  rcases List.mem_append.1 hx with hx | hx
  · exact h.tre.low x hx
  rcases List.mem_append.1 hx with hx | hx
  · exact h.wgt.low x hx
  rcases List.mem_append.1 hx with hx | hx
  · exact h.ref.low x hx
  · exact h.rw.low x hx
theorem PBody.high {B : Nat} {K : List Nat} {w : World} {tb wb mb rb : Nat} {tx ty : List Nd} {ox oy : List Int} {G F M R : List Nat} (h : PBody B K w tb wb mb rb tx ty ox oy G F M R) : High B (G ++ (F ++ (M ++ R))) := fun x hx => by
  rcases List.mem_append.1 hx with hx | hx
  · exact h.hG x hx
  rcases List.mem_append.1 hx with hx | hx
  · exact h.hF x hx
  rcases List.mem_append.1 hx with hx | hx
  · exact h.hM x hx
  · exact h.hR x hx
theorem PBody.away {B : Nat} {K : List Nat} {w : World} {tb wb mb rb : Nat} {tx ty : List Nd} {ox oy : List Int} {G F M R : List Nat} (h : PBody B K w tb wb mb rb tx ty ox oy G F M R) : Away K (G ++ (F ++ (M ++ R))) := fun k hk hx => by
  rcases List.mem_append.1 hx with hx | hx
  · exact h.kG k hk hx
  rcases List.mem_append.1 hx with hx | hx
  · exact h.kF k hk hx
  rcases List.mem_append.1 hx with hx | hx
  · exact h.kM k hk hx
  · exact h.kR k hk hx
/-- Other blocks are kept away. -/
theorem PBody.other {B : Nat} {K K' : List Nat} {w : World} {tb wb mb rb : Nat} {tx ty : List Nd} {ox oy : List Int} {G F M R : List Nat} (h : PBody B K w tb wb mb rb tx ty ox oy G F M R) (hk : Away K' (G ++ (F ++ (M ++ R)))) : PBody B K' w tb wb mb rb tx ty ox oy G F M R :=
  { h with kG := fun k h1 hx => hk k h1 (by simp [hx]), kF := fun k h1 hx => hk k h1 (by simp [hx]), kM := fun k h1 hx => hk k h1 (by simp [hx]), kR := fun k h1 hx => hk k h1 (by simp [hx]) }
theorem PBody.base {B B' : Nat} {K : List Nat} {w : World} {tb wb mb rb : Nat} {tx ty : List Nd} {ox oy : List Int} {G F M R : List Nat} (h : PBody B K w tb wb mb rb tx ty ox oy G F M R) (hb : B' ≤ B) : PBody B' K w tb wb mb rb tx ty ox oy G F M R :=
  { h with hG := h.hG.mono hb, hF := h.hF.mono hb, hM := h.hM.mono hb, hR := h.hR.mono hb }
theorem PBody.keep {B : Nat} {K : List Nat} {w w' : World} {tb wb mb rb : Nat} {tx ty : List Nd} {ox oy : List Int} {G F M R : List Nat} (h : PBody B K w tb wb mb rb tx ty ox oy G F M R) {Z : List Nat} (hk : Kept Z w w') (ha : Away (G ++ (F ++ (M ++ R))) Z) : PBody B K w' tb wb mb rb tx ty ox oy G F M R :=
  { h with tre := h.tre.keep hk (fun k h1 => ha k (by simp [h1])), wgt := h.wgt.keep hk (fun k h1 => ha k (by simp [h1])), ref := h.ref.keep hk (fun k h1 => ha k (by simp [h1])), rw := h.rw.keep hk (fun k h1 => ha k (by simp [h1])) }
/-- The second one was made behind the first. -/
theorem Two.of {B : Nat} {w w' : World} {a b : PS} (ha : PSX B [] w a.tb a.wb a.mb a.rb a.tx a.ty a.ox a.oy) (hb : Below w.heap.size w w') (hc : PSX w.heap.size [] w' b.tb b.wb b.mb b.rb b.tx b.ty b.ox b.oy) : Two B [] w' a b := by
  obtain ⟨⟨G, F, M, R, h1⟩, _, hs⟩ := ha
  obtain ⟨⟨G', F', M', R', h2⟩, _, _⟩ := hc
  exact ⟨⟨G, F, M, R, G', F', M', R', h1.below hb, h2.base hs, Away.high h1.low h2.high⟩, fun x hx => (nomatch hx), Nat.le_trans hs hb.size⟩
section
variable {B : Nat} {K : List Nat} {w w' : World} {a b : PS}
theorem Two.below (h : Two B K w a b) (hb : Below w.heap.size w w') : Two B K w' a b := by
  obtain ⟨⟨G, F, M, R, G', F', M', R', h1, h2, h3⟩, hl, hs⟩ := h
  exact ⟨⟨G, F, M, R, G', F', M', R', h1.below hb, h2.below hb, h3⟩, hl.keep hb.size, Nat.le_trans hs hb.size⟩
theorem away_more {K K' Z : List Nat} {w : World} (hz : Low w Z) (hk : Away K Z) (h1 : ∀ k ∈ K', w.heap.size ≤ k) : Away (K' ++ K) Z := fun x hx hm => by
  rcases List.mem_append.1 hx with hx | hx
  · have := h1 x hx; have := hz x hm; omega
  · exact hk x hx hm
theorem low_more {K K' : List Nat} (hl : Low w K) (hs : w.heap.size ≤ w'.heap.size) (h2 : Low w' K') : Low w' (K' ++ K) := fun x hx => by
  rcases List.mem_append.1 hx with hx | hx
  · exact h2 x hx
  · exact Nat.lt_of_lt_of_le (hl x hx) hs
theorem Two.more (h : Two B K w a b) (hb : Below w.heap.size w w') {K' : List Nat} (h1 : ∀ k ∈ K', w.heap.size ≤ k) (h2 : Low w' K') : Two B (K' ++ K) w' a b := by
  obtain ⟨⟨G, F, M, R, G', F', M', R', ha, hc, h3⟩, hl, hs⟩ := h
  exact ⟨⟨G, F, M, R, G', F', M', R', (ha.below hb).other (away_more ha.low ha.away h1), (hc.below hb).other (away_more hc.low hc.away h1), h3⟩, low_more hl hb.size h2, Nat.le_trans hs hb.size⟩
theorem Two.drop (K' : List Nat) (h : Two B (K' ++ K) w a b) : Two B K w a b := by
  obtain ⟨⟨G, F, M, R, G', F', M', R', ha, hc, h3⟩, hl, hs⟩ := h
  exact ⟨⟨G, F, M, R, G', F', M', R', ha.other fun k hk => ha.away k (List.mem_append_right _ hk), hc.other fun k hk => hc.away k (List.mem_append_right _ hk), h3⟩, fun x hx => hl x (List.mem_append_right _ hx), hs⟩
/-- A block of K, and no other, was written. -/
theorem Two.row (h : Two B K w a b) {k : Nat} (hk : k ∈ K) (cs : Array Value) : Two B K (w.setRow k cs) a b := by
  obtain ⟨⟨G, F, M, R, G', F', M', R', ha, hc, h3⟩, hl, hs⟩ := h
  have hh : Kept K w (w.setRow k cs) := (Kept.refl K w).setRow (.inl hk) cs
  exact ⟨⟨G, F, M, R, G', F', M', R', ha.keep hh ha.away.symm, hc.keep hh hc.away.symm, h3⟩, hl.keep hh.size, Nat.le_trans hs hh.size⟩
/-- What is done to the first leaves the second. -/
theorem Two.left (h : Two B K w a b) : ∃ Z, PSX B (Z ++ K) w a.tb a.wb a.mb a.rb a.tx a.ty a.ox a.oy ∧ ∀ (w' : World) (tx ty : List Nd) (ox oy : List Int), PSX B (Z ++ K) w' a.tb a.wb a.mb a.rb tx ty ox oy → Held4 (Z ++ K) w w' → Below B w w' → Two B K w' ⟨a.tb, a.wb, a.mb, a.rb, tx, ty, ox, oy⟩ b := by
  obtain ⟨⟨G, F, M, R, G', F', M', R', ha, hc, h3⟩, hl, hs⟩ := h
  refine ⟨G' ++ (F' ++ (M' ++ R')), ⟨⟨G, F, M, R, ha.other fun k hk hx => ?_⟩, fun x hx => ?_, hs⟩, fun w' tx ty ox oy hp hh hb => ?_⟩
  · rcases List.mem_append.1 hk with hk | hk
    · exact h3 k hx hk
    · exact ha.away k hk hx
  · rcases List.mem_append.1 hx with hx | hx
    · exact hc.low x hx
    · exact hl x hx
  · obtain ⟨⟨G1, F1, M1, R1, h1⟩, hl1, hs1⟩ := hp
    have hk : Kept ((List.range w.heap.size).filter fun k => !((G' ++ (F' ++ (M' ++ R'))).contains k)) w w' := ⟨hb.os, hb.tape, hb.output, hb.size, fun k hkl hkn => hh k (List.mem_append_left _ (by
      refine Classical.byContradiction fun hn => hkn (List.mem_filter.2 ⟨List.mem_range.2 hkl, ?_⟩)
      simpa using hn))⟩
    refine ⟨⟨G1, F1, M1, R1, G', F', M', R', h1.other fun k hk1 => h1.away k (List.mem_append_right _ hk1), hc.keep hk fun x hx hxf => ?_, fun x hx hz => h1.away x (List.mem_append_left _ hz) hx⟩, fun x hx => hl1 x (List.mem_append_right _ hx), hs1⟩
    have := (List.mem_filter.1 hxf).2
    simp at this hx
    rcases hx with hx | hx | hx | hx
    · exact this.1 hx
    · exact this.2.1 hx
    · exact this.2.2.1 hx
    · exact this.2.2.2 hx
end
end Go.Proofs.Ytpamifdcbnkcdaa

/-
  Numbers added to own weights by place: in whatever order, it comes to the same: plain.
-/
namespace Go.Proofs.Ytpamifdcbnkcdaa
open Go Go.RowKit
set_option maxRecDepth 10000

/-- What comes to a place. -/
def adP : List (Nat × Int) → Nat → Int
  | [], _ => 0
  | p :: l, k => (if p.1 = k then p.2 else 0) + adP l k
theorem adP_append : ∀ (a b : List (Nat × Int)) (k : Nat), adP (a ++ b) k = adP a k + adP b k
  | [], _, _ => by simp [adP]
  | p :: a, b, k => by rw [List.cons_append, adP, adP, adP_append a b k]; omega
theorem adP_reverse : ∀ (a : List (Nat × Int)) (k : Nat), adP a.reverse k = adP a k
  | [], _ => rfl
  | p :: a, k => by rw [List.reverse_cons, adP_append, adP_reverse a k, adP, adP, adP]; omega
def putP : List Int → List (Nat × Int) → List Int
  | own, [] => own
  | own, p :: l => putP (own.set p.1 (owZ own p.1 + p.2)) l
theorem putP_length : ∀ (l : List (Nat × Int)) (own : List Int), (putP own l).length = own.length
  | [], _ => rfl
  | p :: l, own => by rw [putP, putP_length l, List.length_set]
theorem putP_append : ∀ (a b : List (Nat × Int)) (own : List Int), putP own (a ++ b) = putP (putP own a) b
  | [], _, _ => rfl
  | p :: a, b, own => by rw [List.cons_append, putP, putP, putP_append a b]
theorem putP_owZ : ∀ (l : List (Nat × Int)) (own : List Int), (∀ p ∈ l, p.1 < own.length) → ∀ k, owZ (putP own l) k = owZ own k + adP l k
  | [], own, _, k => by rw [putP, adP, Int.add_zero]
  | p :: l, own, h, k => by
    have hp := h p (by simp)
    rw [putP, putP_owZ l _ (fun q hq => by rw [List.length_set]; exact h q (by simp [hq])), owZ_set hp, adP]
    by_cases e : k = p.1
    · rw [if_pos e, if_pos e.symm, e]; omega
    · rw [if_neg e, if_neg (fun x => e x.symm)]; omega
theorem owZ_ext {a b : List Int} (hl : a.length = b.length) (h : ∀ k, owZ a k = owZ b k) : a = b := by
  apply List.ext_getElem hl
  intro i h1 h2
  have := h i
  rwa [owZ_at (List.getElem?_eq_getElem h1), owZ_at (List.getElem?_eq_getElem h2)] at this
theorem putP_reverse (l : List (Nat × Int)) (own : List Int) (h : ∀ p ∈ l, p.1 < own.length) : putP own l.reverse = putP own l := by
  refine owZ_ext (by rw [putP_length, putP_length]) fun k => ?_
  rw [putP_owZ l own h, putP_owZ l.reverse own (fun p hp => h p (List.mem_reverse.1 hp)), adP_reverse]
def dsP (t : List Nd) (l : List (Nat × Int)) : List Dl := l.map fun p => (pnm t (p.1 : Int), p.2)
theorem dsP_length (t : List Nd) (l : List (Nat × Int)) : (dsP t l).length = l.length := by simp [dsP]
def FineP (t : List Nd) (l : List (Nat × Int)) : Prop := ∀ p ∈ l, p.1 < t.length ∧ 0 ≤ p.2 ∧ p.2 ≤ 1099511627776
theorem FineP.reverse {t : List Nd} {l : List (Nat × Int)} (h : FineP t l) : FineP t l.reverse := fun p hp => h p (List.mem_reverse.1 hp)
theorem FineP.take {t : List Nd} {l : List (Nat × Int)} (h : FineP t l) (k : Nat) : FineP t (l.take k) := fun p hp => h p (List.mem_of_mem_take hp)
theorem dsP_dls {t : List Nd} {most : Int} (G : Good t most) (l : List (Nat × Int)) : ∀ d ∈ dsP t l, d.1.length = 32 := fun d hd => by
  obtain ⟨p, _, rfl⟩ := List.mem_map.1 hd
  exact G.pnm_len _
theorem put_one {t : List Nd} {own : List Int} (hl : own.length = t.length) (hO : OwnG own) {J : Nat} (hJ : J < t.length) {m : Int} (h1 : 0 ≤ m) (h4 : totW own + m < 4611686018427387904) :
    OwnG (own.set J (owZ own J + m)) ∧ totW (own.set J (owZ own J + m)) = totW own + m := by
  have ht := totW_set (own := own) (r := J) (by omega) m
  refine ⟨⟨fun x hx => ?_, by rw [ht]; exact h4⟩, ht⟩
  have h0 := hO.owZ J
  rcases List.mem_or_eq_of_mem_set hx with hx | rfl
  · exact hO.pos x hx
  · omega
theorem chgW_put {t : List Nd} {most : Int} (G : Good t most) : ∀ (l : List (Nat × Int)) (own : List Int), own.length = t.length → OwnG own → FineP t l → totW own + (l.length : Int) * 1099511627776 < 4611686018427387904 →
    chgW t own (dsP t l) = (0, putP own l) ∧ OwnG (putP own l) ∧ totW (putP own l) ≤ totW own + (l.length : Int) * 1099511627776
  | [], own, _, hO, _, _ => ⟨by rw [dsP, List.map_nil, chgW, putP], hO, by rw [putP]; simp⟩
  | p :: l, own, hl, hO, hF, hT => by
    obtain ⟨hp1, hp2, hp3⟩ := hF p (by simp)
    rw [List.length_cons, Int.natCast_succ] at hT
    obtain ⟨x, hx⟩ : ∃ x, t[p.1]? = some x := ⟨_, List.getElem?_eq_getElem hp1⟩
    have hle : owZ own p.1 ≤ totW own := Int.le_trans (G.wtW_own hO p.1) (wtW_le hO t p.1)
    have h0 := hO.owZ p.1
    obtain ⟨hO2, ht⟩ := put_one hl hO hp1 hp2 (show totW own + p.2 < 4611686018427387904 by omega)
    obtain ⟨i1, i2, i3⟩ := chgW_put G l (own.set p.1 (owZ own p.1 + p.2)) (by rw [List.length_set]; exact hl) hO2 (fun q hq => hF q (by simp [hq])) (by rw [ht]; omega)
    refine ⟨?_, by rw [putP]; exact i2, by rw [putP, List.length_cons, Int.natCast_succ]; rw [ht] at i3; omega⟩
    rw [dsP, List.map_cons, ← dsP, chgW]
    simp only
    rw [pnm_at hx, G.plc_at hx, if_neg (by omega), if_neg (by omega), Int.toNat_natCast, if_pos (show okZ (owZ own p.1 + p.2) from ⟨by omega, by omega⟩), i1, putP]
theorem appW_put {t : List Nd} {most : Int} (G : Good t most) (l : List (Nat × Int)) (own : List Int) (hl : own.length = t.length) (hO : OwnG own) (hF : FineP t l) (hT : totW own + (l.length : Int) * 1099511627776 < 4611686018427387904) :
    appW t own (dsP t l) = (0, putP own l) := by
  obtain ⟨h1, h2, _⟩ := chgW_put G l own hl hO hF hT
  rw [appW, padW_full hl, h1, endW, if_pos rfl, if_pos h2.tot]
/-- One more, behind k of them. -/
theorem put_next {t : List Nd} {most : Int} (G : Good t most) {l : List (Nat × Int)} {own : List Int} (hl : own.length = t.length) (hO : OwnG own) (hF : FineP t l) (hT : totW own + (l.length : Int) * 1099511627776 < 4611686018427387904) {k : Nat} {p : Nat × Int} (hk : l[k]? = some p) :
    appW t (putP own (l.take k)) (dsP t [p]) = (0, putP own (l.take (k + 1))) := by
  have hkl := (List.getElem?_eq_some_iff.1 hk).1
  obtain ⟨_, h2, h3⟩ := chgW_put G (l.take k) own hl hO (hF.take k) (by rw [List.length_take]; omega)
  rw [List.length_take, Nat.min_eq_left (by omega)] at h3
  rw [appW_put G [p] _ (by rw [putP_length]; exact hl) h2 (fun q hq => by simp at hq; subst hq; exact hF _ (List.mem_of_getElem? hk)) (by simp; omega), List.take_add_one, hk, Option.toList_some, putP_append]
def pickN (a : Int) (n : Nat) : Nat := (wrap64 ((IntKind.u64.wrap a).tmod (n : Int))).toNat
theorem dsP_next {t : List Nd} {ps : List (Nat × Int)} {k J : Nat} {n : Int} {x : Nd} (hp : ps[k]? = some (J, n)) (hx : t[J]? = some x) : dsP t (ps.take (k + 1)).reverse = (x.1, n) :: dsP t (ps.take k).reverse := by
  rw [List.take_add_one, hp, Option.toList_some, List.reverse_append]
  simp [dsP, pnm_at hx]
theorem fine_next {t : List Nd} {ps : List (Nat × Int)} {k J : Nat} {n : Int} (h : FineP t (ps.take k)) (hp : ps[k]? = some (J, n)) (hJ : J < t.length) (h0 : 0 ≤ n) (h1 : n ≤ 1099511627776) : FineP t (ps.take (k + 1)) := fun q hq => by
  rw [List.take_add_one, hp, Option.toList_some] at hq
  rcases List.mem_append.1 hq with hq | hq
  · exact h q hq
  · simp at hq; subst hq; exact ⟨hJ, h0, h1⟩
theorem dvs_cons (d : Dl) (l : List Dl) : dvs (d :: l) = dlv d ++ dvs l := by simp [dvs]
theorem appW_pad {t : List Nd} {own : List Int} (h : own.length ≤ t.length) (l : List Dl) : appW t own l = appW t (padW t own) l := by
  unfold appW
  rw [padW_full (padW_length h)]
theorem lies_heldE {K : List Nat} {w w' : World} {ao : Option Addr} {g off : Nat} {xs : List Value} (h : Lies w w.heap.size ao g off xs) (hk : Held4 K w w') (hg : 0 < xs.length → g ∈ K) (hs : w.heap.size ≤ w'.heap.size) : Lies w' w'.heap.size ao g off xs :=
  ⟨h.addr, fun h0 => Nat.lt_of_lt_of_le (h.lt h0) hs, fun j u hj => (World.cell?_of_block (a := ⟨g, off + j, none⟩) (hk g (hg (by have := (List.getElem?_eq_some_iff.1 hj).1; omega)))).trans (h.cells j u hj)⟩
theorem below_cell {B : Nat} {a w : World} (h : Below B a w) {g : Nat} (hg : B ≤ g) (j : Nat) (v : Value) : Below B a (w.setCell ⟨g, j, none⟩ v) :=
  ⟨h.os, h.tape, h.output, Nat.le_trans h.size (by simp [World.setCell]), fun k hk => (Below.heap_setCell w ⟨g, j, none⟩ v k (fun e => by simp at e; omega)).trans (h.block k hk)⟩
theorem wide_base {k : Nat} {w : World} {base base' : Nat} {v : Value} {xs : List Value} (h : Wide k w base v xs) (hb : base' ≤ base) : Wide k w base' v xs := by
  obtain ⟨n, cap, g, off, ao, rfl, h⟩ := h
  exact ⟨n, cap, g, off, ao, rfl, { h with own := fun a ha => Nat.le_trans hb (h.own a ha) }⟩
theorem wide_dls {w : World} {base : Nat} {v : Value} {l : List Dl} (h : Wide 33 w base v (dvs l)) (hl : Dls l) : ∃ ao cap g off, v = .slice ao l.length cap ∧ Lies w w.heap.size ao g off (dvs l) ∧ (0 < l.length → base ≤ g) := by
  obtain ⟨n, cap, g, off, ao, rfl, h⟩ := h
  have h1 := h.len
  rw [dvs_length l hl] at h1
  obtain rfl : l.length = n := by omega
  have hp : 0 < l.length → 0 < cap := fun h0 => Nat.lt_of_lt_of_le h0 h.le
  have hq : 0 < (dvs l).length → 0 < l.length := fun h0 => by rw [dvs_length l hl] at h0; omega
  exact ⟨ao, cap, g, off, rfl, ⟨fun h0 => h.addr (hp (hq h0)), fun h0 => h.lt (hp (hq h0)), h.cells⟩, fun h0 => h.own ⟨g, off, none⟩ (h.addr (hp h0))⟩
end Go.Proofs.Ytpamifdcbnkcdaa
