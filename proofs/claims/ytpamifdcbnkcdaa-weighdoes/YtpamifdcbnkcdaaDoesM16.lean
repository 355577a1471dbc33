/-
  The texts Acts11, Ask11, MoreApp, one behind the other.
-/
import Derived.Test.YtpamifdcbnkcdaaCDo11
import Derived.Test.YtpamifdcbnkcdaaCAlive11
import Derived.Test.YtpamifdcbnkcdaaDoesM15
/-
  Rows of acts as cells.
-/
namespace Go.Proofs.Ytpamifdcbnkcdaa
open Go Go.RowKit
set_option maxRecDepth 10000

def acvs (l : List Ac) : List Value := l.flatMap acv
theorem acvs_length : ∀ (l : List Ac), (acvs l).length = l.length * 6
  | [] => rfl
  | a :: l => by
    have h := acvs_length l
    rw [acvs, List.flatMap_cons, List.length_append, ← acvs, h, List.length_cons]
    simp [acv]; omega
theorem acvs_at : ∀ (l : List Ac) (i j : Nat) (a : Ac), l[i]? = some a → j < 6 → (acvs l)[i * 6 + j]? = (acv a)[j]?
  | [], i, j, a, h, _ => by simp at h
  | y :: l, 0, j, a, h, hj => by
    simp at h
    subst h
    rw [acvs, List.flatMap_cons, Nat.zero_mul, Nat.zero_add, List.getElem?_append_left (by simp [acv]; exact hj)]
  | y :: l, i + 1, j, a, h, hj => by
    have hy : (acv y).length = 6 := rfl
    rw [acvs, List.flatMap_cons, List.getElem?_append_right (by rw [hy]; omega), hy, show (i + 1) * 6 + j - 6 = i * 6 + j by omega, ← acvs]
    exact acvs_at l i j a (by simpa using h) hj
theorem Lies.act {w : World} {B b off : Nat} {ao : Option Addr} {l : List Ac} (h : Lies w B ao b off (acvs l)) {i : Nat} {a : Ac} (hi : l[i]? = some a) : ao = some ⟨b, off, none⟩ ∧ ∀ j v, (acv a)[j]? = some v → w.cell? ⟨b, off + i * 6 + j, none⟩ = some v := by
  have hl := (List.getElem?_eq_some_iff.1 hi).1
  refine ⟨h.addr (by rw [acvs_length]; omega), fun j v hj => ?_⟩
  have hj6 : j < 6 := by have := (List.getElem?_eq_some_iff.1 hj).1; simpa [acv] using this
  rw [Nat.add_assoc]
  exact h.cells _ v ((acvs_at l i j a hi hj6).trans hj)
theorem Try.sizeAct : (Try.prog.info? 40).map (·.size) = some 6 := by kernel_rfl
theorem Try.aggAct (w : World) : (isAgg 40).run Try.prog w = .ok true w := by
  unfold isAgg
  rw [Sem.run_bind, run_underlying Try.underlying40 w]
  rfl
theorem acv_one (a : Ac) : ∀ v ∈ acv a, v.oneCell' = true := fun v hv => by
  simp only [acv, List.mem_cons, List.not_mem_nil, or_false] at hv
  rcases hv with rfl | rfl | rfl | rfl | rfl | rfl <;> rfl
theorem prv_one (a b c : Nat) : ∀ v ∈ prv a b c, v.oneCell' = true := fun v hv => by
  simp only [prv, List.mem_cons, List.not_mem_nil, or_false] at hv
  rcases hv with rfl | rfl | rfl <;> rfl
section
variable {ops : Array Oper} {rest : List Oper} {o : Oper} {a : Act} {w : World} {Q : Exit → Act → World → Prop}
theorem wpList_load_act (y : Operand) (ho : o.op = .load 40 y) (hgd : o.guard = none) (g off : Nat) (x : Ac) (hx : a.eval y = .pointer (some ⟨g, off, none⟩)) (hc : ∀ j v, (acv x)[j]? = some v → w.cell? ⟨g, off + j, none⟩ = some v)
    (h : wpList Try.prog ops Q rest (a.put o.dst (.agg (acv x).toArray)) w) : wpList Try.prog ops Q (o :: rest) a w :=
  wpList_load_agg hgd 40 y ho g off (acv x) hx hc Try.aggAct Try.sizeAct h
theorem wpList_store_act (x y : Operand) (ho : o.op = .store 40 x y) (hgd : o.guard = none) (g : Nat) (n n' : Ac) (hx : a.eval x = .pointer (some ⟨g, 0, none⟩)) (hy : a.eval y = .agg (acv n').toArray) (hg : Blk w g 40 (acv n))
    (h : wpList Try.prog ops Q rest (a.put o.dst undef) (w.setRow g (acv n').toArray)) : wpList Try.prog ops Q (o :: rest) a w := by
  refine wpList_store_part hgd 40 x y ho g 0 (acv n') hx hy 40 (acv n) hg Try.sizeAct (Nat.le_refl _) (acv_one _) ?_
  rw [show splice (acv n) 0 (acv n') = acv n' from splice_all _ _ rfl]
  exact h
theorem wpList_load_pair (y : Operand) (ho : o.op = .load 37 y) (hgd : o.guard = none) (g tb wb rb : Nat) (hx : a.eval y = .pointer (some ⟨g, 0, none⟩)) (hg : Blk w g 37 (prv tb wb rb))
    (h : wpList Try.prog ops Q rest (a.put o.dst (.agg (prv tb wb rb).toArray)) w) : wpList Try.prog ops Q (o :: rest) a w :=
  wpList_load_agg hgd 37 y ho g 0 (prv tb wb rb) hx (fun j v hj => by rw [Nat.zero_add, hg.cell]; exact hj) Try.aggPair Try.sizePair h
theorem wpList_store_pair (x y : Operand) (ho : o.op = .store 37 x y) (hgd : o.guard = none) (g tb wb rb : Nat) (hx : a.eval x = .pointer (some ⟨g, 0, none⟩)) (hy : a.eval y = .agg (prv tb wb rb).toArray) (hg : Blk w g 37 [.pointer none, .pointer none, .pointer none])
    (h : wpList Try.prog ops Q rest (a.put o.dst undef) (w.setRow g (prv tb wb rb).toArray)) : wpList Try.prog ops Q (o :: rest) a w := by
  refine wpList_store_part hgd 37 x y ho g 0 (prv tb wb rb) hx hy 37 _ hg Try.sizePair (Nat.le_refl _) (prv_one _ _ _) ?_
  rw [show splice [.pointer none, .pointer none, .pointer none] 0 (prv tb wb rb) = prv tb wb rb from splice_all _ _ rfl]
  exact h
end
def ac0 : Ac := ⟨0, 0, 0, 0, 0, 0⟩

/-- What a row of acts makes of a tree and own weights. -/
def doAll (x : List Nd × List Int) (l : List Ac) : List Nd × List Int := l.foldl doP x
theorem doAll_next {x : List Nd × List Int} {l : List Ac} {k : Nat} {a : Ac} (h : l[k]? = some a) : doAll x (l.take (k + 1)) = doP (doAll x (l.take k)) a := by
  unfold doAll
  rw [List.take_add_one, h, List.foldl_append]
  rfl
end Go.Proofs.Ytpamifdcbnkcdaa

/-
  What a pair is asked: reading calls; the tree's names, in their rows.
-/
namespace Go.Proofs.Ytpamifdcbnkcdaa
open Go Go.RowKit
set_option maxRecDepth 10000

theorem doP_prefix (x : List Nd × List Int) (a : Ac) : x.1 <+: (doP x a).1 := by
  unfold doP
  split
  · exact addT_prefix 256 x.1 _ _ _
  · exact List.prefix_refl _
theorem doAll_prefix : ∀ (l : List Ac) (x : List Nd × List Int), x.1 <+: (doAll x l).1
  | [], _ => List.prefix_refl _
  | a :: l, x => (doP_prefix x a).trans (doAll_prefix l (doP x a))
theorem doAll_root (l : List Ac) : (doAll (root11, [0]) l).1[0]? = some (nmN 0, 0, -1) := by
  obtain ⟨s, hs⟩ := doAll_prefix l (root11, [0])
  rw [← hs]
  rfl
theorem tellZ_at {t : List Nd} {most : Int} (G : Good t most) {k N : Nat} {n : Nd} (h : t[k]? = some n) (hN : k < N) (dn : Int) (z : Nat → Int) : tellZ t N n.1 dn z = z k := by
  unfold tellZ
  rw [G.plc_at h, if_pos (by omega), Int.toNat_natCast]
theorem Good.kids_in {t : List Nd} {most : Int} (G : Good t most) {k : Nat} {n : Nd} (h : t[k]? = some n) {c : List UInt8} (hc : c ∈ kidsT t n.1) : ∃ (i : Nat) (x : Nd), t[i]? = some x ∧ x.1 = c ∧ parW t i = (k : Int) := by
  unfold kidsT at hc
  rw [G.plc_at h, if_pos (by omega), rs] at hc
  obtain ⟨x, hx, rfl⟩ := List.mem_map.1 hc
  obtain ⟨hx, hp⟩ := List.mem_filter.1 hx
  obtain ⟨i, hi, he⟩ := List.getElem_of_mem hx
  have hi' : t[i]? = some x := by rw [List.getElem?_eq_getElem hi, he]
  exact ⟨i, x, hi', rfl, by rw [parW_at hi']; simpa using hp⟩

theorem kids_le (t : List Nd) (r : List UInt8) : (kidsT t r).length ≤ t.length := by
  unfold kidsT
  split
  · rw [rs_length]
    exact List.length_filter_le _ _
  · exact Nat.zero_le _

section
variable {B : Nat} {K : List Nat} {w : World} {tb wb mb rb : Nat} {tx ty : List Nd} {ox oy : List Int}
theorem PSX.own (h : PSX B K w tb wb mb rb tx ty ox oy) (r : List UInt8) (hr : r.length = 32) :
    Calls Try.prog 13 #[.pointer (some ⟨wb, 0, none⟩), .agg (bv r).toArray] w fun e w' => e = .returned (.int .i64 (tellZ tx ox.length r 0 (owZ ox))) ∧ Below w.heap.size w w' := by
  obtain ⟨⟨G, F, M, R, h⟩, _, _⟩ := h
  exact own_any w G tb tx 256 F wb ox r h.tre h.wgt hr
theorem PSX.weight (h : PSX B K w tb wb mb rb tx ty ox oy) (r : List UInt8) (hr : r.length = 32) :
    Calls Try.prog 14 #[.pointer (some ⟨wb, 0, none⟩), .agg (bv r).toArray] w fun e w' => e = .returned (.int .i64 (tellZ tx ox.length r 0 (wtW tx ox))) ∧ Below w.heap.size w w' := by
  obtain ⟨⟨G, F, M, R, h⟩, _, _⟩ := h
  exact wt_any w G tb tx 256 F wb ox r h.tre h.wgt hr
theorem PSX.best (h : PSX B K w tb wb mb rb tx ty ox oy) (r : List UInt8) (hr : r.length = 32) :
    Calls Try.prog 10 #[.pointer (some ⟨wb, 0, none⟩), .agg (bv r).toArray] w fun e w' => e = .returned (.tuple #[.agg (bv (pnm tx (bstZ tx ox r))).toArray, .bool (decide (0 ≤ bstZ tx ox r))]) ∧ Below w.heap.size w w' := by
  obtain ⟨⟨G, F, M, R, h⟩, _, _⟩ := h
  exact best_any w G tb tx 256 F wb ox r h.tre h.wgt hr
theorem PSX.head (h : PSX B K w tb wb mb rb tx ty ox oy) :
    Calls Try.prog 15 #[.pointer (some ⟨wb, 0, none⟩)] w fun e w' => e = .returned (.agg (bv (pnm tx (hdW tx ox : Int))).toArray) ∧ Below w.heap.size w w' := by
  obtain ⟨⟨G, F, M, R, h⟩, _, _⟩ := h
  exact head_any w G tb tx 256 F wb ox h.tre h.wgt
theorem PSX.roots (h : PSX B K w tb wb mb rb tx ty ox oy) :
    Calls Try.prog 22 #[.pointer (some ⟨tb, 0, none⟩)] w fun e w' => ∃ v, e = .returned v ∧ Wide 32 w' w.heap.size v (rv (rs tx)) ∧ Below w.heap.size w w' := by
  obtain ⟨⟨G, F, M, R, h⟩, _, _⟩ := h
  exact roots_any w G tb tx 256 h.tre
theorem PSX.kids (h : PSX B K w tb wb mb rb tx ty ox oy) (r : List UInt8) (hr : r.length = 32) :
    Calls Try.prog 23 #[.pointer (some ⟨tb, 0, none⟩), .agg (bv r).toArray] w fun e w' => ∃ v, e = .returned v ∧ Wide 32 w' w.heap.size v (rv (kidsT tx r)) ∧ Below w.heap.size w w' := by
  obtain ⟨⟨G, F, M, R, h⟩, _, _⟩ := h
  exact kids_any w G tb tx 256 r h.tre hr
theorem PSX.isbelow (h : PSX B K w tb wb mb rb tx ty ox oy) (x y : List UInt8) (hx : x.length = 32) (hy : y.length = 32) :
    Calls Try.prog 25 #[.pointer (some ⟨tb, 0, none⟩), .agg (bv x).toArray, .agg (bv y).toArray] w fun e w' => e = .returned (.bool (belowT tx x y)) ∧ Below w.heap.size w w' := by
  obtain ⟨⟨G, F, M, R, h⟩, _, _⟩ := h
  exact below_any w G tb tx 256 x y h.tre hx hy
/-- A block of K, and no other, was written. -/
theorem PSX.mine {w' : World} (h : PSX B K w tb wb mb rb tx ty ox oy) (hk : Kept K w w') : PSX B K w' tb wb mb rb tx ty ox oy := by
  obtain ⟨⟨G, F, M, R, h⟩, hl, hs⟩ := h
  exact ⟨⟨G, F, M, R, { h with tre := h.tre.keep hk h.kG.symm, wgt := h.wgt.keep hk h.kF.symm, ref := h.ref.keep hk h.kM.symm, rw := h.rw.keep hk h.kR.symm }⟩, hl.keep hk.size, Nat.le_trans hs hk.size⟩
theorem PSX.row (h : PSX B K w tb wb mb rb tx ty ox oy) {k : Nat} (hk : k ∈ K) (cs : Array Value) : PSX B K (w.setRow k cs) tb wb mb rb tx ty ox oy := h.mine ((Kept.refl K w).setRow (.inl hk) cs)
end
theorem pnm_at {t : List Nd} {i : Nat} {x : Nd} (h : t[i]? = some x) : pnm t (i : Int) = x.1 := by
  unfold pnm nodeAt
  simp [h]
theorem Good.kids_has {t : List Nd} {most : Int} (G : Good t most) {k i : Nat} {n x : Nd} (h : t[k]? = some n) (hx : t[i]? = some x) (hp : parW t i = (k : Int)) : x.1 ∈ kidsT t n.1 := by
  unfold kidsT
  rw [G.plc_at h, if_pos (by omega), rs]
  refine List.mem_map.2 ⟨x, List.mem_filter.2 ⟨List.mem_of_getElem? hx, ?_⟩, rfl⟩
  rw [parW_at hx] at hp
  simpa using hp
theorem Good.best_iff {t : List Nd} {most : Int} (G : Good t most) {own : List Int} (hl : own.length = t.length) {k : Nat} {n : Nd} (h : t[k]? = some n) : decide (0 ≤ bsW t own k) = decide (0 < (kidsT t n.1).length) := by
  rcases G.bsW_place (Nat.le_of_eq hl) k with ⟨hb, hn⟩ | ⟨q, hb, _, hq, hp⟩
  · have he : kidsT t n.1 = [] := by
      refine List.eq_nil_iff_forall_not_mem.2 fun c hc => ?_
      obtain ⟨i, x, hx, _, hp⟩ := G.kids_in h hc
      exact hn i (by rw [hl]; exact (List.getElem?_eq_some_iff.1 hx).1) hp
    rw [hb, he]
    rfl
  · obtain ⟨x, hx⟩ : ∃ x, t[q]? = some x := ⟨_, List.getElem?_eq_getElem (by omega)⟩
    have hm := G.kids_has h hx hp
    have h1 : 0 < (kidsT t n.1).length := List.length_pos_of_mem hm
    rw [hb, decide_eq_true h1]
    exact decide_eq_true (by omega)
theorem Good.chn_any {t : List Nd} {most : Int} (G : Good t most) {i : Nat} {n : Nd} (hi : t[i]? = some n) : ∀ (N j : Nat), j < N → j < t.length → ((chn t (j : Int)).any fun m => m.1 == n.1) = abW t i j
  | 0, j, h, _ => by omega
  | N + 1, j, h, hl => by
    obtain ⟨x, hx⟩ : ∃ x, t[j]? = some x := ⟨_, List.getElem?_eq_getElem hl⟩
    rw [G.chn_some hx, List.any_cons, G.abW_eq]
    have he : (x.1 == n.1) = (i == j) := by
      by_cases hij : i = j
      · subst hij
        rw [hi] at hx
        cases hx
        rw [beq_self_eq_true, beq_self_eq_true]
      · have hne : x.1 ≠ n.1 := fun e => hij (by
          have h1 := G.plc_at hi
          have h2 := G.plc_at hx
          rw [e] at h2
          omega)
        rw [beq_eq_false_iff_ne.2 hne, beq_eq_false_iff_ne.2 hij]
    rw [he, parW_at hx]
    congr 1
    have hp := G.parent_lt hx
    by_cases h0 : 0 ≤ x.2.2
    · rw [if_pos h0]
      obtain ⟨p, hpe⟩ : ∃ p : Nat, x.2.2 = (p : Int) := ⟨x.2.2.toNat, by omega⟩
      rw [hpe, Int.toNat_natCast]
      rw [hpe] at hp
      exact Good.chn_any G hi N p (by omega) (by omega)
    · rw [if_neg h0, chn_neg (by omega)]
      rfl
theorem Good.below_ab {t : List Nd} {most : Int} (G : Good t most) {i j : Nat} {n x : Nd} (hi : t[i]? = some n) (hj : t[j]? = some x) : belowT t n.1 x.1 = abW t i j := by
  unfold belowT
  rw [G.plc_at hj]
  exact G.chn_any hi (j + 1) j (by omega) (List.getElem?_eq_some_iff.1 hj).1
end Go.Proofs.Ytpamifdcbnkcdaa

/-
  So much more of one block, and so much less again: plain.
-/
namespace Go.Proofs.Ytpamifdcbnkcdaa
open Go
set_option maxRecDepth 10000

theorem padW_full {t : List Nd} {own : List Int} (hl : own.length = t.length) : padW t own = own := by rw [padW, hl, Nat.sub_self]; simp
theorem app_at {t : List Nd} (G : Good t 256) {own : List Int} (hl : own.length = t.length) (hO : OwnG own) {J : Nat} {x : Nd} (hx : t[J]? = some x) {m : Int} (h1 : -1099511627776 ≤ m) (h2 : m ≤ 1099511627776) (h3 : 0 ≤ owZ own J + m) (h4 : totW own + m < 4611686018427387904) :
    appW t own [(x.1, m)] = (0, own.set J (owZ own J + m)) := by
  have hj : J < own.length := by rw [hl]; exact (List.getElem?_eq_some_iff.1 hx).1
  have hle : owZ own J ≤ totW own := Int.le_trans (G.wtW_own hO J) (wtW_le hO t J)
  have hok : okZ (owZ own J + m) := ⟨h3, by omega⟩
  rw [appW_is, padW_full hl]
  have hc : chgW t own [(x.1, m)] = (0, own.set J (owZ own J + m)) := by
    rw [chgW]
    simp only
    rw [G.plc_at hx, if_neg (by omega), if_neg (by omega), Int.toNat_natCast, if_pos hok, chgW]
  rw [hc]
  unfold endW
  rw [if_pos rfl, if_pos (by rw [totW_set hj]; exact h4)]
theorem more_app {t : List Nd} (G : Good t 256) {own : List Int} (hl : own.length = t.length) (hO : OwnG own) {J : Nat} {x : Nd} (hx : t[J]? = some x) {m : Int} (h1 : 0 ≤ m) (h2 : m ≤ 1099511627776) (h4 : totW own ≤ 2305843009213693952) :
    appW t own [(x.1, m)] = (0, own.set J (owZ own J + m)) :=
  app_at G hl hO hx (by omega) h2 (by have := hO.owZ J; omega) (by omega)
theorem less_app {t : List Nd} (G : Good t 256) {own : List Int} (hl : own.length = t.length) (hO : OwnG own) {J : Nat} {x : Nd} (hx : t[J]? = some x) {m : Int} (h1 : 0 ≤ m) (h2 : m ≤ 1099511627776) (h4 : totW own ≤ 2305843009213693952) :
    appW t (own.set J (owZ own J + m)) [(x.1, -m)] = (0, own) := by
  have hj : J < own.length := by rw [hl]; exact (List.getElem?_eq_some_iff.1 hx).1
  have hO2 : OwnG (own.set J (owZ own J + m)) := by
    have := appW_ok hO t [(x.1, m)]
    rw [more_app G hl hO hx h1 h2 h4] at this
    exact this
  have hz : owZ (own.set J (owZ own J + m)) J = owZ own J + m := by rw [owZ_set hj, if_pos rfl]
  have hb := hO.owZ J
  rw [app_at G (by rw [List.length_set]; exact hl) hO2 hx (by omega) (by omega) (by rw [hz]; omega) (by rw [totW_set hj]; omega), hz, List.set_set, show owZ own J + m + -m = owZ own J by omega]
  congr 1
  apply List.ext_getElem?
  intro i
  rw [List.getElem?_set]
  split
  · rename_i hij
    subst hij
    obtain ⟨y, hy⟩ : ∃ y, own[J]? = some y := ⟨_, List.getElem?_eq_getElem hj⟩
    rw [owZ_at hy, hy]
  · rfl
end Go.Proofs.Ytpamifdcbnkcdaa
