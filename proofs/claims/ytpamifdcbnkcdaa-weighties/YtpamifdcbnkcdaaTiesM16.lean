/-
  The texts Acts11, Ask11, TiesWalk11, one behind the other.
-/
import Derived.Test.YtpamifdcbnkcdaaCDo11
import Derived.Test.YtpamifdcbnkcdaaCAlive11
import Derived.Test.YtpamifdcbnkcdaaTiesM12
import Derived.Test.YtpamifdcbnkcdaaTiesM6
/-
  Rows of acts as cells.
-/
namespace Go.Proofs.Ytpamifdcbnkcdaa
open Go Go.RowKit
set_option maxRecDepth 10000

def acvs (l : List Ac) : List Value := l.flatMap acv
theorem acvs_length : ∀ (l : List Ac), (acvs l).length = l.length * 6
  | [] => rfl
  | a :: l => by
    have h := acvs_length l
    rw [acvs, List.flatMap_cons, List.length_append, ← acvs, h, List.length_cons]
    simp [acv]; omega
theorem acvs_at : ∀ (l : List Ac) (i j : Nat) (a : Ac), l[i]? = some a → j < 6 → (acvs l)[i * 6 + j]? = (acv a)[j]?
  | [], i, j, a, h, _ => by simp at h
  | y :: l, 0, j, a, h, hj => by
    simp at h
    subst h
    rw [acvs, List.flatMap_cons, Nat.zero_mul, Nat.zero_add, List.getElem?_append_left (by simp [acv]; exact hj)]
  | y :: l, i + 1, j, a, h, hj => by
    have hy : (acv y).length = 6 := rfl
    rw [acvs, List.flatMap_cons, List.getElem?_append_right (by rw [hy]; omega), hy, show (i + 1) * 6 + j - 6 = i * 6 + j by omega, ← acvs]
    exact acvs_at l i j a (by simpa using h) hj
theorem Lies.act {w : World} {B b off : Nat} {ao : Option Addr} {l : List Ac} (h : Lies w B ao b off (acvs l)) {i : Nat} {a : Ac} (hi : l[i]? = some a) : ao = some ⟨b, off, none⟩ ∧ ∀ j v, (acv a)[j]? = some v → w.cell? ⟨b, off + i * 6 + j, none⟩ = some v := by
  have hl := (List.getElem?_eq_some_iff.1 hi).1
  refine ⟨h.addr (by rw [acvs_length]; omega), fun j v hj => ?_⟩
  have hj6 : j < 6 := by have := (List.getElem?_eq_some_iff.1 hj).1; simpa [acv] using this
  rw [Nat.add_assoc]
  exact h.cells _ v ((acvs_at l i j a hi hj6).trans hj)
theorem Try.sizeAct : (Try.prog.info? 40).map (·.size) = some 6 := by kernel_rfl
theorem Try.aggAct (w : World) : (isAgg 40).run Try.prog w = .ok true w := by
  unfold isAgg
  rw [Sem.run_bind, run_underlying Try.underlying40 w]
  rfl
theorem acv_one (a : Ac) : ∀ v ∈ acv a, v.oneCell' = true := fun v hv => by
  simp only [acv, List.mem_cons, List.not_mem_nil, or_false] at hv
  rcases hv with rfl | rfl | rfl | rfl | rfl | rfl <;> rfl
theorem prv_one (a b c : Nat) : ∀ v ∈ prv a b c, v.oneCell' = true := fun v hv => by
  simp only [prv, List.mem_cons, List.not_mem_nil, or_false] at hv
  rcases hv with rfl | rfl | rfl <;> rfl
section
variable {ops : Array Oper} {rest : List Oper} {o : Oper} {a : Act} {w : World} {Q : Exit → Act → World → Prop}
theorem wpList_load_act (y : Operand) (ho : o.op = .load 40 y) (hgd : o.guard = none) (g off : Nat) (x : Ac) (hx : a.eval y = .pointer (some ⟨g, off, none⟩)) (hc : ∀ j v, (acv x)[j]? = some v → w.cell? ⟨g, off + j, none⟩ = some v)
    (h : wpList Try.prog ops Q rest (a.put o.dst (.agg (acv x).toArray)) w) : wpList Try.prog ops Q (o :: rest) a w :=
  wpList_load_agg hgd 40 y ho g off (acv x) hx hc Try.aggAct Try.sizeAct h
theorem wpList_store_act (x y : Operand) (ho : o.op = .store 40 x y) (hgd : o.guard = none) (g : Nat) (n n' : Ac) (hx : a.eval x = .pointer (some ⟨g, 0, none⟩)) (hy : a.eval y = .agg (acv n').toArray) (hg : Blk w g 40 (acv n))
    (h : wpList Try.prog ops Q rest (a.put o.dst undef) (w.setRow g (acv n').toArray)) : wpList Try.prog ops Q (o :: rest) a w := by
  refine wpList_store_part hgd 40 x y ho g 0 (acv n') hx hy 40 (acv n) hg Try.sizeAct (Nat.le_refl _) (acv_one _) ?_
  rw [show splice (acv n) 0 (acv n') = acv n' from splice_all _ _ rfl]
  exact h
theorem wpList_load_pair (y : Operand) (ho : o.op = .load 37 y) (hgd : o.guard = none) (g tb wb rb : Nat) (hx : a.eval y = .pointer (some ⟨g, 0, none⟩)) (hg : Blk w g 37 (prv tb wb rb))
    (h : wpList Try.prog ops Q rest (a.put o.dst (.agg (prv tb wb rb).toArray)) w) : wpList Try.prog ops Q (o :: rest) a w :=
  wpList_load_agg hgd 37 y ho g 0 (prv tb wb rb) hx (fun j v hj => by rw [Nat.zero_add, hg.cell]; exact hj) Try.aggPair Try.sizePair h
theorem wpList_store_pair (x y : Operand) (ho : o.op = .store 37 x y) (hgd : o.guard = none) (g tb wb rb : Nat) (hx : a.eval x = .pointer (some ⟨g, 0, none⟩)) (hy : a.eval y = .agg (prv tb wb rb).toArray) (hg : Blk w g 37 [.pointer none, .pointer none, .pointer none])
    (h : wpList Try.prog ops Q rest (a.put o.dst undef) (w.setRow g (prv tb wb rb).toArray)) : wpList Try.prog ops Q (o :: rest) a w := by
  refine wpList_store_part hgd 37 x y ho g 0 (prv tb wb rb) hx hy 37 _ hg Try.sizePair (Nat.le_refl _) (prv_one _ _ _) ?_
  rw [show splice [.pointer none, .pointer none, .pointer none] 0 (prv tb wb rb) = prv tb wb rb from splice_all _ _ rfl]
  exact h
end
def ac0 : Ac := ⟨0, 0, 0, 0, 0, 0⟩

/-- What a row of acts makes of a tree and own weights. -/
def doAll (x : List Nd × List Int) (l : List Ac) : List Nd × List Int := l.foldl doP x
theorem doAll_next {x : List Nd × List Int} {l : List Ac} {k : Nat} {a : Ac} (h : l[k]? = some a) : doAll x (l.take (k + 1)) = doP (doAll x (l.take k)) a := by
  unfold doAll
  rw [List.take_add_one, h, List.foldl_append]
  rfl
end Go.Proofs.Ytpamifdcbnkcdaa

/-
  What a pair is asked: reading calls; the tree's names, in their rows.
-/
namespace Go.Proofs.Ytpamifdcbnkcdaa
open Go Go.RowKit
set_option maxRecDepth 10000

theorem doP_prefix (x : List Nd × List Int) (a : Ac) : x.1 <+: (doP x a).1 := by
  unfold doP
  split
  · exact addT_prefix 256 x.1 _ _ _
  · exact List.prefix_refl _
theorem doAll_prefix : ∀ (l : List Ac) (x : List Nd × List Int), x.1 <+: (doAll x l).1
  | [], _ => List.prefix_refl _
  | a :: l, x => (doP_prefix x a).trans (doAll_prefix l (doP x a))
theorem doAll_root (l : List Ac) : (doAll (root11, [0]) l).1[0]? = some (nmN 0, 0, -1) := by
  obtain ⟨s, hs⟩ := doAll_prefix l (root11, [0])
  rw [← hs]
  rfl
theorem tellZ_at {t : List Nd} {most : Int} (G : Good t most) {k N : Nat} {n : Nd} (h : t[k]? = some n) (hN : k < N) (dn : Int) (z : Nat → Int) : tellZ t N n.1 dn z = z k := by
  unfold tellZ
  rw [G.plc_at h, if_pos (by omega), Int.toNat_natCast]
theorem Good.kids_in {t : List Nd} {most : Int} (G : Good t most) {k : Nat} {n : Nd} (h : t[k]? = some n) {c : List UInt8} (hc : c ∈ kidsT t n.1) : ∃ (i : Nat) (x : Nd), t[i]? = some x ∧ x.1 = c ∧ parW t i = (k : Int) := by
  unfold kidsT at hc
  rw [G.plc_at h, if_pos (by omega), rs] at hc
  obtain ⟨x, hx, rfl⟩ := List.mem_map.1 hc
  obtain ⟨hx, hp⟩ := List.mem_filter.1 hx
  obtain ⟨i, hi, he⟩ := List.getElem_of_mem hx
  have hi' : t[i]? = some x := by rw [List.getElem?_eq_getElem hi, he]
  exact ⟨i, x, hi', rfl, by rw [parW_at hi']; simpa using hp⟩

theorem kids_le (t : List Nd) (r : List UInt8) : (kidsT t r).length ≤ t.length := by
  unfold kidsT
  split
  · rw [rs_length]
    exact List.length_filter_le _ _
  · exact Nat.zero_le _

section
variable {B : Nat} {K : List Nat} {w : World} {tb wb mb rb : Nat} {tx ty : List Nd} {ox oy : List Int}
theorem PSX.own (h : PSX B K w tb wb mb rb tx ty ox oy) (r : List UInt8) (hr : r.length = 32) :
    Calls Try.prog 13 #[.pointer (some ⟨wb, 0, none⟩), .agg (bv r).toArray] w fun e w' => e = .returned (.int .i64 (tellZ tx ox.length r 0 (owZ ox))) ∧ Below w.heap.size w w' := by
  obtain ⟨⟨G, F, M, R, h⟩, _, _⟩ := h
  exact own_any w G tb tx 256 F wb ox r h.tre h.wgt hr
theorem PSX.weight (h : PSX B K w tb wb mb rb tx ty ox oy) (r : List UInt8) (hr : r.length = 32) :
    Calls Try.prog 14 #[.pointer (some ⟨wb, 0, none⟩), .agg (bv r).toArray] w fun e w' => e = .returned (.int .i64 (tellZ tx ox.length r 0 (wtW tx ox))) ∧ Below w.heap.size w w' := by
  obtain ⟨⟨G, F, M, R, h⟩, _, _⟩ := h
  exact wt_any w G tb tx 256 F wb ox r h.tre h.wgt hr
theorem PSX.best (h : PSX B K w tb wb mb rb tx ty ox oy) (r : List UInt8) (hr : r.length = 32) :
    Calls Try.prog 10 #[.pointer (some ⟨wb, 0, none⟩), .agg (bv r).toArray] w fun e w' => e = .returned (.tuple #[.agg (bv (pnm tx (bstZ tx ox r))).toArray, .bool (decide (0 ≤ bstZ tx ox r))]) ∧ Below w.heap.size w w' := by
  obtain ⟨⟨G, F, M, R, h⟩, _, _⟩ := h
  exact best_any w G tb tx 256 F wb ox r h.tre h.wgt hr
theorem PSX.head (h : PSX B K w tb wb mb rb tx ty ox oy) :
    Calls Try.prog 15 #[.pointer (some ⟨wb, 0, none⟩)] w fun e w' => e = .returned (.agg (bv (pnm tx (hdW tx ox : Int))).toArray) ∧ Below w.heap.size w w' := by
  obtain ⟨⟨G, F, M, R, h⟩, _, _⟩ := h
  exact head_any w G tb tx 256 F wb ox h.tre h.wgt
theorem PSX.roots (h : PSX B K w tb wb mb rb tx ty ox oy) :
    Calls Try.prog 22 #[.pointer (some ⟨tb, 0, none⟩)] w fun e w' => ∃ v, e = .returned v ∧ Wide 32 w' w.heap.size v (rv (rs tx)) ∧ Below w.heap.size w w' := by
  obtain ⟨⟨G, F, M, R, h⟩, _, _⟩ := h
  exact roots_any w G tb tx 256 h.tre
theorem PSX.kids (h : PSX B K w tb wb mb rb tx ty ox oy) (r : List UInt8) (hr : r.length = 32) :
    Calls Try.prog 23 #[.pointer (some ⟨tb, 0, none⟩), .agg (bv r).toArray] w fun e w' => ∃ v, e = .returned v ∧ Wide 32 w' w.heap.size v (rv (kidsT tx r)) ∧ Below w.heap.size w w' := by
  obtain ⟨⟨G, F, M, R, h⟩, _, _⟩ := h
  exact kids_any w G tb tx 256 r h.tre hr
theorem PSX.isbelow (h : PSX B K w tb wb mb rb tx ty ox oy) (x y : List UInt8) (hx : x.length = 32) (hy : y.length = 32) :
    Calls Try.prog 25 #[.pointer (some ⟨tb, 0, none⟩), .agg (bv x).toArray, .agg (bv y).toArray] w fun e w' => e = .returned (.bool (belowT tx x y)) ∧ Below w.heap.size w w' := by
  obtain ⟨⟨G, F, M, R, h⟩, _, _⟩ := h
  exact below_any w G tb tx 256 x y h.tre hx hy
/-- A block of K, and no other, was written. -/
theorem PSX.mine {w' : World} (h : PSX B K w tb wb mb rb tx ty ox oy) (hk : Kept K w w') : PSX B K w' tb wb mb rb tx ty ox oy := by
  obtain ⟨⟨G, F, M, R, h⟩, hl, hs⟩ := h
  exact ⟨⟨G, F, M, R, { h with tre := h.tre.keep hk h.kG.symm, wgt := h.wgt.keep hk h.kF.symm, ref := h.ref.keep hk h.kM.symm, rw := h.rw.keep hk h.kR.symm }⟩, hl.keep hk.size, Nat.le_trans hs hk.size⟩
theorem PSX.row (h : PSX B K w tb wb mb rb tx ty ox oy) {k : Nat} (hk : k ∈ K) (cs : Array Value) : PSX B K (w.setRow k cs) tb wb mb rb tx ty ox oy := h.mine ((Kept.refl K w).setRow (.inl hk) cs)
end
theorem pnm_at {t : List Nd} {i : Nat} {x : Nd} (h : t[i]? = some x) : pnm t (i : Int) = x.1 := by
  unfold pnm nodeAt
  simp [h]
theorem Good.kids_has {t : List Nd} {most : Int} (G : Good t most) {k i : Nat} {n x : Nd} (h : t[k]? = some n) (hx : t[i]? = some x) (hp : parW t i = (k : Int)) : x.1 ∈ kidsT t n.1 := by
  unfold kidsT
  rw [G.plc_at h, if_pos (by omega), rs]
  refine List.mem_map.2 ⟨x, List.mem_filter.2 ⟨List.mem_of_getElem? hx, ?_⟩, rfl⟩
  rw [parW_at hx] at hp
  simpa using hp
theorem Good.best_iff {t : List Nd} {most : Int} (G : Good t most) {own : List Int} (hl : own.length = t.length) {k : Nat} {n : Nd} (h : t[k]? = some n) : decide (0 ≤ bsW t own k) = decide (0 < (kidsT t n.1).length) := by
  rcases G.bsW_place (Nat.le_of_eq hl) k with ⟨hb, hn⟩ | ⟨q, hb, _, hq, hp⟩
  · have he : kidsT t n.1 = [] := by
      refine List.eq_nil_iff_forall_not_mem.2 fun c hc => ?_
      obtain ⟨i, x, hx, _, hp⟩ := G.kids_in h hc
      exact hn i (by rw [hl]; exact (List.getElem?_eq_some_iff.1 hx).1) hp
    rw [hb, he]
    rfl
  · obtain ⟨x, hx⟩ : ∃ x, t[q]? = some x := ⟨_, List.getElem?_eq_getElem (by omega)⟩
    have hm := G.kids_has h hx hp
    have h1 : 0 < (kidsT t n.1).length := List.length_pos_of_mem hm
    rw [hb, decide_eq_true h1]
    exact decide_eq_true (by omega)
theorem Good.chn_any {t : List Nd} {most : Int} (G : Good t most) {i : Nat} {n : Nd} (hi : t[i]? = some n) : ∀ (N j : Nat), j < N → j < t.length → ((chn t (j : Int)).any fun m => m.1 == n.1) = abW t i j
  | 0, j, h, _ => by omega
  | N + 1, j, h, hl => by
    obtain ⟨x, hx⟩ : ∃ x, t[j]? = some x := ⟨_, List.getElem?_eq_getElem hl⟩
    rw [G.chn_some hx, List.any_cons, G.abW_eq]
    have he : (x.1 == n.1) = (i == j) := by
      by_cases hij : i = j
      · subst hij
        rw [hi] at hx
        cases hx
        rw [beq_self_eq_true, beq_self_eq_true]
      · have hne : x.1 ≠ n.1 := fun e => hij (by
          have h1 := G.plc_at hi
          have h2 := G.plc_at hx
          rw [e] at h2
          omega)
        rw [beq_eq_false_iff_ne.2 hne, beq_eq_false_iff_ne.2 hij]
    rw [he, parW_at hx]
    congr 1
    have hp := G.parent_lt hx
    by_cases h0 : 0 ≤ x.2.2
    · rw [if_pos h0]
      obtain ⟨p, hpe⟩ : ∃ p : Nat, x.2.2 = (p : Int) := ⟨x.2.2.toNat, by omega⟩
      rw [hpe, Int.toNat_natCast]
      rw [hpe] at hp
      exact Good.chn_any G hi N p (by omega) (by omega)
    · rw [if_neg h0, chn_neg (by omega)]
      rfl
theorem Good.below_ab {t : List Nd} {most : Int} (G : Good t most) {i j : Nat} {n x : Nd} (hi : t[i]? = some n) (hj : t[j]? = some x) : belowT t n.1 x.1 = abW t i j := by
  unfold belowT
  rw [G.plc_at hj]
  exact G.chn_any hi (j + 1) j (by omega) (List.getElem?_eq_some_iff.1 hj).1
end Go.Proofs.Ytpamifdcbnkcdaa

/-
  The walk of WeighTies.
-/
namespace Go.Proofs.Ytpamifdcbnkcdaa
open Go Go.RowKit
set_option maxRecDepth 10000

theorem Good.best_top {t : List Nd} {most : Int} (G : Good t most) {own : List Int} (hl : own.length = t.length) (hz : ∀ x ∈ own, x = 0) {k : Nat} {n : Nd} (h : t[k]? = some n) : ∀ c ∈ kidsT t n.1, lessB (pnm t (bsW t own k)) c = false := fun c hc => by
  obtain ⟨i, x, hx, hxc, hp⟩ := G.kids_in h hc
  have hi : i < own.length := by rw [hl]; exact (List.getElem?_eq_some_iff.1 hx).1
  rcases G.bsW_is (Nat.le_of_eq hl) k with ⟨_, hn⟩ | ⟨q, hb, hq, hall⟩
  · exact absurd ⟨hi, hp⟩ (hn i)
  · rw [hb, ← hxc, ← pnm_at hx]
    by_cases hiq : i = q
    · rw [hiq]; exact less_self _
    · have hbt := hall i ⟨hi, hp⟩ hiq
      unfold btW at hbt
      rw [wtW_zero hz, wtW_zero hz] at hbt
      have hlt : lessB (pnm t (i : Int)) (pnm t (q : Int)) = true := by simpa using hbt
      rcases less_tri (pnm t (i : Int)) (pnm t (q : Int)) (by rw [G.pnm_len, G.pnm_len]) (G.pnm_ne (by omega) (by omega) hiq) with ⟨_, h2⟩ | ⟨h1, _⟩
      · exact h2
      · rw [h1] at hlt; cases hlt

set_option maxHeartbeats 16000000 in
theorem ties_any (w : World) (ao : Option Addr) (len cap g off : Nat) (l : List Ac) (hl : l.length = len) (h : Lies w w.heap.size ao g off (acvs l)) :
    Calls Try.prog 8 #[.slice ao len cap] w fun e w' => e = .returned (.bool true) ∧ Below w.heap.size w w' := by
  have HL0 := Lib.hid h
  have HN := Lib.hid hl
  clear h hl
  go_enter Try.func8, Try.ntmps8
  go_wp2_with fail
  refine (alive_any w).mono ?_
  rintro e w1 ⟨rfl, hbc⟩
  have HB := Lib.hid hbc
  clear hbc
  by_cases h1 : (60 : Int) < (len : Int)
  · go_wp2_with fail
    go_ret
    exact ⟨rfl, HB.out⟩
  have HLIM := Lib.hid (show len ≤ 60 by omega)
  go_wp2_with fail
  refine (begun_any w1).mono ?_
  rintro e w2 ⟨tb, wb, mb, rb, rfl, hp, hbc⟩
  have HB1 := Lib.hid HB.out.size
  obtain ⟨B, hBB⟩ : ∃ B, B = w1.heap.size := ⟨_, rfl⟩
  rw [← hBB] at hp HB1
  have HP0 := Lib.hid hp
  replace HB := Lib.hid (HB.out.trans (hbc.mono HB.out.size))
  clear hbc hp hBB
  have HX0 := Lib.hid (show Blk (w2.alloc (.cells #[.pointer none, .pointer none, .pointer none] 37)) w2.heap.size 37 [.pointer none, .pointer none, .pointer none] from Blk.new w2 37 #[.pointer none, .pointer none, .pointer none])
  have hbx : Below w2.heap.size w2 ((w2.alloc (.cells #[.pointer none, .pointer none, .pointer none] 37)).setRow w2.heap.size (prv tb wb rb).toArray) := below_row ((Below.refl _ w2).alloc (Nat.le_refl _) _) (Nat.le_refl _) _
  have HX := Lib.hid (HX0.out.setRow (prv tb wb rb))
  obtain ⟨X, hX⟩ : ∃ X, X = w2.heap.size := ⟨_, rfl⟩
  have HP := Lib.hid (HP0.out.more hbx (K' := [X]) (fun k hk => by simp at hk; omega) (fun k hk => by simp at hk; rw [hk, hX]; exact HX.out.lt))
  replace HB := Lib.hid (HB.out.trans (hbx.mono HB.out.size))
  clear hbx HP0
  go_upto_region 6 with ((with_reducible refine wpList_store_pair (.tmp 3) (.tmp 18) ?_ ?_ w2.heap.size tb wb rb ?_ ?_ HX0.out ?_); rfl; rfl; rfl; rfl)
  try simp only [Act.put]
  rw [← hX] at HX HB ⊢
  rw [← hX] at HP
  generalize (w2.alloc (.cells #[.pointer none, .pointer none, .pointer none] 37)).setRow X (prv tb wb rb).toArray = w3 at HX HP HB ⊢
  clear hX HX0
  rw [List.append_nil] at HP
  go_wp2_with fail
  go_loopw [21] (fun i wr => ∃ (k : Nat) (t : List Nd), k ≤ len ∧ i = .int .i64 k ∧ Hid (PSX B [X] wr tb wb mb rb t t [0] [0]) ∧ Hid (Blk wr X 37 (prv tb wb rb)) ∧ Hid (Below w.heap.size w wr)) (fun i _ => len - (intOf i).toNat)
  case atStart => exact ⟨0, root11, Nat.zero_le _, rfl, HP, HX, HB⟩
  case round =>
    clear HP HX HB
    obtain ⟨k, t, hk, rfl, HP, HX, HB⟩ := hrel
    by_cases hlt : k < len
    · obtain ⟨a, ha⟩ : ∃ a, l[k]? = some a := ⟨_, List.getElem?_eq_getElem (by rw [HN.out]; exact hlt)⟩
      obtain ⟨hao, hca⟩ := (HL0.out.keep HB.out).act ha
      subst hao
      have HCA := Lib.hid hca
      have HWR := Lib.hid (show wrap64 ((k : Int) + 1) = ((k + 1 : Nat) : Int) by have := HLIM.out; unfold wrap64; omega)
      clear ha hca
      obtain ⟨V, hV⟩ : ∃ V, V = wr.heap.size := ⟨_, rfl⟩
      have HV0 := Lib.hid (show Blk (wr.alloc (.cells #[.int .i64 0, .int .i64 0, .int .i64 0, .int .i64 0, .int .i64 0, .int .i64 0] 40)) wr.heap.size 40 (acv ac0) from Blk.new wr 40 (acv ac0).toArray)
      have hbx : Below wr.heap.size wr ((wr.alloc (.cells #[.int .i64 0, .int .i64 0, .int .i64 0, .int .i64 0, .int .i64 0, .int .i64 0] 40)).setRow wr.heap.size (acv a).toArray) := below_row ((Below.refl _ wr).alloc (Nat.le_refl _) _) (Nat.le_refl _) _
      have HV := Lib.hid (HV0.out.setRow (acv a))
      replace HP := Lib.hid (HP.out.below hbx)
      replace HX := Lib.hid (HX.out.below hbx HX.out.lt)
      replace HB := Lib.hid (HB.out.trans (hbx.mono HB.out.size))
      clear hbx
      go_upto_region 9 with (first
        | ((with_reducible refine wpList_load_act (.tmp 23) ?_ ?_ g (off + k * 6) a ?_ HCA.out ?_); rfl; rfl; rfl)
        | ((with_reducible refine wpList_store_act (.tmp 5) (.tmp 24) ?_ ?_ wr.heap.size ac0 a ?_ ?_ HV0.out ?_); rfl; rfl; rfl; rfl))
      try simp only [Act.put]
      rw [← hV] at HV HP HX HB ⊢
      generalize (wr.alloc (.cells #[.int .i64 0, .int .i64 0, .int .i64 0, .int .i64 0, .int .i64 0, .int .i64 0] 40)).setRow V (acv a).toArray = w5 at HV HP HX HB ⊢
      clear hV HV0 HCA
      have HVA := Lib.hid (show ∀ j v, (acv a)[j]? = some v → w5.cell? ⟨V, 0 + j, none⟩ = some v from fun j v hj => by rw [Nat.zero_add, HV.out.cell]; exact hj)
      have ck := HV.out.cell 0
      simp only [acv, List.getElem?_cons_zero] at ck
      by_cases h0 : a.k = 0
      · rw [h0] at ck
        go_wp2_with (first
          | ((with_reducible refine wpList_load_pair (.tmp 3) ?_ ?_ X tb wb rb ?_ HX.out ?_); rfl; rfl; rfl)
          | ((with_reducible refine wpList_load_act (.tmp 5) ?_ ?_ V 0 a ?_ HVA.out ?_); rfl; rfl; rfl))
        refine (do_any w5 B [X] tb wb mb rb t [0] a HP.out).mono ?_
        rintro e w6 ⟨rfl, hp6, hb6, hk6⟩
        have hd : doP (t, [0]) a = ((addT 256 t (nmN a.r) (nmN a.p) a.s).2, [0]) := by unfold doP; rw [if_pos h0]
        rw [hd] at hp6
        have HP2 := Lib.hid hp6
        have HX2 := Lib.hid (hk6.blk HX.out (by simp))
        have HB2 := Lib.hid (HB.out.trans (hb6.mono HB1.out))
        clear hp6 hb6 hk6 HP HX HB HV HVA ck hd
        go_wp2_with fail
        go_roundw
        case rel => exact ⟨k + 1, _, by omega, by first | rw [HWR.out] | rw [Int.natCast_succ], HP2, HX2, HB2⟩
        case measure => exact measK len k 1 _ (by first | exact HWR.out | rw [Int.natCast_succ]) hlt (by omega)
      · go_wp2_with fail
        go_roundw
        case rel => exact ⟨k + 1, t, by omega, by first | rw [HWR.out] | rw [Int.natCast_succ], HP, HX, HB⟩
        case measure => exact measK len k 1 _ (by first | exact HWR.out | rw [Int.natCast_succ]) hlt (by omega)
    · have hge : ¬ (k : Int) < (len : Int) := by omega
      obtain ⟨own, hown⟩ : ∃ own : List Int, own = [0] := ⟨_, rfl⟩
      have HGD := Lib.hid HP.out.good
      rw [← hown] at HP
      clear hlt
      have kp := HX.out.cell 1
      simp only [prv, List.getElem?_cons_succ, List.getElem?_cons_zero] at kp
      go_wp2_with fail
      refine (HP.out.apply [] none 0 0 0 (fun d hd => by cases hd) (by simp) ⟨fun h => absurd h (by simp [dvs]), fun h => absurd h (by simp [dvs]), fun j u h => by simp [dvs] at h⟩ (fun h => absurd h (by simp))).mono ?_
      rintro e wa ⟨rfl, hp, hb, hk⟩
      rw [appW_none HP.out.ownG.1] at hp
      rw [appW_none HP.out.ownG.1]
      have HPL := Lib.hid (padW_length HP.out.ownG.2.1)
      have HPN := Lib.hid hp
      have HXN := Lib.hid (hk.blk HX.out (by simp))
      replace HB := Lib.hid (HB.out.trans (hb.mono HB1.out))
      clear hp hb hk kp HP HX
      have HP := HPN
      have HX := HXN
      clear HPN HXN
      obtain ⟨o2, ho2⟩ : ∃ o2, o2 = padW t own := ⟨_, rfl⟩
      rw [← ho2] at HP HPL
      have HOZ := Lib.hid (show ∀ x ∈ o2, x = 0 from fun x hx => by
        rw [ho2, hown, padW] at hx
        rcases List.mem_append.1 hx with h | h
        · simpa using h
        · exact (List.mem_replicate.1 h).2)
      have HOG := Lib.hid HP.out.ownG.1
      have HM256 := Lib.hid (show t.length ≤ 256 ∧ 1 ≤ t.length by have := HGD.out.room; have := HGD.out.most256; have := HGD.out.pos; omega)
      clear ho2 hown
      have kp0 := HX.out.cell 0
      simp only [prv, List.getElem?_cons_zero] at kp0
      go_wp2_with fail
      refine HP.out.roots.mono ?_
      rintro e w4 ⟨v, rfl, hv, hbc⟩
      clear kp0
      have HRT := Lib.hid HGD.out.rts
      have HRL := Lib.hid (rs_length t)
      obtain ⟨ro, rcap, rg, roff, rfl, hrl⟩ := wide_names hv HRT.out
      have HRW := Lib.hid hrl
      clear hv hrl
      replace HP := Lib.hid (HP.out.below hbc)
      replace HX := Lib.hid (HX.out.below hbc HX.out.lt)
      replace HB := Lib.hid (HB.out.trans (hbc.mono HB.out.size))
      clear hbc
      rw [HRL.out]
      go_wp2_with fail
      go_loopw [39] (fun i wx => ∃ (k : Nat), k ≤ t.length ∧ i = .int .i64 k ∧ Hid (PSX B [X] wx tb wb mb rb t t o2 own) ∧ Hid (Blk wx X 37 (prv tb wb rb)) ∧ Hid (Lies wx wx.heap.size ro rg roff (rv (rs t))) ∧ Hid (Below w.heap.size w wx)) (fun i _ => t.length - (intOf i).toNat)
      case atStart => exact ⟨0, Nat.zero_le _, rfl, HP, HX, HRW, HB⟩
      case round =>
        clear HP HX HRW HB hge hk
        obtain ⟨k, hk, rfl, HP, HX, HRW, HB⟩ := hrel
        obtain ⟨wx, rfl⟩ : ∃ x, x = wr := ⟨_, rfl⟩
        by_cases hlt : k < t.length
        · obtain ⟨n, hn⟩ : ∃ n, t[k]? = some n := ⟨_, List.getElem?_eq_getElem hlt⟩
          have HNL := Lib.hid (show n.1.length = 32 from HGD.out.nds n (List.mem_of_getElem? hn))
          have HLO := Lib.hid (show k < o2.length by rw [HPL.out]; exact hlt)
          have HWV := Lib.hid (show tellZ t o2.length n.1 0 (wtW t o2) = 0 by rw [tellZ_at HGD.out hn HLO.out 0 (wtW t o2)]; exact wtW_zero HOZ.out k)
          have HBV := Lib.hid (show bstZ t o2 n.1 = bsW t o2 k from tellZ_at HGD.out hn HLO.out (-1) (bsW t o2))
          have HKR := Lib.hid (HGD.out.kids_rts n.1)
          have HKB := Lib.hid (show (kidsT t n.1).length ≤ 256 from Nat.le_trans (kids_le t n.1) HM256.out.1)
          have HIF := Lib.hid (HGD.out.best_iff HPL.out hn)
          have HTP := Lib.hid (HGD.out.best_top HPL.out HOZ.out hn)
          have HBL := Lib.hid (HGD.out.pnm_len (bsW t o2 k))
          obtain ⟨hro, hrc⟩ := HRW.out.name HRT.out (rs_at hn)
          have HRC := Lib.hid hrc
          have HLT := Lib.hid hlt
          have HK := Lib.hid hk
          have hlt' : (k : Int) < (t.length : Int) := by omega
          clear hn hrc hlt hk
          subst hro
          have HWK := Lib.hid (show wrap64 ((k : Int) + 1) = ((k + 1 : Nat) : Int) by have := HM256.out; have := HLT.out; unfold wrap64; omega)
          have HZ := Lib.hid (blk_zeroR wx)
          have HZL := Lib.hid zero32_len
          have HR := Lib.hid (HZ.out.setRow (bv n.1))
          have hbx : Below wx.heap.size wx ((wx.alloc (.cells #[.int .u8 0, .int .u8 0, .int .u8 0, .int .u8 0, .int .u8 0, .int .u8 0, .int .u8 0, .int .u8 0, .int .u8 0, .int .u8 0, .int .u8 0, .int .u8 0, .int .u8 0, .int .u8 0, .int .u8 0, .int .u8 0, .int .u8 0, .int .u8 0, .int .u8 0, .int .u8 0, .int .u8 0, .int .u8 0, .int .u8 0, .int .u8 0, .int .u8 0, .int .u8 0, .int .u8 0, .int .u8 0, .int .u8 0, .int .u8 0, .int .u8 0, .int .u8 0] 24)).setRow wx.heap.size (bv n.1).toArray) := below_row ((Below.refl _ wx).alloc (Nat.le_refl _) _) (Nat.le_refl _) _
          replace HP := Lib.hid (HP.out.below hbx)
          replace HX := Lib.hid (HX.out.below hbx HX.out.lt)
          replace HRW := Lib.hid (HRW.out.below hbx)
          replace HB := Lib.hid (HB.out.trans (hbx.mono HB.out.size))
          clear hbx
          obtain ⟨R, hR⟩ : ∃ R, R = wx.heap.size := ⟨_, rfl⟩
          go_upto_region 16 with (first | ((with_reducible refine wpList_load_name (.tmp 41) ?_ ?_ rg (roff + k * 32) n.1 ?_ HNL.out HRC.out ?_); rfl; rfl; rfl) | ((with_reducible refine wpList_store_name (.tmp 7) (.tmp 42) ?_ ?_ wx.heap.size zero32 n.1 ?_ ?_ HZ.out HZL.out HNL.out ?_); rfl; rfl; rfl; rfl))
          try simp only [Act.put]
          rw [← hR] at HR HP HX HRW HB ⊢
          generalize (wx.alloc (.cells #[.int .u8 0, .int .u8 0, .int .u8 0, .int .u8 0, .int .u8 0, .int .u8 0, .int .u8 0, .int .u8 0, .int .u8 0, .int .u8 0, .int .u8 0, .int .u8 0, .int .u8 0, .int .u8 0, .int .u8 0, .int .u8 0, .int .u8 0, .int .u8 0, .int .u8 0, .int .u8 0, .int .u8 0, .int .u8 0, .int .u8 0, .int .u8 0, .int .u8 0, .int .u8 0, .int .u8 0, .int .u8 0, .int .u8 0, .int .u8 0, .int .u8 0, .int .u8 0] 24)).setRow R (bv n.1).toArray = w5 at HR HP HX HRW HB ⊢
          clear HZ HZL hR

          clear HRC
          have kp1 := HX.out.cell 1
          simp only [prv, List.getElem?_cons_succ, List.getElem?_cons_zero] at kp1
          go_wp2_with ((with_reducible refine wpList_load_name (.tmp 7) ?_ ?_ R 0 n.1 ?_ HNL.out HR.out.rootAll ?_); rfl; rfl; rfl)
          refine (HP.out.best n.1 HNL.out).mono ?_
          rintro e w6 ⟨rfl, hbc⟩
          clear kp1
          replace HP := Lib.hid (HP.out.below hbc)
          replace HX := Lib.hid (HX.out.below hbc HX.out.lt)
          replace HRW := Lib.hid (HRW.out.below hbc)
          replace HB := Lib.hid (HB.out.trans (hbc.mono HB.out.size))
          replace HR := Lib.hid (HR.out.below hbc HR.out.lt)
          clear hbc
          rw [HBV.out]
          generalize hbn : pnm t (bsW t o2 k) = bn at HTP HBL ⊢
          clear hbn
          rw [HIF.out]

          have HZ := Lib.hid (blk_zeroR w6)
          have HZL := Lib.hid zero32_len
          have HC := Lib.hid (HZ.out.setRow (bv bn))
          have hbx : Below w6.heap.size w6 ((w6.alloc (.cells #[.int .u8 0, .int .u8 0, .int .u8 0, .int .u8 0, .int .u8 0, .int .u8 0, .int .u8 0, .int .u8 0, .int .u8 0, .int .u8 0, .int .u8 0, .int .u8 0, .int .u8 0, .int .u8 0, .int .u8 0, .int .u8 0, .int .u8 0, .int .u8 0, .int .u8 0, .int .u8 0, .int .u8 0, .int .u8 0, .int .u8 0, .int .u8 0, .int .u8 0, .int .u8 0, .int .u8 0, .int .u8 0, .int .u8 0, .int .u8 0, .int .u8 0, .int .u8 0] 24)).setRow w6.heap.size (bv bn).toArray) := below_row ((Below.refl _ w6).alloc (Nat.le_refl _) _) (Nat.le_refl _) _
          replace HP := Lib.hid (HP.out.below hbx)
          replace HX := Lib.hid (HX.out.below hbx HX.out.lt)
          replace HRW := Lib.hid (HRW.out.below hbx)
          replace HB := Lib.hid (HB.out.trans (hbx.mono HB.out.size))
          replace HR := Lib.hid (HR.out.below hbx HR.out.lt)
          clear hbx
          obtain ⟨C, hC⟩ : ∃ C, C = w6.heap.size := ⟨_, rfl⟩
          go_upto_region 17 with (first | ((with_reducible refine wpList_load_name (.tmp 41) ?_ ?_ rg (roff + k * 32) n.1 ?_ HNL.out HNL.out ?_); rfl; rfl; rfl) | ((with_reducible refine wpList_store_name (.tmp 8) (.tmp 48) ?_ ?_ w6.heap.size zero32 bn ?_ ?_ HZ.out HZL.out HBL.out ?_); rfl; rfl; rfl; rfl))
          try simp only [Act.put]
          rw [← hC] at HC HP HX HRW HB HR ⊢
          generalize (w6.alloc (.cells #[.int .u8 0, .int .u8 0, .int .u8 0, .int .u8 0, .int .u8 0, .int .u8 0, .int .u8 0, .int .u8 0, .int .u8 0, .int .u8 0, .int .u8 0, .int .u8 0, .int .u8 0, .int .u8 0, .int .u8 0, .int .u8 0, .int .u8 0, .int .u8 0, .int .u8 0, .int .u8 0, .int .u8 0, .int .u8 0, .int .u8 0, .int .u8 0, .int .u8 0, .int .u8 0, .int .u8 0, .int .u8 0, .int .u8 0, .int .u8 0, .int .u8 0, .int .u8 0] 24)).setRow C (bv bn).toArray = w7 at HC HP HX HRW HB HR ⊢
          clear HZ HZL hC

          have kp0 := HX.out.cell 0
          simp only [prv, List.getElem?_cons_zero] at kp0
          go_wp2_with ((with_reducible refine wpList_load_name (.tmp 7) ?_ ?_ R 0 n.1 ?_ HNL.out HR.out.rootAll ?_); rfl; rfl; rfl)
          refine (HP.out.kids n.1 HNL.out).mono ?_
          rintro e w8 ⟨v, rfl, hv, hbc⟩
          clear kp0
          generalize kidsT t n.1 = KS at hv HKR HKB HTP HIF ⊢
          obtain ⟨ko, kcap, kg, koff, rfl, hkl⟩ := wide_names hv HKR.out
          have HKW := Lib.hid hkl
          clear hv hkl
          replace HP := Lib.hid (HP.out.below hbc)
          replace HX := Lib.hid (HX.out.below hbc HX.out.lt)
          replace HRW := Lib.hid (HRW.out.below hbc)
          replace HB := Lib.hid (HB.out.trans (hbc.mono HB.out.size))
          replace HR := Lib.hid (HR.out.below hbc HR.out.lt)
          replace HC := Lib.hid (HC.out.below hbc HC.out.lt)
          clear hbc
          have kp1 := HX.out.cell 1
          simp only [prv, List.getElem?_cons_succ, List.getElem?_cons_zero] at kp1
          have hks : decide ((0 : Int) < (KS.length : Int)) = decide (0 < KS.length) := decide_eq_decide.2 (by omega)
          go_wp2_with ((with_reducible refine wpList_load_name (.tmp 7) ?_ ?_ R 0 n.1 ?_ HNL.out HR.out.rootAll ?_); rfl; rfl; rfl)
          refine (HP.out.weight n.1 HNL.out).mono ?_
          rintro e w9 ⟨rfl, hbc⟩
          clear kp1
          replace HP := Lib.hid (HP.out.below hbc)
          replace HX := Lib.hid (HX.out.below hbc HX.out.lt)
          replace HRW := Lib.hid (HRW.out.below hbc)
          replace HB := Lib.hid (HB.out.trans (hbc.mono HB.out.size))
          replace HR := Lib.hid (HR.out.below hbc HR.out.lt)
          replace HC := Lib.hid (HC.out.below hbc HC.out.lt)
          replace HKW := Lib.hid (HKW.out.below hbc)
          clear hbc
          rw [HWV.out]
          go_wp2_with fail
          go_loopw [68] (fun i wy => ∃ (j : Nat), j ≤ KS.length ∧ i = .int .i64 j ∧ Hid (PSX B [X] wy tb wb mb rb t t o2 own) ∧ Hid (Blk wy X 37 (prv tb wb rb)) ∧ Hid (Lies wy wy.heap.size (some ⟨rg, roff, none⟩) rg roff (rv (rs t))) ∧ Hid (Lies wy wy.heap.size ko kg koff (rv KS)) ∧ Hid (Blk wy R 24 (bv n.1)) ∧ Hid (Blk wy C 24 (bv bn)) ∧ Hid (Below w.heap.size w wy)) (fun i _ => KS.length - (intOf i).toNat)
          case atStart => exact ⟨0, Nat.zero_le _, rfl, HP, HX, HRW, HKW, HR, HC, HB⟩
          case round =>
            clear HP HX HRW HKW HR HC HB
            obtain ⟨j, hj, rfl, HP, HX, HRW, HKW, HR, HC, HB⟩ := hrel
            obtain ⟨wy, rfl⟩ : ∃ x, x = wr := ⟨_, rfl⟩
            by_cases hlt : j < KS.length
            · obtain ⟨c, hc⟩ : ∃ c, KS[j]? = some c := ⟨_, List.getElem?_eq_getElem hlt⟩
              obtain ⟨hko, hkc⟩ := HKW.out.name HKR.out hc
              have HKC := Lib.hid hkc
              have HCL := Lib.hid (HKR.out c (List.mem_of_getElem? hc))
              have HLS := Lib.hid (HTP.out c (List.mem_of_getElem? hc))
              have HLJ := Lib.hid hlt
              have hlt2 : (j : Int) < (KS.length : Int) := by omega
              have HWJ := Lib.hid (show wrap64 ((j : Int) + 1) = ((j + 1 : Nat) : Int) by have := HKB.out; have := HLJ.out; unfold wrap64; omega)
              clear hc hkc hlt hj
              subst hko
              have HZ := Lib.hid (blk_zeroR wy)
              have HZL := Lib.hid zero32_len
              have HD := Lib.hid (HZ.out.setRow (bv c))
              have hbx : Below wy.heap.size wy ((wy.alloc (.cells #[.int .u8 0, .int .u8 0, .int .u8 0, .int .u8 0, .int .u8 0, .int .u8 0, .int .u8 0, .int .u8 0, .int .u8 0, .int .u8 0, .int .u8 0, .int .u8 0, .int .u8 0, .int .u8 0, .int .u8 0, .int .u8 0, .int .u8 0, .int .u8 0, .int .u8 0, .int .u8 0, .int .u8 0, .int .u8 0, .int .u8 0, .int .u8 0, .int .u8 0, .int .u8 0, .int .u8 0, .int .u8 0, .int .u8 0, .int .u8 0, .int .u8 0, .int .u8 0] 24)).setRow wy.heap.size (bv c).toArray) := below_row ((Below.refl _ wy).alloc (Nat.le_refl _) _) (Nat.le_refl _) _
              replace HP := Lib.hid (HP.out.below hbx)
              replace HX := Lib.hid (HX.out.below hbx HX.out.lt)
              replace HRW := Lib.hid (HRW.out.below hbx)
              replace HB := Lib.hid (HB.out.trans (hbx.mono HB.out.size))
              replace HR := Lib.hid (HR.out.below hbx HR.out.lt)
              replace HC := Lib.hid (HC.out.below hbx HC.out.lt)
              replace HKW := Lib.hid (HKW.out.below hbx)
              clear hbx
              obtain ⟨D, hD⟩ : ∃ D, D = wy.heap.size := ⟨_, rfl⟩
              go_upto_region 23 with (first | ((with_reducible refine wpList_load_name (.tmp 70) ?_ ?_ kg (koff + j * 32) c ?_ HCL.out HKC.out ?_); rfl; rfl; rfl) | ((with_reducible refine wpList_store_name (.tmp 12) (.tmp 71) ?_ ?_ wy.heap.size zero32 c ?_ ?_ HZ.out HZL.out HCL.out ?_); rfl; rfl; rfl; rfl))
              try simp only [Act.put]
              rw [← hD] at HD HP HX HRW HB HR HC HKW ⊢
              generalize (wy.alloc (.cells #[.int .u8 0, .int .u8 0, .int .u8 0, .int .u8 0, .int .u8 0, .int .u8 0, .int .u8 0, .int .u8 0, .int .u8 0, .int .u8 0, .int .u8 0, .int .u8 0, .int .u8 0, .int .u8 0, .int .u8 0, .int .u8 0, .int .u8 0, .int .u8 0, .int .u8 0, .int .u8 0, .int .u8 0, .int .u8 0, .int .u8 0, .int .u8 0, .int .u8 0, .int .u8 0, .int .u8 0, .int .u8 0, .int .u8 0, .int .u8 0, .int .u8 0, .int .u8 0] 24)).setRow D (bv c).toArray = wz at HD HP HX HRW HB HR HC HKW ⊢
              clear HZ HZL hD

              clear HKC
              go_wp2_with (first | ((with_reducible refine wpList_load_name (.tmp 8) ?_ ?_ C 0 bn ?_ HBL.out HC.out.rootAll ?_); rfl; rfl; rfl) | ((with_reducible refine wpList_load_name (.tmp 12) ?_ ?_ D 0 c ?_ HCL.out HD.out.rootAll ?_); rfl; rfl; rfl))
              refine (refless_any wz bn c HBL.out HCL.out).mono ?_
              rintro e wq ⟨rfl, hbc⟩
              replace HP := Lib.hid (HP.out.below hbc)
              replace HX := Lib.hid (HX.out.below hbc HX.out.lt)
              replace HRW := Lib.hid (HRW.out.below hbc)
              replace HB := Lib.hid (HB.out.trans (hbc.mono HB.out.size))
              replace HR := Lib.hid (HR.out.below hbc HR.out.lt)
              replace HC := Lib.hid (HC.out.below hbc HC.out.lt)
              replace HKW := Lib.hid (HKW.out.below hbc)
              replace HD := Lib.hid (HD.out.below hbc HD.out.lt)
              clear hbc
              rw [HLS.out]
              go_wp2_with fail
              have hlj := HLJ.out
              go_roundw
              case rel => exact ⟨j + 1, by omega, by first | rw [HWJ.out] | rw [Int.natCast_succ], HP, HX, HRW, HKW, HR, HC, HB⟩
              case measure => exact measK KS.length j 1 _ (by first | exact HWJ.out | rw [Int.natCast_succ]) hlj (by omega)
            · have hlt2 : ¬ (j : Int) < (KS.length : Int) := by omega
              clear hlt hj
              go_wp2_with fail
              have hlk := HLT.out
              go_roundw
              case rel => exact ⟨k + 1, by omega, by first | rw [HWK.out] | rw [Int.natCast_succ], HP, HX, HRW, HB⟩
              case measure => exact measK t.length k 1 _ (by first | exact HWK.out | rw [Int.natCast_succ]) hlk (by omega)
        · have hlt2 : ¬ (k : Int) < (t.length : Int) := by omega
          go_wp2_with fail
          go_ret
          exact ⟨rfl, HB.out⟩
end Go.Proofs.Ytpamifdcbnkcdaa
