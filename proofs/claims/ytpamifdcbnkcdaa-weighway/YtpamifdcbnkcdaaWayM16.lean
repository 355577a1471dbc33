/-
  The texts Acts11, Ask11, WayWalk11, one behind the other.
-/
import Derived.Test.YtpamifdcbnkcdaaCDo11
import Derived.Test.YtpamifdcbnkcdaaCAlive11
import Derived.Test.YtpamifdcbnkcdaaWayM1
import Derived.Test.YtpamifdcbnkcdaaWayM2
import Derived.Test.YtpamifdcbnkcdaaWayM12
/-
  Rows of acts as cells.
-/
namespace Go.Proofs.Ytpamifdcbnkcdaa
open Go Go.RowKit
set_option maxRecDepth 10000

def acvs (l : List Ac) : List Value := l.flatMap acv
theorem acvs_length : ∀ (l : List Ac), (acvs l).length = l.length * 6
  | [] => rfl
  | a :: l => by
    have h := acvs_length l
    rw [acvs, List.flatMap_cons, List.length_append, ← acvs, h, List.length_cons]
    simp [acv]; omega
theorem acvs_at : ∀ (l : List Ac) (i j : Nat) (a : Ac), l[i]? = some a → j < 6 → (acvs l)[i * 6 + j]? = (acv a)[j]?
  | [], i, j, a, h, _ => by simp at h
  | y :: l, 0, j, a, h, hj => by
    simp at h
    subst h
    rw [acvs, List.flatMap_cons, Nat.zero_mul, Nat.zero_add, List.getElem?_append_left (by simp [acv]; exact hj)]
  | y :: l, i + 1, j, a, h, hj => by
    have hy : (acv y).length = 6 := rfl
    rw [acvs, List.flatMap_cons, List.getElem?_append_right (by rw [hy]; omega), hy, show (i + 1) * 6 + j - 6 = i * 6 + j by omega, ← acvs]
    exact acvs_at l i j a (by simpa using h) hj
theorem Lies.act {w : World} {B b off : Nat} {ao : Option Addr} {l : List Ac} (h : Lies w B ao b off (acvs l)) {i : Nat} {a : Ac} (hi : l[i]? = some a) : ao = some ⟨b, off, none⟩ ∧ ∀ j v, (acv a)[j]? = some v → w.cell? ⟨b, off + i * 6 + j, none⟩ = some v := by
  have hl := (List.getElem?_eq_some_iff.1 hi).1
  refine ⟨h.addr (by rw [acvs_length]; omega), fun j v hj => ?_⟩
  have hj6 : j < 6 := by have := (List.getElem?_eq_some_iff.1 hj).1; simpa [acv] using this
  rw [Nat.add_assoc]
  exact h.cells _ v ((acvs_at l i j a hi hj6).trans hj)
theorem Try.sizeAct : (Try.prog.info? 40).map (·.size) = some 6 := by kernel_rfl
theorem Try.aggAct (w : World) : (isAgg 40).run Try.prog w = .ok true w := by
  unfold isAgg
  rw [Sem.run_bind, run_underlying Try.underlying40 w]
  rfl
theorem acv_one (a : Ac) : ∀ v ∈ acv a, v.oneCell' = true := fun v hv => by
  simp only [acv, List.mem_cons, List.not_mem_nil, or_false] at hv
  rcases hv with rfl | rfl | rfl | rfl | rfl | rfl <;> rfl
theorem prv_one (a b c : Nat) : ∀ v ∈ prv a b c, v.oneCell' = true := fun v hv => by
  simp only [prv, List.mem_cons, List.not_mem_nil, or_false] at hv
  rcases hv with rfl | rfl | rfl <;> rfl
section
variable {ops : Array Oper} {rest : List Oper} {o : Oper} {a : Act} {w : World} {Q : Exit → Act → World → Prop}
theorem wpList_load_act (y : Operand) (ho : o.op = .load 40 y) (hgd : o.guard = none) (g off : Nat) (x : Ac) (hx : a.eval y = .pointer (some ⟨g, off, none⟩)) (hc : ∀ j v, (acv x)[j]? = some v → w.cell? ⟨g, off + j, none⟩ = some v)
    (h : wpList Try.prog ops Q rest (a.put o.dst (.agg (acv x).toArray)) w) : wpList Try.prog ops Q (o :: rest) a w :=
  wpList_load_agg hgd 40 y ho g off (acv x) hx hc Try.aggAct Try.sizeAct h
theorem wpList_store_act (x y : Operand) (ho : o.op = .store 40 x y) (hgd : o.guard = none) (g : Nat) (n n' : Ac) (hx : a.eval x = .pointer (some ⟨g, 0, none⟩)) (hy : a.eval y = .agg (acv n').toArray) (hg : Blk w g 40 (acv n))
    (h : wpList Try.prog ops Q rest (a.put o.dst undef) (w.setRow g (acv n').toArray)) : wpList Try.prog ops Q (o :: rest) a w := by
  refine wpList_store_part hgd 40 x y ho g 0 (acv n') hx hy 40 (acv n) hg Try.sizeAct (Nat.le_refl _) (acv_one _) ?_
  rw [show splice (acv n) 0 (acv n') = acv n' from splice_all _ _ rfl]
  exact h
theorem wpList_load_pair (y : Operand) (ho : o.op = .load 37 y) (hgd : o.guard = none) (g tb wb rb : Nat) (hx : a.eval y = .pointer (some ⟨g, 0, none⟩)) (hg : Blk w g 37 (prv tb wb rb))
    (h : wpList Try.prog ops Q rest (a.put o.dst (.agg (prv tb wb rb).toArray)) w) : wpList Try.prog ops Q (o :: rest) a w :=
  wpList_load_agg hgd 37 y ho g 0 (prv tb wb rb) hx (fun j v hj => by rw [Nat.zero_add, hg.cell]; exact hj) Try.aggPair Try.sizePair h
theorem wpList_store_pair (x y : Operand) (ho : o.op = .store 37 x y) (hgd : o.guard = none) (g tb wb rb : Nat) (hx : a.eval x = .pointer (some ⟨g, 0, none⟩)) (hy : a.eval y = .agg (prv tb wb rb).toArray) (hg : Blk w g 37 [.pointer none, .pointer none, .pointer none])
    (h : wpList Try.prog ops Q rest (a.put o.dst undef) (w.setRow g (prv tb wb rb).toArray)) : wpList Try.prog ops Q (o :: rest) a w := by
  refine wpList_store_part hgd 37 x y ho g 0 (prv tb wb rb) hx hy 37 _ hg Try.sizePair (Nat.le_refl _) (prv_one _ _ _) ?_
  rw [show splice [.pointer none, .pointer none, .pointer none] 0 (prv tb wb rb) = prv tb wb rb from splice_all _ _ rfl]
  exact h
end
def ac0 : Ac := ⟨0, 0, 0, 0, 0, 0⟩

/-- What a row of acts makes of a tree and own weights. -/
def doAll (x : List Nd × List Int) (l : List Ac) : List Nd × List Int := l.foldl doP x
theorem doAll_next {x : List Nd × List Int} {l : List Ac} {k : Nat} {a : Ac} (h : l[k]? = some a) : doAll x (l.take (k + 1)) = doP (doAll x (l.take k)) a := by
  unfold doAll
  rw [List.take_add_one, h, List.foldl_append]
  rfl
end Go.Proofs.Ytpamifdcbnkcdaa

/-
  What a pair is asked: reading calls; the tree's names, in their rows.
-/
namespace Go.Proofs.Ytpamifdcbnkcdaa
open Go Go.RowKit
set_option maxRecDepth 10000

theorem doP_prefix (x : List Nd × List Int) (a : Ac) : x.1 <+: (doP x a).1 := by
  unfold doP
  split
  · exact addT_prefix 256 x.1 _ _ _
  · exact List.prefix_refl _
theorem doAll_prefix : ∀ (l : List Ac) (x : List Nd × List Int), x.1 <+: (doAll x l).1
  | [], _ => List.prefix_refl _
  | a :: l, x => (doP_prefix x a).trans (doAll_prefix l (doP x a))
theorem doAll_root (l : List Ac) : (doAll (root11, [0]) l).1[0]? = some (nmN 0, 0, -1) := by
  obtain ⟨s, hs⟩ := doAll_prefix l (root11, [0])
  rw [← hs]
  rfl
theorem tellZ_at {t : List Nd} {most : Int} (G : Good t most) {k N : Nat} {n : Nd} (h : t[k]? = some n) (hN : k < N) (dn : Int) (z : Nat → Int) : tellZ t N n.1 dn z = z k := by
  unfold tellZ
  rw [G.plc_at h, if_pos (by omega), Int.toNat_natCast]
theorem Good.kids_in {t : List Nd} {most : Int} (G : Good t most) {k : Nat} {n : Nd} (h : t[k]? = some n) {c : List UInt8} (hc : c ∈ kidsT t n.1) : ∃ (i : Nat) (x : Nd), t[i]? = some x ∧ x.1 = c ∧ parW t i = (k : Int) := by
  unfold kidsT at hc
  rw [G.plc_at h, if_pos (by omega), rs] at hc
  obtain ⟨x, hx, rfl⟩ := List.mem_map.1 hc
  obtain ⟨hx, hp⟩ := List.mem_filter.1 hx
  obtain ⟨i, hi, he⟩ := List.getElem_of_mem hx
  have hi' : t[i]? = some x := by rw [List.getElem?_eq_getElem hi, he]
  exact ⟨i, x, hi', rfl, by rw [parW_at hi']; simpa using hp⟩

theorem kids_le (t : List Nd) (r : List UInt8) : (kidsT t r).length ≤ t.length := by
  unfold kidsT
  split
  · rw [rs_length]
    exact List.length_filter_le _ _
  · exact Nat.zero_le _

section
variable {B : Nat} {K : List Nat} {w : World} {tb wb mb rb : Nat} {tx ty : List Nd} {ox oy : List Int}
theorem PSX.own (h : PSX B K w tb wb mb rb tx ty ox oy) (r : List UInt8) (hr : r.length = 32) :
    Calls Try.prog 13 #[.pointer (some ⟨wb, 0, none⟩), .agg (bv r).toArray] w fun e w' => e = .returned (.int .i64 (tellZ tx ox.length r 0 (owZ ox))) ∧ Below w.heap.size w w' := by
  obtain ⟨⟨G, F, M, R, h⟩, _, _⟩ := h
  exact own_any w G tb tx 256 F wb ox r h.tre h.wgt hr
theorem PSX.weight (h : PSX B K w tb wb mb rb tx ty ox oy) (r : List UInt8) (hr : r.length = 32) :
    Calls Try.prog 14 #[.pointer (some ⟨wb, 0, none⟩), .agg (bv r).toArray] w fun e w' => e = .returned (.int .i64 (tellZ tx ox.length r 0 (wtW tx ox))) ∧ Below w.heap.size w w' := by
  obtain ⟨⟨G, F, M, R, h⟩, _, _⟩ := h
  exact wt_any w G tb tx 256 F wb ox r h.tre h.wgt hr
theorem PSX.best (h : PSX B K w tb wb mb rb tx ty ox oy) (r : List UInt8) (hr : r.length = 32) :
    Calls Try.prog 10 #[.pointer (some ⟨wb, 0, none⟩), .agg (bv r).toArray] w fun e w' => e = .returned (.tuple #[.agg (bv (pnm tx (bstZ tx ox r))).toArray, .bool (decide (0 ≤ bstZ tx ox r))]) ∧ Below w.heap.size w w' := by
  obtain ⟨⟨G, F, M, R, h⟩, _, _⟩ := h
  exact best_any w G tb tx 256 F wb ox r h.tre h.wgt hr
theorem PSX.head (h : PSX B K w tb wb mb rb tx ty ox oy) :
    Calls Try.prog 15 #[.pointer (some ⟨wb, 0, none⟩)] w fun e w' => e = .returned (.agg (bv (pnm tx (hdW tx ox : Int))).toArray) ∧ Below w.heap.size w w' := by
  obtain ⟨⟨G, F, M, R, h⟩, _, _⟩ := h
  exact head_any w G tb tx 256 F wb ox h.tre h.wgt
theorem PSX.roots (h : PSX B K w tb wb mb rb tx ty ox oy) :
    Calls Try.prog 22 #[.pointer (some ⟨tb, 0, none⟩)] w fun e w' => ∃ v, e = .returned v ∧ Wide 32 w' w.heap.size v (rv (rs tx)) ∧ Below w.heap.size w w' := by
  obtain ⟨⟨G, F, M, R, h⟩, _, _⟩ := h
  exact roots_any w G tb tx 256 h.tre
theorem PSX.kids (h : PSX B K w tb wb mb rb tx ty ox oy) (r : List UInt8) (hr : r.length = 32) :
    Calls Try.prog 23 #[.pointer (some ⟨tb, 0, none⟩), .agg (bv r).toArray] w fun e w' => ∃ v, e = .returned v ∧ Wide 32 w' w.heap.size v (rv (kidsT tx r)) ∧ Below w.heap.size w w' := by
  obtain ⟨⟨G, F, M, R, h⟩, _, _⟩ := h
  exact kids_any w G tb tx 256 r h.tre hr
theorem PSX.isbelow (h : PSX B K w tb wb mb rb tx ty ox oy) (x y : List UInt8) (hx : x.length = 32) (hy : y.length = 32) :
    Calls Try.prog 25 #[.pointer (some ⟨tb, 0, none⟩), .agg (bv x).toArray, .agg (bv y).toArray] w fun e w' => e = .returned (.bool (belowT tx x y)) ∧ Below w.heap.size w w' := by
  obtain ⟨⟨G, F, M, R, h⟩, _, _⟩ := h
  exact below_any w G tb tx 256 x y h.tre hx hy
/-- A block of K, and no other, was written. -/
theorem PSX.mine {w' : World} (h : PSX B K w tb wb mb rb tx ty ox oy) (hk : Kept K w w') : PSX B K w' tb wb mb rb tx ty ox oy := by
  obtain ⟨⟨G, F, M, R, h⟩, hl, hs⟩ := h
  exact ⟨⟨G, F, M, R, { h with tre := h.tre.keep hk h.kG.symm, wgt := h.wgt.keep hk h.kF.symm, ref := h.ref.keep hk h.kM.symm, rw := h.rw.keep hk h.kR.symm }⟩, hl.keep hk.size, Nat.le_trans hs hk.size⟩
theorem PSX.row (h : PSX B K w tb wb mb rb tx ty ox oy) {k : Nat} (hk : k ∈ K) (cs : Array Value) : PSX B K (w.setRow k cs) tb wb mb rb tx ty ox oy := h.mine ((Kept.refl K w).setRow (.inl hk) cs)
end
theorem pnm_at {t : List Nd} {i : Nat} {x : Nd} (h : t[i]? = some x) : pnm t (i : Int) = x.1 := by
  unfold pnm nodeAt
  simp [h]
theorem Good.kids_has {t : List Nd} {most : Int} (G : Good t most) {k i : Nat} {n x : Nd} (h : t[k]? = some n) (hx : t[i]? = some x) (hp : parW t i = (k : Int)) : x.1 ∈ kidsT t n.1 := by
  unfold kidsT
  rw [G.plc_at h, if_pos (by omega), rs]
  refine List.mem_map.2 ⟨x, List.mem_filter.2 ⟨List.mem_of_getElem? hx, ?_⟩, rfl⟩
  rw [parW_at hx] at hp
  simpa using hp
theorem Good.best_iff {t : List Nd} {most : Int} (G : Good t most) {own : List Int} (hl : own.length = t.length) {k : Nat} {n : Nd} (h : t[k]? = some n) : decide (0 ≤ bsW t own k) = decide (0 < (kidsT t n.1).length) := by
  rcases G.bsW_place (Nat.le_of_eq hl) k with ⟨hb, hn⟩ | ⟨q, hb, _, hq, hp⟩
  · have he : kidsT t n.1 = [] := by
      refine List.eq_nil_iff_forall_not_mem.2 fun c hc => ?_
      obtain ⟨i, x, hx, _, hp⟩ := G.kids_in h hc
      exact hn i (by rw [hl]; exact (List.getElem?_eq_some_iff.1 hx).1) hp
    rw [hb, he]
    rfl
  · obtain ⟨x, hx⟩ : ∃ x, t[q]? = some x := ⟨_, List.getElem?_eq_getElem (by omega)⟩
    have hm := G.kids_has h hx hp
    have h1 : 0 < (kidsT t n.1).length := List.length_pos_of_mem hm
    rw [hb, decide_eq_true h1]
    exact decide_eq_true (by omega)
theorem Good.chn_any {t : List Nd} {most : Int} (G : Good t most) {i : Nat} {n : Nd} (hi : t[i]? = some n) : ∀ (N j : Nat), j < N → j < t.length → ((chn t (j : Int)).any fun m => m.1 == n.1) = abW t i j
  | 0, j, h, _ => by omega
  | N + 1, j, h, hl => by
    obtain ⟨x, hx⟩ : ∃ x, t[j]? = some x := ⟨_, List.getElem?_eq_getElem hl⟩
    rw [G.chn_some hx, List.any_cons, G.abW_eq]
    have he : (x.1 == n.1) = (i == j) := by
      by_cases hij : i = j
      · subst hij
        rw [hi] at hx
        cases hx
        rw [beq_self_eq_true, beq_self_eq_true]
      · have hne : x.1 ≠ n.1 := fun e => hij (by
          have h1 := G.plc_at hi
          have h2 := G.plc_at hx
          rw [e] at h2
          omega)
        rw [beq_eq_false_iff_ne.2 hne, beq_eq_false_iff_ne.2 hij]
    rw [he, parW_at hx]
    congr 1
    have hp := G.parent_lt hx
    by_cases h0 : 0 ≤ x.2.2
    · rw [if_pos h0]
      obtain ⟨p, hpe⟩ : ∃ p : Nat, x.2.2 = (p : Int) := ⟨x.2.2.toNat, by omega⟩
      rw [hpe, Int.toNat_natCast]
      rw [hpe] at hp
      exact Good.chn_any G hi N p (by omega) (by omega)
    · rw [if_neg h0, chn_neg (by omega)]
      rfl
theorem Good.below_ab {t : List Nd} {most : Int} (G : Good t most) {i j : Nat} {n x : Nd} (hi : t[i]? = some n) (hj : t[j]? = some x) : belowT t n.1 x.1 = abW t i j := by
  unfold belowT
  rw [G.plc_at hj]
  exact G.chn_any hi (j + 1) j (by omega) (List.getElem?_eq_some_iff.1 hj).1
end Go.Proofs.Ytpamifdcbnkcdaa

/-
  The walk of WeighWay.
-/
namespace Go.Proofs.Ytpamifdcbnkcdaa
open Go Go.RowKit
set_option maxRecDepth 10000

attribute [local go_sem] root_eqW
set_option maxHeartbeats 16000000 in
theorem way_any (w : World) (ao : Option Addr) (len cap g off : Nat) (l : List Ac) (hl : l.length = len) (h : Lies w w.heap.size ao g off (acvs l)) :
    Calls Try.prog 7 #[.slice ao len cap] w fun e w' => e = .returned (.bool true) ∧ Below w.heap.size w w' := by
  have HL0 := Lib.hid h
  have HN := Lib.hid hl
  clear h hl
  go_enter Try.func7, Try.ntmps7
  go_wp2_with fail
  refine (alive_any w).mono ?_
  rintro e w1 ⟨rfl, hbc⟩
  have HB := Lib.hid hbc
  clear hbc
  by_cases h1 : (60 : Int) < (len : Int)
  · go_wp2_with fail
    go_ret
    exact ⟨rfl, HB.out⟩
  have HLIM := Lib.hid (show len ≤ 60 by omega)
  go_wp2_with fail
  refine (begun_any w1).mono ?_
  rintro e w2 ⟨tb, wb, mb, rb, rfl, hp, hbc⟩
  have HB1 := Lib.hid HB.out.size
  obtain ⟨B, hBB⟩ : ∃ B, B = w1.heap.size := ⟨_, rfl⟩
  rw [← hBB] at hp HB1
  have HP0 := Lib.hid hp
  replace HB := Lib.hid (HB.out.trans (hbc.mono HB.out.size))
  clear hbc hp hBB
  have HX0 := Lib.hid (show Blk (w2.alloc (.cells #[.pointer none, .pointer none, .pointer none] 37)) w2.heap.size 37 [.pointer none, .pointer none, .pointer none] from Blk.new w2 37 #[.pointer none, .pointer none, .pointer none])
  have hbx : Below w2.heap.size w2 ((w2.alloc (.cells #[.pointer none, .pointer none, .pointer none] 37)).setRow w2.heap.size (prv tb wb rb).toArray) := below_row ((Below.refl _ w2).alloc (Nat.le_refl _) _) (Nat.le_refl _) _
  have HX := Lib.hid (HX0.out.setRow (prv tb wb rb))
  obtain ⟨X, hX⟩ : ∃ X, X = w2.heap.size := ⟨_, rfl⟩
  have HP := Lib.hid (HP0.out.more hbx (K' := [X]) (fun k hk => by simp at hk; omega) (fun k hk => by simp at hk; rw [hk, hX]; exact HX.out.lt))
  replace HB := Lib.hid (HB.out.trans (hbx.mono HB.out.size))
  clear hbx HP0
  go_upto_region 6 with ((with_reducible refine wpList_store_pair (.tmp 3) (.tmp 15) ?_ ?_ w2.heap.size tb wb rb ?_ ?_ HX0.out ?_); rfl; rfl; rfl; rfl)
  try simp only [Act.put]
  rw [← hX] at HX HB ⊢
  rw [← hX] at HP
  generalize (w2.alloc (.cells #[.pointer none, .pointer none, .pointer none] 37)).setRow X (prv tb wb rb).toArray = w3 at HX HP HB ⊢
  clear hX HX0
  rw [List.append_nil] at HP
  go_wp2_with fail
  go_loopw [18] (fun i wr => ∃ k : Nat, k ≤ len ∧ i = .int .i64 k ∧ Hid (PSX B [X] wr tb wb mb rb (doAll (root11, [0]) (l.take k)).1 (doAll (root11, [0]) (l.take k)).1 (doAll (root11, [0]) (l.take k)).2 (doAll (root11, [0]) (l.take k)).2) ∧ Hid (Blk wr X 37 (prv tb wb rb)) ∧ Hid (Below w.heap.size w wr)) (fun i _ => len - (intOf i).toNat)
  case atStart => exact ⟨0, Nat.zero_le _, rfl, HP, HX, HB⟩
  case round =>
    clear HP HX HB
    obtain ⟨k, hk, rfl, HP, HX, HB⟩ := hrel
    by_cases hlt : k < len
    · obtain ⟨a, ha⟩ : ∃ a, l[k]? = some a := ⟨_, List.getElem?_eq_getElem (by rw [HN.out]; exact hlt)⟩
      obtain ⟨hao, hca⟩ := (HL0.out.keep HB.out).act ha
      subst hao
      have HCA := Lib.hid hca
      have HNX := Lib.hid (doAll_next (x := (root11, [0])) ha)
      have HWR := Lib.hid (show wrap64 ((k : Int) + 1) = ((k + 1 : Nat) : Int) by have := HLIM.out; unfold wrap64; omega)
      clear ha hca
      obtain ⟨V, hV⟩ : ∃ V, V = wr.heap.size := ⟨_, rfl⟩
      have HV0 := Lib.hid (show Blk (wr.alloc (.cells #[.int .i64 0, .int .i64 0, .int .i64 0, .int .i64 0, .int .i64 0, .int .i64 0] 40)) wr.heap.size 40 (acv ac0) from Blk.new wr 40 (acv ac0).toArray)
      have hbx : Below wr.heap.size wr ((wr.alloc (.cells #[.int .i64 0, .int .i64 0, .int .i64 0, .int .i64 0, .int .i64 0, .int .i64 0] 40)).setRow wr.heap.size (acv a).toArray) := below_row ((Below.refl _ wr).alloc (Nat.le_refl _) _) (Nat.le_refl _) _
      have HV := Lib.hid (HV0.out.setRow (acv a))
      replace HP := Lib.hid (HP.out.below hbx)
      replace HX := Lib.hid (HX.out.below hbx HX.out.lt)
      replace HB := Lib.hid (HB.out.trans (hbx.mono HB.out.size))
      clear hbx
      go_upto_region 9 with (first
        | ((with_reducible refine wpList_load_act (.tmp 20) ?_ ?_ g (off + k * 6) a ?_ HCA.out ?_); rfl; rfl; rfl)
        | ((with_reducible refine wpList_store_act (.tmp 5) (.tmp 21) ?_ ?_ wr.heap.size ac0 a ?_ ?_ HV0.out ?_); rfl; rfl; rfl; rfl))
      try simp only [Act.put]
      rw [← hV] at HV HP HX HB ⊢
      generalize (wr.alloc (.cells #[.int .i64 0, .int .i64 0, .int .i64 0, .int .i64 0, .int .i64 0, .int .i64 0] 40)).setRow V (acv a).toArray = w5 at HV HP HX HB ⊢
      clear hV HV0 HCA
      have HVA := Lib.hid (show ∀ j v, (acv a)[j]? = some v → w5.cell? ⟨V, 0 + j, none⟩ = some v from fun j v hj => by rw [Nat.zero_add, HV.out.cell]; exact hj)
      go_wp2_with (first
        | ((with_reducible refine wpList_load_pair (.tmp 3) ?_ ?_ X tb wb rb ?_ HX.out ?_); rfl; rfl; rfl)
        | ((with_reducible refine wpList_load_act (.tmp 5) ?_ ?_ V 0 a ?_ HVA.out ?_); rfl; rfl; rfl))
      refine (do_any w5 B [X] tb wb mb rb _ _ a HP.out).mono ?_
      rintro e w6 ⟨rfl, hp6, hb6, hk6⟩
      have HP2 := Lib.hid (show PSX B [X] w6 tb wb mb rb (doAll (root11, [0]) (l.take (k + 1))).1 (doAll (root11, [0]) (l.take (k + 1))).1 (doAll (root11, [0]) (l.take (k + 1))).2 (doAll (root11, [0]) (l.take (k + 1))).2 by rw [HNX.out]; exact hp6)
      have HX2 := Lib.hid (hk6.blk HX.out (by simp))
      have HB2 := Lib.hid (HB.out.trans (hb6.mono HB1.out))
      clear hp6 hb6 hk6 HP HX HB HV HVA HNX
      go_wp2_with fail
      go_roundw
      case rel => exact ⟨k + 1, by omega, by first | rw [HWR.out] | rw [Int.natCast_succ], HP2, HX2, HB2⟩
      case measure => exact measK len k 1 _ (by first | exact HWR.out | rw [Int.natCast_succ]) hlt (by omega)
    · have hge : ¬ (k : Int) < (len : Int) := by omega
      have HR0 := Lib.hid (doAll_root (l.take k))
      generalize doAll (root11, [0]) (l.take k) = x at HP HR0
      obtain ⟨t, own⟩ := x
      simp only at HP HR0
      have HGD := Lib.hid HP.out.good
      clear hlt
      have kp := HX.out.cell 1
      simp only [prv, List.getElem?_cons_succ, List.getElem?_cons_zero] at kp
      go_wp2_with fail
      refine (HP.out.apply [] none 0 0 0 (fun d hd => by cases hd) (by simp) ⟨fun h => absurd h (by simp [dvs]), fun h => absurd h (by simp [dvs]), fun j u h => by simp [dvs] at h⟩ (fun h => absurd h (by simp))).mono ?_
      rintro e wa ⟨rfl, hp, hb, hk⟩
      rw [appW_none HP.out.ownG.1] at hp
      rw [appW_none HP.out.ownG.1]
      have HPL := Lib.hid (padW_length HP.out.ownG.2.1)
      have HPN := Lib.hid hp
      have HXN := Lib.hid (hk.blk HX.out (by simp))
      replace HB := Lib.hid (HB.out.trans (hb.mono HB1.out))
      clear hp hb hk kp HP HX
      have HP := HPN
      have HX := HXN
      clear HPN HXN
      obtain ⟨o2, ho2⟩ : ∃ o2, o2 = padW t own := ⟨_, rfl⟩
      rw [← ho2] at HP HPL
      have HOG := Lib.hid HP.out.ownG.1
      have HNL0 := Lib.hid (nmN_len 0)
      have HM256 := Lib.hid (show t.length ≤ 256 ∧ 1 ≤ t.length by have := HGD.out.room; have := HGD.out.most256; have := HGD.out.pos; omega)
      clear ho2
      go_wp2_with fail
      refine (name_any wa 0).mono ?_
      rintro e w4 ⟨rfl, hbc⟩
      replace HP := Lib.hid (HP.out.below hbc)
      replace HX := Lib.hid (HX.out.below hbc HX.out.lt)
      replace HB := Lib.hid (HB.out.trans (hbc.mono HB.out.size))
      clear hbc
      have HSZ := Lib.hid (show w.heap.size ≤ w4.heap.size from HB.out.size)
      have HXA := Lib.hid (show X ≠ w4.heap.size from fun e => by have := HX.out.lt; omega)
      have HZ := Lib.hid (blk_zeroR w4)
      have HZL := Lib.hid zero32_len
      have HA := Lib.hid (HZ.out.setRow (bv (nmN 0)))
      have hbx : Below w4.heap.size w4 ((w4.alloc (.cells #[.int .u8 0, .int .u8 0, .int .u8 0, .int .u8 0, .int .u8 0, .int .u8 0, .int .u8 0, .int .u8 0, .int .u8 0, .int .u8 0, .int .u8 0, .int .u8 0, .int .u8 0, .int .u8 0, .int .u8 0, .int .u8 0, .int .u8 0, .int .u8 0, .int .u8 0, .int .u8 0, .int .u8 0, .int .u8 0, .int .u8 0, .int .u8 0, .int .u8 0, .int .u8 0, .int .u8 0, .int .u8 0, .int .u8 0, .int .u8 0, .int .u8 0, .int .u8 0] 24)).setRow w4.heap.size (bv (nmN 0)).toArray) := below_row ((Below.refl _ w4).alloc (Nat.le_refl _) _) (Nat.le_refl _) _
      replace HP := Lib.hid (HP.out.more hbx (K' := [w4.heap.size]) (fun k hk => by simp at hk; omega) (fun k hk => by simp at hk; rw [hk]; exact HA.out.lt))
      replace HX := Lib.hid (HX.out.below hbx HX.out.lt)
      replace HB := Lib.hid (HB.out.trans (hbx.mono HB.out.size))
      clear hbx
      obtain ⟨A, hA⟩ : ∃ A, A = w4.heap.size := ⟨_, rfl⟩
      go_upto_region 13 with (first | ((with_reducible refine wpList_load_name (.tmp 29) ?_ ?_ w4.heap.size 0 (nmN 0) ?_ HNL0.out HNL0.out ?_); rfl; rfl; rfl) | ((with_reducible refine wpList_store_name (.tmp 6) (.tmp 29) ?_ ?_ w4.heap.size zero32 (nmN 0) ?_ ?_ HZ.out HZL.out HNL0.out ?_); rfl; rfl; rfl; rfl))
      try simp only [Act.put]
      rw [← hA] at HA HP HX HB HSZ HXA ⊢
      generalize (w4.alloc (.cells #[.int .u8 0, .int .u8 0, .int .u8 0, .int .u8 0, .int .u8 0, .int .u8 0, .int .u8 0, .int .u8 0, .int .u8 0, .int .u8 0, .int .u8 0, .int .u8 0, .int .u8 0, .int .u8 0, .int .u8 0, .int .u8 0, .int .u8 0, .int .u8 0, .int .u8 0, .int .u8 0, .int .u8 0, .int .u8 0, .int .u8 0, .int .u8 0, .int .u8 0, .int .u8 0, .int .u8 0, .int .u8 0, .int .u8 0, .int .u8 0, .int .u8 0, .int .u8 0] 24)).setRow A (bv (nmN 0)).toArray = w5 at HA HP HX HB HSZ HXA ⊢
      clear HZ HZL hA

      go_wp2_with fail
      go_loopw [7] (fun i wx => ∃ (k p : Nat) (n : Nd), t[p]? = some n ∧ k ≤ p ∧ i = .int .i64 k ∧ hdF t o2 p = hdW t o2 ∧ Hid (PSX B ([A] ++ [X]) wx tb wb mb rb t t o2 own) ∧ Hid (Blk wx X 37 (prv tb wb rb)) ∧ Hid (Blk wx A 24 (bv n.1)) ∧ Hid (Below w.heap.size w wx)) (fun i _ => 300 - (intOf i).toNat)
      case atStart => exact ⟨0, 0, _, HR0.out, Nat.le_refl _, rfl, rfl, HP, HX, HA, HB⟩
      case round =>
        clear HP HX HA HB hge hk
        obtain ⟨k, p, n, hn, hkp, rfl, hhd, HP, HX, HA, HB⟩ := hrel
        obtain ⟨wx, rfl⟩ : ∃ x, x = wr := ⟨_, rfl⟩
        have hlt := (List.getElem?_eq_some_iff.1 hn).1
        have hkm : (k : Int) < 300 := by have := HM256.out; omega
        have HNL := Lib.hid (show n.1.length = 32 from HGD.out.nds n (List.mem_of_getElem? hn))
        have HNK := Lib.hid hn
        have HKP := Lib.hid (show k ≤ p ∧ p < t.length from ⟨hkp, hlt⟩)
        have HHD := Lib.hid hhd
        have HLO := Lib.hid (show p < o2.length by rw [HPL.out]; exact hlt)
        have HWV := Lib.hid (tellZ_at HGD.out hn HLO.out 0 (wtW t o2))
        have HBV := Lib.hid (show bstZ t o2 n.1 = bsW t o2 p from tellZ_at HGD.out hn HLO.out (-1) (bsW t o2))
        have HKR := Lib.hid (HGD.out.kids_rts n.1)
        have HIF := Lib.hid (HGD.out.best_iff HPL.out hn)
        have HBL := Lib.hid (HGD.out.pnm_len (bsW t o2 p))
        have HWK := Lib.hid (show wrap64 ((k : Int) + 1) = ((k + 1 : Nat) : Int) by unfold wrap64; omega)
        clear hn hlt hkp hhd
        have kp1 := HX.out.cell 1
        simp only [prv, List.getElem?_cons_succ, List.getElem?_cons_zero] at kp1
        go_wp2_with ((with_reducible refine wpList_load_name (.tmp 6) ?_ ?_ A 0 n.1 ?_ HNL.out HA.out.rootAll ?_); rfl; rfl; rfl)
        refine (HP.out.best n.1 HNL.out).mono ?_
        rintro e w6 ⟨rfl, hbc⟩
        clear kp1 hkm

        replace HP := Lib.hid (HP.out.below hbc)
        replace HX := Lib.hid (HX.out.below hbc HX.out.lt)
        replace HA := Lib.hid (HA.out.below hbc HA.out.lt)
        replace HB := Lib.hid (HB.out.trans (hbc.mono HB.out.size))
        clear hbc
        rw [HBV.out]
        obtain ⟨bn, hbn⟩ : ∃ bn, pnm t (bsW t o2 p) = bn := ⟨_, rfl⟩
        obtain ⟨bo, hbo⟩ : ∃ bo, decide (0 ≤ bsW t o2 p) = bo := ⟨_, rfl⟩
        rw [hbn, hbo]
        rw [hbn] at HBL
        have HBN := Lib.hid hbn
        have HBO := Lib.hid hbo
        clear hbn hbo
        have HZ := Lib.hid (blk_zeroR w6)
        have HZL := Lib.hid zero32_len
        have HC := Lib.hid (HZ.out.setRow (bv bn))
        have hbx : Below w6.heap.size w6 ((w6.alloc (.cells #[.int .u8 0, .int .u8 0, .int .u8 0, .int .u8 0, .int .u8 0, .int .u8 0, .int .u8 0, .int .u8 0, .int .u8 0, .int .u8 0, .int .u8 0, .int .u8 0, .int .u8 0, .int .u8 0, .int .u8 0, .int .u8 0, .int .u8 0, .int .u8 0, .int .u8 0, .int .u8 0, .int .u8 0, .int .u8 0, .int .u8 0, .int .u8 0, .int .u8 0, .int .u8 0, .int .u8 0, .int .u8 0, .int .u8 0, .int .u8 0, .int .u8 0, .int .u8 0] 24)).setRow w6.heap.size (bv bn).toArray) := below_row ((Below.refl _ w6).alloc (Nat.le_refl _) _) (Nat.le_refl _) _
        replace HP := Lib.hid (HP.out.below hbx)
        replace HX := Lib.hid (HX.out.below hbx HX.out.lt)
        replace HA := Lib.hid (HA.out.below hbx HA.out.lt)
        replace HB := Lib.hid (HB.out.trans (hbx.mono HB.out.size))
        clear hbx
        obtain ⟨C, hC⟩ : ∃ C, C = w6.heap.size := ⟨_, rfl⟩
        go_upto_region 17 with (first | ((with_reducible refine wpList_load_name (.tmp 39) ?_ ?_ w6.heap.size 0 bn ?_ HBL.out HBL.out ?_); rfl; rfl; rfl) | ((with_reducible refine wpList_store_name (.tmp 8) (.tmp 39) ?_ ?_ w6.heap.size zero32 bn ?_ ?_ HZ.out HZL.out HBL.out ?_); rfl; rfl; rfl; rfl))
        try simp only [Act.put]
        rw [← hC] at HC HP HX HA HB ⊢
        generalize (w6.alloc (.cells #[.int .u8 0, .int .u8 0, .int .u8 0, .int .u8 0, .int .u8 0, .int .u8 0, .int .u8 0, .int .u8 0, .int .u8 0, .int .u8 0, .int .u8 0, .int .u8 0, .int .u8 0, .int .u8 0, .int .u8 0, .int .u8 0, .int .u8 0, .int .u8 0, .int .u8 0, .int .u8 0, .int .u8 0, .int .u8 0, .int .u8 0, .int .u8 0, .int .u8 0, .int .u8 0, .int .u8 0, .int .u8 0, .int .u8 0, .int .u8 0, .int .u8 0, .int .u8 0] 24)).setRow C (bv bn).toArray = w7 at HC HP HX HA HB ⊢
        clear HZ HZL hC

        cases bo with
        | false =>
          have hb1 : bsW t o2 p = -1 := by
            rcases HGD.out.bsW_place (Nat.le_of_eq HPL.out) p with ⟨hb, _⟩ | ⟨q, hb, _⟩
            · exact hb
            · have := HBO.out; rw [hb] at this; simp at this
          have HK0 := Lib.hid (show (kidsT t n.1).length = 0 by have h := HIF.out; rw [HBO.out] at h; have := of_decide_eq_false h.symm; omega)
          have HHN := Lib.hid (show pnm t (hdW t o2 : Int) = n.1 by rw [← HHD.out, HGD.out.hdF_end (by omega)]; exact pnm_at HNK.out)
          clear hb1
          go_wp2_with fail
          refine wp_region_free (P := Try.prog) 14 (fun w' => Below w7.heap.size w7 w') (fun oq v w' => match oq with
              | 0 => v = .agg (bv n.1).toArray
              | 1 => v = .pointer (some ⟨X, 1, none⟩)
              | 2 => v = .pointer (some ⟨wb, 0, none⟩)
              | 3 => v = .agg (bv n.1).toArray
              | 4 => v = .bool true
              | 5 => v = .bool true
              | 6 => v = .pointer (some ⟨X, 0, none⟩)
              | 7 => v = .pointer (some ⟨tb, 0, none⟩)
              | 8 => v = .agg (bv n.1).toArray
              | 9 => ∃ ao cap, v = .slice ao (kidsT t n.1).length cap
              | 10 => v = .int .i64 ((kidsT t n.1).length : Int)
              | 11 => v = .bool true
              | 12 => v = .bool true
              | 13 => v = .bool true
              | _ => True) (by kernel_rfl) (by kernel_rfl) (Below.refl _ _).drew ?gb ?vb ?steps ?fin
          case gb => exact fun a b h1 h2 => h1.trans (h2.mono h1.size)
          case vb =>
            intro oq v a b h hb
            match oq with
            | 0 => exact h
            | 1 => exact h
            | 2 => exact h
            | 3 => exact h
            | 4 => exact h
            | 5 => exact h
            | 6 => exact h
            | 7 => exact h
            | 8 => exact h
            | 9 => exact h
            | 10 => exact h
            | 11 => exact h
            | 12 => exact h
            | 13 => exact h
            | _ + 14 => trivial
          case steps =>
            intro vals
            simp only [List.take_succ_cons, List.take_zero, freeSteps, Act.put, List.setIfInBounds_toArray, List.set_cons_zero, List.set_cons_succ, Nat.reduceAdd]
            refine ⟨fun w8 hG hW => ?_, fun w8 hG hW => ?_, fun w8 hG hW => ?_, fun w8 hG hW => ?_, fun w8 hG hW => ?_, fun w8 hG hW => ?_, fun w8 hG hW => ?_, fun w8 hG hW => ?_, fun w8 hG hW => ?_, fun w8 hG hW => ?_, fun w8 hG hW => ?_, fun w8 hG hW => ?_, fun w8 hG hW => ?_, fun w8 hG hW => ?_, trivial⟩
            · clear hW
              exact stepAt_load_run rfl rfl rfl _ _ rfl _ _ rfl (run_load_root HNL.out (HA.out.below hG HA.out.lt).rootAll) ⟨rfl, Below.refl _ _⟩
            · clear hW
              refine stepAt_value rfl rfl rfl (.pointer (some ⟨X, 1, none⟩)) w8 ?_ ⟨rfl, Below.refl _ _⟩
              go_simp
            · have q1 := hW 1 (by decide)
              simp only at q1
              rw [q1]
              clear hW
              refine stepAt_value rfl rfl rfl (.pointer (some ⟨wb, 0, none⟩)) w8 ?_ ⟨rfl, Below.refl _ _⟩
              have hh := (HX.out.below hG HX.out.lt).cell 1
              simp only [prv, List.getElem?_cons_succ, List.getElem?_cons_zero] at hh
              go_simp
            · have q2 := hW 2 (by decide)
              simp only at q2
              rw [q2]
              clear hW
              refine stepAt_call rfl rfl rfl 15 #[.pointer (some ⟨wb, 0, none⟩)] (by go_simp) (((HP.out.below hG).head).mono fun e w' ⟨h1, h2⟩ => ⟨_, h1, by rw [HHN.out], h2⟩)
            · have q0 := hW 0 (by decide)
              simp only at q0
              have q3 := hW 3 (by decide)
              simp only at q3
              rw [q0, q3]
              clear hW
              refine stepAt_value rfl rfl rfl (.bool true) w8 ?_ ⟨rfl, Below.refl _ _⟩
              have he := root_eqW w8 n.1 n.1 HNL.out HNL.out
              rw [show (n.1 == n.1) = true from beq_self_eq_true _] at he
              go_simp
            · have q4 := hW 4 (by decide)
              simp only at q4
              rw [q4]
              clear hW
              refine stepAt_value rfl rfl rfl (.bool true) w8 ?_ ⟨rfl, Below.refl _ _⟩
              go_simp
            · have q5 := hW 5 (by decide)
              simp only at q5
              rw [q5]
              clear hW
              refine stepAt_value rfl rfl rfl (.pointer (some ⟨X, 0, none⟩)) w8 ?_ ⟨rfl, Below.refl _ _⟩
              go_simp
            · have q5 := hW 5 (by decide)
              simp only at q5
              have q6 := hW 6 (by decide)
              simp only at q6
              rw [q5, q6]
              clear hW
              refine stepAt_value rfl rfl rfl (.pointer (some ⟨tb, 0, none⟩)) w8 ?_ ⟨rfl, Below.refl _ _⟩
              have hh := (HX.out.below hG HX.out.lt).cell 0
              simp only [prv, List.getElem?_cons_zero] at hh
              go_simp
            · have q5 := hW 5 (by decide)
              simp only at q5
              rw [q5]
              clear hW
              exact stepAt_load_run rfl rfl rfl _ _ rfl _ _ rfl (run_load_root HNL.out (HA.out.below hG HA.out.lt).rootAll) ⟨rfl, Below.refl _ _⟩
            · have q5 := hW 5 (by decide)
              simp only at q5
              have q7 := hW 7 (by decide)
              simp only at q7
              have q8 := hW 8 (by decide)
              simp only at q8
              rw [q5, q7, q8]
              clear hW
              refine stepAt_call rfl rfl rfl 23 #[.pointer (some ⟨tb, 0, none⟩), .agg (bv n.1).toArray] (by go_simp) (((HP.out.below hG).kids n.1 HNL.out).mono fun e w' ⟨v, h1, h2, h3⟩ => ⟨_, h1, by obtain ⟨ao, cap, g, off, e2, _⟩ := wide_names h2 HKR.out; exact ⟨ao, cap, e2⟩, h3⟩)
            · have q5 := hW 5 (by decide)
              simp only at q5
              obtain ⟨ao9, cap9, e9⟩ := hW 9 (by decide)
              rw [q5, e9]
              clear hW
              refine stepAt_value rfl rfl rfl (.int .i64 ((kidsT t n.1).length : Int)) w8 ?_ ⟨rfl, Below.refl _ _⟩
              go_simp
            · have q5 := hW 5 (by decide)
              simp only at q5
              have q10 := hW 10 (by decide)
              simp only at q10
              rw [q5, q10]
              clear hW
              refine stepAt_value rfl rfl rfl (.bool true) w8 ?_ ⟨rfl, Below.refl _ _⟩
              have hq : (((kidsT t n.1).length : Int) == 0) = true := by rw [HK0.out]; rfl
              go_simp
            · have q5 := hW 5 (by decide)
              simp only at q5
              have q11 := hW 11 (by decide)
              simp only at q11
              rw [q5, q11]
              clear hW
              refine stepAt_value rfl rfl rfl (.bool true) w8 ?_ ⟨rfl, Below.refl _ _⟩
              go_simp
            · have q12 := hW 12 (by decide)
              simp only at q12
              rw [q12]
              clear hW
              refine stepAt_value rfl rfl rfl (.bool true) w8 ?_ ⟨rfl, Below.refl _ _⟩
              go_simp
          case fin =>
            intro vals w9 hG hV
            have q13 := hV 13 (by omega)
            simp only at q13
            simp only [List.take_succ_cons, List.take_zero, List.drop_succ_cons, List.drop_zero, putAll, Act.put, List.setIfInBounds_toArray, List.set_cons_zero, List.set_cons_succ, Nat.reduceAdd]
            rw [q13]
            clear hV q13
            generalize vals 0 = y0
            generalize vals 1 = y1
            generalize vals 2 = y2
            generalize vals 3 = y3
            generalize vals 4 = y4
            generalize vals 5 = y5
            generalize vals 6 = y6
            generalize vals 7 = y7
            generalize vals 8 = y8
            generalize vals 9 = y9
            generalize vals 10 = y10
            generalize vals 11 = y11
            generalize vals 12 = y12

            replace HB := Lib.hid (HB.out.trans (hG.mono HB.out.size))
            clear hG
            go_wp2_with fail
            go_ret
            exact ⟨rfl, HB.out⟩
        | true =>
          obtain ⟨q, hq, hpq, hql, hpar⟩ : ∃ q : Nat, bsW t o2 p = (q : Int) ∧ p < q ∧ q < o2.length ∧ parW t q = (p : Int) := by
            rcases HGD.out.bsW_place (Nat.le_of_eq HPL.out) p with ⟨hb, _⟩ | h
            · have := HBO.out; rw [hb] at this; simp at this
            · exact h
          obtain ⟨x, hx⟩ : ∃ x, t[q]? = some x := ⟨_, List.getElem?_eq_getElem (by rw [← HPL.out]; exact hql)⟩
          have hbx : bn = x.1 := by rw [← HBN.out, hq]; exact pnm_at hx
          have hcv := tellZ_at HGD.out hx hql 0 (wtW t o2)
          rw [← hbx] at hcv
          have HCV := Lib.hid hcv
          have HBE := Lib.hid (show belowT t n.1 bn = true by
            rw [hbx, HGD.out.below_ab HNK.out hx, HGD.out.abW_eq, hpar, if_pos (by omega), Int.toNat_natCast, HGD.out.abW_self, Bool.or_true])
          have HGT := Lib.hid (show decide (wtW t o2 p < wtW t o2 q) = false from decide_eq_false (by have := HGD.out.wtW_kid HOG.out hpar; omega))
          have HQ := Lib.hid (show (((kidsT t n.1).length : Int) == 0) = false by have h := HIF.out; rw [HBO.out] at h; have h1 := of_decide_eq_true h.symm; rw [beq_eq_false_iff_ne]; omega)
          have HNX := Lib.hid (show t[q]? = some x ∧ bn = x.1 ∧ k + 1 ≤ q ∧ hdF t o2 q = hdW t o2 from ⟨hx, hbx, by have := HKP.out; omega, by rw [← HGD.out.hdF_next (Nat.le_of_eq HPL.out) hq]; exact HHD.out⟩)
          clear hq hpq hql hpar hx hbx hcv
          go_wp2_with fail
          refine wp_region_free (P := Try.prog) 25 (fun w' => Below w7.heap.size w7 w') (fun oq v w' => match oq with
              | 0 => v = .pointer (some ⟨X, 0, none⟩)
              | 1 => v = .pointer (some ⟨tb, 0, none⟩)
              | 2 => v = .agg (bv n.1).toArray
              | 3 => ∃ ao cap, v = .slice ao (kidsT t n.1).length cap
              | 4 => v = .int .i64 ((kidsT t n.1).length : Int)
              | 5 => v = .bool false
              | 6 => v = .bool false
              | 7 => v = .pointer (some ⟨X, 0, none⟩)
              | 8 => v = .pointer (some ⟨tb, 0, none⟩)
              | 9 => v = .agg (bv n.1).toArray
              | 10 => v = .agg (bv bn).toArray
              | 11 => v = .bool true
              | 12 => v = .bool false
              | 13 => v = .bool false
              | 14 => v = .bool false
              | 15 => v = .pointer (some ⟨X, 1, none⟩)
              | 16 => v = .pointer (some ⟨wb, 0, none⟩)
              | 17 => v = .agg (bv bn).toArray
              | 18 => v = .int .i64 (wtW t o2 q)
              | 19 => v = .pointer (some ⟨X, 1, none⟩)
              | 20 => v = .pointer (some ⟨wb, 0, none⟩)
              | 21 => v = .agg (bv n.1).toArray
              | 22 => v = .int .i64 (wtW t o2 p)
              | 23 => v = .bool false
              | 24 => v = .bool false
              | _ => True) (by kernel_rfl) (by kernel_rfl) (Below.refl _ _).drew ?gb ?vb ?steps ?fin
          case gb => exact fun a b h1 h2 => h1.trans (h2.mono h1.size)
          case vb =>
            intro oq v a b h hb
            match oq with
            | 0 => exact h
            | 1 => exact h
            | 2 => exact h
            | 3 => exact h
            | 4 => exact h
            | 5 => exact h
            | 6 => exact h
            | 7 => exact h
            | 8 => exact h
            | 9 => exact h
            | 10 => exact h
            | 11 => exact h
            | 12 => exact h
            | 13 => exact h
            | 14 => exact h
            | 15 => exact h
            | 16 => exact h
            | 17 => exact h
            | 18 => exact h
            | 19 => exact h
            | 20 => exact h
            | 21 => exact h
            | 22 => exact h
            | 23 => exact h
            | 24 => exact h
            | _ + 25 => trivial
          case steps =>
            intro vals
            simp only [List.take_succ_cons, List.take_zero, freeSteps, Act.put, List.setIfInBounds_toArray, List.set_cons_zero, List.set_cons_succ, Nat.reduceAdd]
            refine ⟨fun w8 hG hW => ?_, fun w8 hG hW => ?_, fun w8 hG hW => ?_, fun w8 hG hW => ?_, fun w8 hG hW => ?_, fun w8 hG hW => ?_, fun w8 hG hW => ?_, fun w8 hG hW => ?_, fun w8 hG hW => ?_, fun w8 hG hW => ?_, fun w8 hG hW => ?_, fun w8 hG hW => ?_, fun w8 hG hW => ?_, fun w8 hG hW => ?_, fun w8 hG hW => ?_, fun w8 hG hW => ?_, fun w8 hG hW => ?_, fun w8 hG hW => ?_, fun w8 hG hW => ?_, fun w8 hG hW => ?_, fun w8 hG hW => ?_, fun w8 hG hW => ?_, fun w8 hG hW => ?_, fun w8 hG hW => ?_, fun w8 hG hW => ?_, trivial⟩
            · clear hW
              refine stepAt_value rfl rfl rfl (.pointer (some ⟨X, 0, none⟩)) w8 ?_ ⟨rfl, Below.refl _ _⟩
              go_simp
            · have q0 := hW 0 (by decide)
              simp only at q0
              rw [q0]
              clear hW
              refine stepAt_value rfl rfl rfl (.pointer (some ⟨tb, 0, none⟩)) w8 ?_ ⟨rfl, Below.refl _ _⟩
              have hh := (HX.out.below hG HX.out.lt).cell 0
              simp only [prv, List.getElem?_cons_zero] at hh
              go_simp
            · clear hW
              exact stepAt_load_run rfl rfl rfl _ _ rfl _ _ rfl (run_load_root HNL.out (HA.out.below hG HA.out.lt).rootAll) ⟨rfl, Below.refl _ _⟩
            · have q1 := hW 1 (by decide)
              simp only at q1
              have q2 := hW 2 (by decide)
              simp only at q2
              rw [q1, q2]
              clear hW
              refine stepAt_call rfl rfl rfl 23 #[.pointer (some ⟨tb, 0, none⟩), .agg (bv n.1).toArray] (by go_simp) (((HP.out.below hG).kids n.1 HNL.out).mono fun e w' ⟨v, h1, h2, h3⟩ => ⟨_, h1, by obtain ⟨ao, cap, g, off, e2, _⟩ := wide_names h2 HKR.out; exact ⟨ao, cap, e2⟩, h3⟩)
            · obtain ⟨ao9, cap9, e9⟩ := hW 3 (by decide)
              rw [e9]
              clear hW
              refine stepAt_value rfl rfl rfl (.int .i64 ((kidsT t n.1).length : Int)) w8 ?_ ⟨rfl, Below.refl _ _⟩
              go_simp
            · have q4 := hW 4 (by decide)
              simp only at q4
              rw [q4]
              clear hW
              refine stepAt_value rfl rfl rfl (.bool false) w8 ?_ ⟨rfl, Below.refl _ _⟩
              have hq := HQ.out
              go_simp
            · have q5 := hW 5 (by decide)
              simp only at q5
              rw [q5]
              clear hW
              refine stepAt_value rfl rfl rfl (.bool false) w8 ?_ ⟨rfl, Below.refl _ _⟩
              go_simp
            · have q6 := hW 6 (by decide)
              simp only at q6
              rw [q6]
              clear hW
              refine stepAt_value rfl rfl rfl (.pointer (some ⟨X, 0, none⟩)) w8 ?_ ⟨rfl, Below.refl _ _⟩
              go_simp
            · have q6 := hW 6 (by decide)
              simp only at q6
              have q7 := hW 7 (by decide)
              simp only at q7
              rw [q6, q7]
              clear hW
              refine stepAt_value rfl rfl rfl (.pointer (some ⟨tb, 0, none⟩)) w8 ?_ ⟨rfl, Below.refl _ _⟩
              have hh := (HX.out.below hG HX.out.lt).cell 0
              simp only [prv, List.getElem?_cons_zero] at hh
              go_simp
            · have q6 := hW 6 (by decide)
              simp only at q6
              rw [q6]
              clear hW
              exact stepAt_load_run rfl rfl rfl _ _ rfl _ _ rfl (run_load_root HNL.out (HA.out.below hG HA.out.lt).rootAll) ⟨rfl, Below.refl _ _⟩
            · have q6 := hW 6 (by decide)
              simp only at q6
              rw [q6]
              clear hW
              exact stepAt_load_run rfl rfl rfl _ _ rfl _ _ rfl (run_load_root HBL.out (HC.out.below hG HC.out.lt).rootAll) ⟨rfl, Below.refl _ _⟩
            · have q6 := hW 6 (by decide)
              simp only at q6
              have q8 := hW 8 (by decide)
              simp only at q8
              have q9 := hW 9 (by decide)
              simp only at q9
              have q10 := hW 10 (by decide)
              simp only at q10
              rw [q6, q8, q9, q10]
              clear hW
              refine stepAt_call rfl rfl rfl 25 #[.pointer (some ⟨tb, 0, none⟩), .agg (bv n.1).toArray, .agg (bv bn).toArray] (by go_simp) (((HP.out.below hG).isbelow n.1 bn HNL.out HBL.out).mono fun e w' ⟨h1, h2⟩ => ⟨_, h1, by rw [HBE.out], h2⟩)
            · have q6 := hW 6 (by decide)
              simp only at q6
              have q11 := hW 11 (by decide)
              simp only at q11
              rw [q6, q11]
              clear hW
              refine stepAt_value rfl rfl rfl (.bool false) w8 ?_ ⟨rfl, Below.refl _ _⟩
              go_simp
            · have q6 := hW 6 (by decide)
              simp only at q6
              have q12 := hW 12 (by decide)
              simp only at q12
              rw [q6, q12]
              clear hW
              refine stepAt_value rfl rfl rfl (.bool false) w8 ?_ ⟨rfl, Below.refl _ _⟩
              go_simp
            · have q13 := hW 13 (by decide)
              simp only at q13
              rw [q13]
              clear hW
              refine stepAt_value rfl rfl rfl (.bool false) w8 ?_ ⟨rfl, Below.refl _ _⟩
              go_simp
            · have q14 := hW 14 (by decide)
              simp only at q14
              rw [q14]
              clear hW
              refine stepAt_value rfl rfl rfl (.pointer (some ⟨X, 1, none⟩)) w8 ?_ ⟨rfl, Below.refl _ _⟩
              go_simp
            · have q14 := hW 14 (by decide)
              simp only at q14
              have q15 := hW 15 (by decide)
              simp only at q15
              rw [q14, q15]
              clear hW
              refine stepAt_value rfl rfl rfl (.pointer (some ⟨wb, 0, none⟩)) w8 ?_ ⟨rfl, Below.refl _ _⟩
              have hh := (HX.out.below hG HX.out.lt).cell 1
              simp only [prv, List.getElem?_cons_succ, List.getElem?_cons_zero] at hh
              go_simp
            · have q14 := hW 14 (by decide)
              simp only at q14
              rw [q14]
              clear hW
              exact stepAt_load_run rfl rfl rfl _ _ rfl _ _ rfl (run_load_root HBL.out (HC.out.below hG HC.out.lt).rootAll) ⟨rfl, Below.refl _ _⟩
            · have q14 := hW 14 (by decide)
              simp only at q14
              have q16 := hW 16 (by decide)
              simp only at q16
              have q17 := hW 17 (by decide)
              simp only at q17
              rw [q14, q16, q17]
              clear hW
              refine stepAt_call rfl rfl rfl 14 #[.pointer (some ⟨wb, 0, none⟩), .agg (bv bn).toArray] (by go_simp) (((HP.out.below hG).weight bn HBL.out).mono fun e w' ⟨h1, h2⟩ => ⟨_, h1, by rw [HCV.out], h2⟩)
            · have q14 := hW 14 (by decide)
              simp only at q14
              rw [q14]
              clear hW
              refine stepAt_value rfl rfl rfl (.pointer (some ⟨X, 1, none⟩)) w8 ?_ ⟨rfl, Below.refl _ _⟩
              go_simp
            · have q14 := hW 14 (by decide)
              simp only at q14
              have q19 := hW 19 (by decide)
              simp only at q19
              rw [q14, q19]
              clear hW
              refine stepAt_value rfl rfl rfl (.pointer (some ⟨wb, 0, none⟩)) w8 ?_ ⟨rfl, Below.refl _ _⟩
              have hh := (HX.out.below hG HX.out.lt).cell 1
              simp only [prv, List.getElem?_cons_succ, List.getElem?_cons_zero] at hh
              go_simp
            · have q14 := hW 14 (by decide)
              simp only at q14
              rw [q14]
              clear hW
              exact stepAt_load_run rfl rfl rfl _ _ rfl _ _ rfl (run_load_root HNL.out (HA.out.below hG HA.out.lt).rootAll) ⟨rfl, Below.refl _ _⟩
            · have q14 := hW 14 (by decide)
              simp only at q14
              have q20 := hW 20 (by decide)
              simp only at q20
              have q21 := hW 21 (by decide)
              simp only at q21
              rw [q14, q20, q21]
              clear hW
              refine stepAt_call rfl rfl rfl 14 #[.pointer (some ⟨wb, 0, none⟩), .agg (bv n.1).toArray] (by go_simp) (((HP.out.below hG).weight n.1 HNL.out).mono fun e w' ⟨h1, h2⟩ => ⟨_, h1, by rw [HWV.out], h2⟩)
            · have q14 := hW 14 (by decide)
              simp only at q14
              have q18 := hW 18 (by decide)
              simp only at q18
              have q22 := hW 22 (by decide)
              simp only at q22
              rw [q14, q18, q22]
              clear hW
              refine stepAt_value rfl rfl rfl (.bool false) w8 ?_ ⟨rfl, Below.refl _ _⟩
              have hd := HGT.out
              go_simp
            · have q14 := hW 14 (by decide)
              simp only at q14
              have q23 := hW 23 (by decide)
              simp only at q23
              rw [q14, q23]
              clear hW
              refine stepAt_value rfl rfl rfl (.bool false) w8 ?_ ⟨rfl, Below.refl _ _⟩
              go_simp
          case fin =>
            intro vals w9 hG hV
            have q24 := hV 24 (by omega)
            simp only at q24
            simp only [List.take_succ_cons, List.take_zero, List.drop_succ_cons, List.drop_zero, putAll, Act.put, List.setIfInBounds_toArray, List.set_cons_zero, List.set_cons_succ, Nat.reduceAdd]
            rw [q24]
            clear hV q24
            generalize vals 0 = y0
            generalize vals 1 = y1
            generalize vals 2 = y2
            generalize vals 3 = y3
            generalize vals 4 = y4
            generalize vals 5 = y5
            generalize vals 6 = y6
            generalize vals 7 = y7
            generalize vals 8 = y8
            generalize vals 9 = y9
            generalize vals 10 = y10
            generalize vals 11 = y11
            generalize vals 12 = y12
            generalize vals 13 = y13
            generalize vals 14 = y14
            generalize vals 15 = y15
            generalize vals 16 = y16
            generalize vals 17 = y17
            generalize vals 18 = y18
            generalize vals 19 = y19
            generalize vals 20 = y20
            generalize vals 21 = y21
            generalize vals 22 = y22
            generalize vals 23 = y23

            replace HP := Lib.hid (HP.out.below hG)
            replace HX := Lib.hid (HX.out.below hG HX.out.lt)
            replace HA := Lib.hid (HA.out.below hG HA.out.lt)
            replace HB := Lib.hid (HB.out.trans (hG.mono HB.out.size))
            replace HC := Lib.hid (HC.out.below hG HC.out.lt)
            clear hG HCV HBE HGT HQ
            have HA2 := Lib.hid (HA.out.setRow (bv bn))
            have HX2 := Lib.hid (HX.out.setRow_other (bv bn).toArray HXA.out)
            have HP2 := Lib.hid (HP.out.row (k := A) (by simp) (bv bn).toArray)
            have HB2 := Lib.hid (below_row HB.out HSZ.out (bv bn).toArray)
            go_wp2_with (first
              | ((with_reducible refine wpList_load_name (.tmp 8) ?_ ?_ C 0 bn ?_ HBL.out HC.out.rootAll ?_); rfl; rfl; rfl)
              | ((with_reducible refine wpList_store_name (.tmp 6) (.tmp 81) ?_ ?_ A n.1 bn ?_ ?_ HA.out HNL.out HBL.out ?_); rfl; rfl; rfl; rfl))
            obtain ⟨hx, hbx, hkq, hhq⟩ := HNX.out
            rw [hbx] at HA2 HX2 HP2 HB2 ⊢
            have hkp := HKP.out
            have hm := HM256.out
            go_roundw
            case rel => exact ⟨k + 1, q, x, hx, hkq, by first | rw [HWK.out] | rw [Int.natCast_succ], hhq, HP2, HX2, HA2, HB2⟩
            case measure => exact measK 300 k 1 _ (by first | exact HWK.out | rw [Int.natCast_succ]) (by omega) (by omega)
end Go.Proofs.Ytpamifdcbnkcdaa
