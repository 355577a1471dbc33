/-
  The texts Acts11, Ask11, SumsWalk11, one behind the other.
-/
import Derived.Test.YtpamifdcbnkcdaaCDo11
import Derived.Test.YtpamifdcbnkcdaaCAlive11
import Derived.Test.YtpamifdcbnkcdaaSumsM1
import Derived.Test.YtpamifdcbnkcdaaSumsM2
import Derived.Test.YtpamifdcbnkcdaaSumsM12
/-
  Rows of acts as cells.
-/
namespace Go.Proofs.Ytpamifdcbnkcdaa
open Go Go.RowKit
set_option maxRecDepth 10000

def acvs (l : List Ac) : List Value := l.flatMap acv
theorem acvs_length : ∀ (l : List Ac), (acvs l).length = l.length * 6
  | [] => rfl
  | a :: l => by
    have h := acvs_length l
    rw [acvs, List.flatMap_cons, List.length_append, ← acvs, h, List.length_cons]
    simp [acv]; omega
theorem acvs_at : ∀ (l : List Ac) (i j : Nat) (a : Ac), l[i]? = some a → j < 6 → (acvs l)[i * 6 + j]? = (acv a)[j]?
  | [], i, j, a, h, _ => by simp at h
  | y :: l, 0, j, a, h, hj => by
    simp at h
    subst h
    rw [acvs, List.flatMap_cons, Nat.zero_mul, Nat.zero_add, List.getElem?_append_left (by simp [acv]; exact hj)]
  | y :: l, i + 1, j, a, h, hj => by
    have hy : (acv y).length = 6 := rfl
    rw [acvs, List.flatMap_cons, List.getElem?_append_right (by rw [hy]; omega), hy, show (i + 1) * 6 + j - 6 = i * 6 + j by omega, ← acvs]
    exact acvs_at l i j a (by simpa using h) hj
theorem Lies.act {w : World} {B b off : Nat} {ao : Option Addr} {l : List Ac} (h : Lies w B ao b off (acvs l)) {i : Nat} {a : Ac} (hi : l[i]? = some a) : ao = some ⟨b, off, none⟩ ∧ ∀ j v, (acv a)[j]? = some v → w.cell? ⟨b, off + i * 6 + j, none⟩ = some v := by
  have hl := (List.getElem?_eq_some_iff.1 hi).1
  refine ⟨h.addr (by rw [acvs_length]; omega), fun j v hj => ?_⟩
  have hj6 : j < 6 := by have := (List.getElem?_eq_some_iff.1 hj).1; simpa [acv] using this
  rw [Nat.add_assoc]
  exact h.cells _ v ((acvs_at l i j a hi hj6).trans hj)
theorem Try.sizeAct : (Try.prog.info? 40).map (·.size) = some 6 := by kernel_rfl
theorem Try.aggAct (w : World) : (isAgg 40).run Try.prog w = .ok true w := by
  unfold isAgg
  rw [Sem.run_bind, run_underlying Try.underlying40 w]
  rfl
theorem acv_one (a : Ac) : ∀ v ∈ acv a, v.oneCell' = true := fun v hv => by
  simp only [acv, List.mem_cons, List.not_mem_nil, or_false] at hv
  rcases hv with rfl | rfl | rfl | rfl | rfl | rfl <;> rfl
theorem prv_one (a b c : Nat) : ∀ v ∈ prv a b c, v.oneCell' = true := fun v hv => by
  simp only [prv, List.mem_cons, List.not_mem_nil, or_false] at hv
  rcases hv with rfl | rfl | rfl <;> rfl
section
variable {ops : Array Oper} {rest : List Oper} {o : Oper} {a : Act} {w : World} {Q : Exit → Act → World → Prop}
theorem wpList_load_act (y : Operand) (ho : o.op = .load 40 y) (hgd : o.guard = none) (g off : Nat) (x : Ac) (hx : a.eval y = .pointer (some ⟨g, off, none⟩)) (hc : ∀ j v, (acv x)[j]? = some v → w.cell? ⟨g, off + j, none⟩ = some v)
    (h : wpList Try.prog ops Q rest (a.put o.dst (.agg (acv x).toArray)) w) : wpList Try.prog ops Q (o :: rest) a w :=
  wpList_load_agg hgd 40 y ho g off (acv x) hx hc Try.aggAct Try.sizeAct h
theorem wpList_store_act (x y : Operand) (ho : o.op = .store 40 x y) (hgd : o.guard = none) (g : Nat) (n n' : Ac) (hx : a.eval x = .pointer (some ⟨g, 0, none⟩)) (hy : a.eval y = .agg (acv n').toArray) (hg : Blk w g 40 (acv n))
    (h : wpList Try.prog ops Q rest (a.put o.dst undef) (w.setRow g (acv n').toArray)) : wpList Try.prog ops Q (o :: rest) a w := by
  refine wpList_store_part hgd 40 x y ho g 0 (acv n') hx hy 40 (acv n) hg Try.sizeAct (Nat.le_refl _) (acv_one _) ?_
  rw [show splice (acv n) 0 (acv n') = acv n' from splice_all _ _ rfl]
  exact h
theorem wpList_load_pair (y : Operand) (ho : o.op = .load 37 y) (hgd : o.guard = none) (g tb wb rb : Nat) (hx : a.eval y = .pointer (some ⟨g, 0, none⟩)) (hg : Blk w g 37 (prv tb wb rb))
    (h : wpList Try.prog ops Q rest (a.put o.dst (.agg (prv tb wb rb).toArray)) w) : wpList Try.prog ops Q (o :: rest) a w :=
  wpList_load_agg hgd 37 y ho g 0 (prv tb wb rb) hx (fun j v hj => by rw [Nat.zero_add, hg.cell]; exact hj) Try.aggPair Try.sizePair h
theorem wpList_store_pair (x y : Operand) (ho : o.op = .store 37 x y) (hgd : o.guard = none) (g tb wb rb : Nat) (hx : a.eval x = .pointer (some ⟨g, 0, none⟩)) (hy : a.eval y = .agg (prv tb wb rb).toArray) (hg : Blk w g 37 [.pointer none, .pointer none, .pointer none])
    (h : wpList Try.prog ops Q rest (a.put o.dst undef) (w.setRow g (prv tb wb rb).toArray)) : wpList Try.prog ops Q (o :: rest) a w := by
  refine wpList_store_part hgd 37 x y ho g 0 (prv tb wb rb) hx hy 37 _ hg Try.sizePair (Nat.le_refl _) (prv_one _ _ _) ?_
  rw [show splice [.pointer none, .pointer none, .pointer none] 0 (prv tb wb rb) = prv tb wb rb from splice_all _ _ rfl]
  exact h
end
def ac0 : Ac := ⟨0, 0, 0, 0, 0, 0⟩

/-- What a row of acts makes of a tree and own weights. -/
def doAll (x : List Nd × List Int) (l : List Ac) : List Nd × List Int := l.foldl doP x
theorem doAll_next {x : List Nd × List Int} {l : List Ac} {k : Nat} {a : Ac} (h : l[k]? = some a) : doAll x (l.take (k + 1)) = doP (doAll x (l.take k)) a := by
  unfold doAll
  rw [List.take_add_one, h, List.foldl_append]
  rfl
end Go.Proofs.Ytpamifdcbnkcdaa

/-
  What a pair is asked: reading calls; the tree's names, in their rows.
-/
namespace Go.Proofs.Ytpamifdcbnkcdaa
open Go Go.RowKit
set_option maxRecDepth 10000

theorem doP_prefix (x : List Nd × List Int) (a : Ac) : x.1 <+: (doP x a).1 := by
  unfold doP
  split
  · exact addT_prefix 256 x.1 _ _ _
  · exact List.prefix_refl _
theorem doAll_prefix : ∀ (l : List Ac) (x : List Nd × List Int), x.1 <+: (doAll x l).1
  | [], _ => List.prefix_refl _
  | a :: l, x => (doP_prefix x a).trans (doAll_prefix l (doP x a))
theorem doAll_root (l : List Ac) : (doAll (root11, [0]) l).1[0]? = some (nmN 0, 0, -1) := by
  obtain ⟨s, hs⟩ := doAll_prefix l (root11, [0])
  rw [← hs]
  rfl
theorem tellZ_at {t : List Nd} {most : Int} (G : Good t most) {k N : Nat} {n : Nd} (h : t[k]? = some n) (hN : k < N) (dn : Int) (z : Nat → Int) : tellZ t N n.1 dn z = z k := by
  unfold tellZ
  rw [G.plc_at h, if_pos (by omega), Int.toNat_natCast]
theorem Good.kids_in {t : List Nd} {most : Int} (G : Good t most) {k : Nat} {n : Nd} (h : t[k]? = some n) {c : List UInt8} (hc : c ∈ kidsT t n.1) : ∃ (i : Nat) (x : Nd), t[i]? = some x ∧ x.1 = c ∧ parW t i = (k : Int) := by
  unfold kidsT at hc
  rw [G.plc_at h, if_pos (by omega), rs] at hc
  obtain ⟨x, hx, rfl⟩ := List.mem_map.1 hc
  obtain ⟨hx, hp⟩ := List.mem_filter.1 hx
  obtain ⟨i, hi, he⟩ := List.getElem_of_mem hx
  have hi' : t[i]? = some x := by rw [List.getElem?_eq_getElem hi, he]
  exact ⟨i, x, hi', rfl, by rw [parW_at hi']; simpa using hp⟩

theorem kids_le (t : List Nd) (r : List UInt8) : (kidsT t r).length ≤ t.length := by
  unfold kidsT
  split
  · rw [rs_length]
    exact List.length_filter_le _ _
  · exact Nat.zero_le _

section
variable {B : Nat} {K : List Nat} {w : World} {tb wb mb rb : Nat} {tx ty : List Nd} {ox oy : List Int}
theorem PSX.own (h : PSX B K w tb wb mb rb tx ty ox oy) (r : List UInt8) (hr : r.length = 32) :
    Calls Try.prog 13 #[.pointer (some ⟨wb, 0, none⟩), .agg (bv r).toArray] w fun e w' => e = .returned (.int .i64 (tellZ tx ox.length r 0 (owZ ox))) ∧ Below w.heap.size w w' := by
  obtain ⟨⟨G, F, M, R, h⟩, _, _⟩ := h
  exact own_any w G tb tx 256 F wb ox r h.tre h.wgt hr
theorem PSX.weight (h : PSX B K w tb wb mb rb tx ty ox oy) (r : List UInt8) (hr : r.length = 32) :
    Calls Try.prog 14 #[.pointer (some ⟨wb, 0, none⟩), .agg (bv r).toArray] w fun e w' => e = .returned (.int .i64 (tellZ tx ox.length r 0 (wtW tx ox))) ∧ Below w.heap.size w w' := by
  obtain ⟨⟨G, F, M, R, h⟩, _, _⟩ := h
  exact wt_any w G tb tx 256 F wb ox r h.tre h.wgt hr
theorem PSX.best (h : PSX B K w tb wb mb rb tx ty ox oy) (r : List UInt8) (hr : r.length = 32) :
    Calls Try.prog 10 #[.pointer (some ⟨wb, 0, none⟩), .agg (bv r).toArray] w fun e w' => e = .returned (.tuple #[.agg (bv (pnm tx (bstZ tx ox r))).toArray, .bool (decide (0 ≤ bstZ tx ox r))]) ∧ Below w.heap.size w w' := by
  obtain ⟨⟨G, F, M, R, h⟩, _, _⟩ := h
  exact best_any w G tb tx 256 F wb ox r h.tre h.wgt hr
theorem PSX.head (h : PSX B K w tb wb mb rb tx ty ox oy) :
    Calls Try.prog 15 #[.pointer (some ⟨wb, 0, none⟩)] w fun e w' => e = .returned (.agg (bv (pnm tx (hdW tx ox : Int))).toArray) ∧ Below w.heap.size w w' := by
  obtain ⟨⟨G, F, M, R, h⟩, _, _⟩ := h
  exact head_any w G tb tx 256 F wb ox h.tre h.wgt
theorem PSX.roots (h : PSX B K w tb wb mb rb tx ty ox oy) :
    Calls Try.prog 22 #[.pointer (some ⟨tb, 0, none⟩)] w fun e w' => ∃ v, e = .returned v ∧ Wide 32 w' w.heap.size v (rv (rs tx)) ∧ Below w.heap.size w w' := by
  obtain ⟨⟨G, F, M, R, h⟩, _, _⟩ := h
  exact roots_any w G tb tx 256 h.tre
theorem PSX.kids (h : PSX B K w tb wb mb rb tx ty ox oy) (r : List UInt8) (hr : r.length = 32) :
    Calls Try.prog 23 #[.pointer (some ⟨tb, 0, none⟩), .agg (bv r).toArray] w fun e w' => ∃ v, e = .returned v ∧ Wide 32 w' w.heap.size v (rv (kidsT tx r)) ∧ Below w.heap.size w w' := by
  obtain ⟨⟨G, F, M, R, h⟩, _, _⟩ := h
  exact kids_any w G tb tx 256 r h.tre hr
theorem PSX.isbelow (h : PSX B K w tb wb mb rb tx ty ox oy) (x y : List UInt8) (hx : x.length = 32) (hy : y.length = 32) :
    Calls Try.prog 25 #[.pointer (some ⟨tb, 0, none⟩), .agg (bv x).toArray, .agg (bv y).toArray] w fun e w' => e = .returned (.bool (belowT tx x y)) ∧ Below w.heap.size w w' := by
  obtain ⟨⟨G, F, M, R, h⟩, _, _⟩ := h
  exact below_any w G tb tx 256 x y h.tre hx hy
end
end Go.Proofs.Ytpamifdcbnkcdaa

/-
  The walk of WeighSums.
-/
namespace Go.Proofs.Ytpamifdcbnkcdaa
open Go Go.RowKit
set_option maxRecDepth 10000

set_option maxHeartbeats 16000000 in
theorem sums_any (w : World) (ao : Option Addr) (len cap g off : Nat) (l : List Ac) (hl : l.length = len) (h : Lies w w.heap.size ao g off (acvs l)) :
    Calls Try.prog 4 #[.slice ao len cap] w fun e w' => e = .returned (.bool true) ∧ Below w.heap.size w w' := by
  have HL0 := Lib.hid h
  have HN := Lib.hid hl
  clear h hl
  go_enter Try.func4, Try.ntmps4
  go_wp2_with fail
  refine (alive_any w).mono ?_
  rintro e w1 ⟨rfl, hbc⟩
  have HB := Lib.hid hbc
  clear hbc
  by_cases h1 : (60 : Int) < (len : Int)
  · go_wp2_with fail
    go_ret
    exact ⟨rfl, HB.out⟩
  have HLIM := Lib.hid (show len ≤ 60 by omega)
  go_wp2_with fail
  refine (begun_any w1).mono ?_
  rintro e w2 ⟨tb, wb, mb, rb, rfl, hp, hbc⟩
  have HB1 := Lib.hid HB.out.size
  obtain ⟨B, hBB⟩ : ∃ B, B = w1.heap.size := ⟨_, rfl⟩
  rw [← hBB] at hp HB1
  have HP0 := Lib.hid hp
  replace HB := Lib.hid (HB.out.trans (hbc.mono HB.out.size))
  clear hbc hp hBB
  have HX0 := Lib.hid (show Blk (w2.alloc (.cells #[.pointer none, .pointer none, .pointer none] 37)) w2.heap.size 37 [.pointer none, .pointer none, .pointer none] from Blk.new w2 37 #[.pointer none, .pointer none, .pointer none])
  have hbx : Below w2.heap.size w2 ((w2.alloc (.cells #[.pointer none, .pointer none, .pointer none] 37)).setRow w2.heap.size (prv tb wb rb).toArray) := below_row ((Below.refl _ w2).alloc (Nat.le_refl _) _) (Nat.le_refl _) _
  have HX := Lib.hid (HX0.out.setRow (prv tb wb rb))
  obtain ⟨X, hX⟩ : ∃ X, X = w2.heap.size := ⟨_, rfl⟩
  have HP := Lib.hid (HP0.out.more hbx (K' := [X]) (fun k hk => by simp at hk; omega) (fun k hk => by simp at hk; rw [hk, hX]; exact HX.out.lt))
  replace HB := Lib.hid (HB.out.trans (hbx.mono HB.out.size))
  clear hbx HP0
  go_upto_region 6 with ((with_reducible refine wpList_store_pair (.tmp 3) (.tmp 16) ?_ ?_ w2.heap.size tb wb rb ?_ ?_ HX0.out ?_); rfl; rfl; rfl; rfl)
  try simp only [Act.put]
  rw [← hX] at HX HB ⊢
  rw [← hX] at HP
  generalize (w2.alloc (.cells #[.pointer none, .pointer none, .pointer none] 37)).setRow X (prv tb wb rb).toArray = w3 at HX HP HB ⊢
  clear hX HX0
  rw [List.append_nil] at HP
  go_wp2_with fail
  go_loopw [19] (fun i wr => ∃ k : Nat, k ≤ len ∧ i = .int .i64 k ∧ Hid (PSX B [X] wr tb wb mb rb (doAll (root11, [0]) (l.take k)).1 (doAll (root11, [0]) (l.take k)).1 (doAll (root11, [0]) (l.take k)).2 (doAll (root11, [0]) (l.take k)).2) ∧ Hid (Blk wr X 37 (prv tb wb rb)) ∧ Hid (Below w.heap.size w wr)) (fun i _ => len - (intOf i).toNat)
  case atStart => exact ⟨0, Nat.zero_le _, rfl, HP, HX, HB⟩
  case round =>
    clear HP HX HB
    obtain ⟨k, hk, rfl, HP, HX, HB⟩ := hrel
    by_cases hlt : k < len
    · obtain ⟨a, ha⟩ : ∃ a, l[k]? = some a := ⟨_, List.getElem?_eq_getElem (by rw [HN.out]; exact hlt)⟩
      obtain ⟨hao, hca⟩ := (HL0.out.keep HB.out).act ha
      subst hao
      have HCA := Lib.hid hca
      have HNX := Lib.hid (doAll_next (x := (root11, [0])) ha)
      have HWR := Lib.hid (show wrap64 ((k : Int) + 1) = ((k + 1 : Nat) : Int) by have := HLIM.out; unfold wrap64; omega)
      clear ha hca
      obtain ⟨V, hV⟩ : ∃ V, V = wr.heap.size := ⟨_, rfl⟩
      have HV0 := Lib.hid (show Blk (wr.alloc (.cells #[.int .i64 0, .int .i64 0, .int .i64 0, .int .i64 0, .int .i64 0, .int .i64 0] 40)) wr.heap.size 40 (acv ac0) from Blk.new wr 40 (acv ac0).toArray)
      have hbx : Below wr.heap.size wr ((wr.alloc (.cells #[.int .i64 0, .int .i64 0, .int .i64 0, .int .i64 0, .int .i64 0, .int .i64 0] 40)).setRow wr.heap.size (acv a).toArray) := below_row ((Below.refl _ wr).alloc (Nat.le_refl _) _) (Nat.le_refl _) _
      have HV := Lib.hid (HV0.out.setRow (acv a))
      replace HP := Lib.hid (HP.out.below hbx)
      replace HX := Lib.hid (HX.out.below hbx HX.out.lt)
      replace HB := Lib.hid (HB.out.trans (hbx.mono HB.out.size))
      clear hbx
      go_upto_region 9 with (first
        | ((with_reducible refine wpList_load_act (.tmp 21) ?_ ?_ g (off + k * 6) a ?_ HCA.out ?_); rfl; rfl; rfl)
        | ((with_reducible refine wpList_store_act (.tmp 5) (.tmp 22) ?_ ?_ wr.heap.size ac0 a ?_ ?_ HV0.out ?_); rfl; rfl; rfl; rfl))
      try simp only [Act.put]
      rw [← hV] at HV HP HX HB ⊢
      generalize (wr.alloc (.cells #[.int .i64 0, .int .i64 0, .int .i64 0, .int .i64 0, .int .i64 0, .int .i64 0] 40)).setRow V (acv a).toArray = w5 at HV HP HX HB ⊢
      clear hV HV0 HCA
      have HVA := Lib.hid (show ∀ j v, (acv a)[j]? = some v → w5.cell? ⟨V, 0 + j, none⟩ = some v from fun j v hj => by rw [Nat.zero_add, HV.out.cell]; exact hj)
      go_wp2_with (first
        | ((with_reducible refine wpList_load_pair (.tmp 3) ?_ ?_ X tb wb rb ?_ HX.out ?_); rfl; rfl; rfl)
        | ((with_reducible refine wpList_load_act (.tmp 5) ?_ ?_ V 0 a ?_ HVA.out ?_); rfl; rfl; rfl))
      refine (do_any w5 B [X] tb wb mb rb _ _ a HP.out).mono ?_
      rintro e w6 ⟨rfl, hp6, hb6, hk6⟩
      have HP2 := Lib.hid (show PSX B [X] w6 tb wb mb rb (doAll (root11, [0]) (l.take (k + 1))).1 (doAll (root11, [0]) (l.take (k + 1))).1 (doAll (root11, [0]) (l.take (k + 1))).2 (doAll (root11, [0]) (l.take (k + 1))).2 by rw [HNX.out]; exact hp6)
      have HX2 := Lib.hid (hk6.blk HX.out (by simp))
      have HB2 := Lib.hid (HB.out.trans (hb6.mono HB1.out))
      clear hp6 hb6 hk6 HP HX HB HV HVA HNX
      go_wp2_with fail
      go_roundw
      case rel => exact ⟨k + 1, by omega, by first | rw [HWR.out] | rw [Int.natCast_succ], HP2, HX2, HB2⟩
      case measure => exact measK len k 1 _ (by first | exact HWR.out | rw [Int.natCast_succ]) hlt (by omega)
    · have hge : ¬ (k : Int) < (len : Int) := by omega
      have HR0 := Lib.hid (doAll_root (l.take k))
      generalize doAll (root11, [0]) (l.take k) = x at HP HR0
      obtain ⟨t, own⟩ := x
      simp only at HP HR0
      have HGD := Lib.hid HP.out.good
      clear hlt
      have kp := HX.out.cell 1
      simp only [prv, List.getElem?_cons_succ, List.getElem?_cons_zero] at kp
      go_wp2_with fail
      refine (HP.out.apply [] none 0 0 0 (fun d hd => by cases hd) (by simp) ⟨fun h => absurd h (by simp [dvs]), fun h => absurd h (by simp [dvs]), fun j u h => by simp [dvs] at h⟩ (fun h => absurd h (by simp))).mono ?_
      rintro e wa ⟨rfl, hp, hb, hk⟩
      rw [appW_none HP.out.ownG.1] at hp
      rw [appW_none HP.out.ownG.1]
      have HPL := Lib.hid (padW_length HP.out.ownG.2.1)
      have HPN := Lib.hid hp
      have HXN := Lib.hid (hk.blk HX.out (by simp))
      replace HB := Lib.hid (HB.out.trans (hb.mono HB1.out))
      clear hp hb hk kp HP HX
      have HP := HPN
      have HX := HXN
      clear HPN HXN
      obtain ⟨o2, ho2⟩ : ∃ o2, o2 = padW t own := ⟨_, rfl⟩
      rw [← ho2] at HP HPL
      have HOG := Lib.hid HP.out.ownG.1
      have HNL0 := Lib.hid (nmN_len 0)
      have HM256 := Lib.hid (show t.length ≤ 256 ∧ 1 ≤ t.length by have := HGD.out.room; have := HGD.out.most256; have := HGD.out.pos; omega)
      clear ho2
      have kp0 := HX.out.cell 0
      simp only [prv, List.getElem?_cons_zero] at kp0
      go_wp2_with fail
      refine HP.out.roots.mono ?_
      rintro e w4 ⟨v, rfl, hv, hbc⟩
      clear kp0
      have HRT := Lib.hid HGD.out.rts
      have HRL := Lib.hid (rs_length t)
      obtain ⟨ro, rcap, rg, roff, rfl, hrl⟩ := wide_names hv HRT.out
      have HRW := Lib.hid hrl
      clear hv hrl
      replace HP := Lib.hid (HP.out.below hbc)
      replace HX := Lib.hid (HX.out.below hbc HX.out.lt)
      replace HB := Lib.hid (HB.out.trans (hbc.mono HB.out.size))
      clear hbc
      rw [HRL.out]
      go_wp2_with fail
      go_loopw [6, 34] (fun c i wx => ∃ (k : Nat), k ≤ t.length ∧ i = .int .i64 k ∧ c = .int .i64 (totW (o2.take k)) ∧ Hid (PSX B [X] wx tb wb mb rb t t o2 own) ∧ Hid (Blk wx X 37 (prv tb wb rb)) ∧ Hid (Lies wx wx.heap.size ro rg roff (rv (rs t))) ∧ Hid (Below w.heap.size w wx)) (fun _ i _ => t.length - (intOf i).toNat)
      case atStart => exact ⟨0, Nat.zero_le _, rfl, rfl, HP, HX, HRW, HB⟩
      case round =>
        clear HP HX HRW HB hge hk
        obtain ⟨k, hk, rfl, rfl, HP, HX, HRW, HB⟩ := hrel
        obtain ⟨wx, rfl⟩ : ∃ x, x = wr := ⟨_, rfl⟩
        by_cases hlt : k < t.length
        · obtain ⟨n, hn⟩ : ∃ n, t[k]? = some n := ⟨_, List.getElem?_eq_getElem hlt⟩
          have HNL := Lib.hid (show n.1.length = 32 from HGD.out.nds n (List.mem_of_getElem? hn))
          have HNK := Lib.hid hn
          have HLO := Lib.hid (show k < o2.length by rw [HPL.out]; exact hlt)
          have HOV := Lib.hid (tellZ_at HGD.out hn HLO.out 0 (owZ o2))
          have HWV := Lib.hid (tellZ_at HGD.out hn HLO.out 0 (wtW t o2))
          have HKR := Lib.hid (HGD.out.kids_rts n.1)
          have HKD := Lib.hid (fun c hc => HGD.out.kids_in hn (c := c) hc)
          have HSN := Lib.hid (show totW (o2.take (k + 1)) = totW (o2.take k) + owZ o2 k from totW_take (by obtain ⟨x, hx⟩ : ∃ x, o2[k]? = some x := ⟨_, List.getElem?_eq_getElem HLO.out⟩; rw [hx, owZ_at hx]))
          have HSB := Lib.hid (show 0 ≤ totW (o2.take k) ∧ totW (o2.take (k + 1)) < 4611686018427387904 from ⟨(HOG.out.allOk.take k).tot_nonneg, Int.lt_of_le_of_lt (HOG.out.allOk.tot_take o2.length (k + 1) (by omega)) HOG.out.tot⟩)
          have HOP := Lib.hid (HOG.out.owZ k)
          have HSW := Lib.hid (show wrap64 (totW (o2.take k) + owZ o2 k) = totW (o2.take (k + 1)) by have h1 := HSN.out; have h2 := HSB.out; have h3 := HOP.out; rw [← h1]; unfold wrap64; omega)
          obtain ⟨hro, hrc⟩ := HRW.out.name HRT.out (rs_at hn)
          have HRC := Lib.hid hrc
          have HLT := Lib.hid hlt
          have HK := Lib.hid hk
          have hlt' : (k : Int) < (t.length : Int) := by omega
          clear hn hrc hlt hk
          subst hro
          have HWK := Lib.hid (show wrap64 ((k : Int) + 1) = ((k + 1 : Nat) : Int) by have := HM256.out; have := HLT.out; unfold wrap64; omega)
          have HZ := Lib.hid (blk_zeroR wx)
          have HZL := Lib.hid zero32_len
          have HR := Lib.hid (HZ.out.setRow (bv n.1))
          have hbx : Below wx.heap.size wx ((wx.alloc (.cells #[.int .u8 0, .int .u8 0, .int .u8 0, .int .u8 0, .int .u8 0, .int .u8 0, .int .u8 0, .int .u8 0, .int .u8 0, .int .u8 0, .int .u8 0, .int .u8 0, .int .u8 0, .int .u8 0, .int .u8 0, .int .u8 0, .int .u8 0, .int .u8 0, .int .u8 0, .int .u8 0, .int .u8 0, .int .u8 0, .int .u8 0, .int .u8 0, .int .u8 0, .int .u8 0, .int .u8 0, .int .u8 0, .int .u8 0, .int .u8 0, .int .u8 0, .int .u8 0] 24)).setRow wx.heap.size (bv n.1).toArray) := below_row ((Below.refl _ wx).alloc (Nat.le_refl _) _) (Nat.le_refl _) _
          replace HP := Lib.hid (HP.out.below hbx)
          replace HX := Lib.hid (HX.out.below hbx HX.out.lt)
          replace HRW := Lib.hid (HRW.out.below hbx)
          replace HB := Lib.hid (HB.out.trans (hbx.mono HB.out.size))
          clear hbx
          obtain ⟨R, hR⟩ : ∃ R, R = wx.heap.size := ⟨_, rfl⟩
          go_upto_region 16 with (first | ((with_reducible refine wpList_load_name (.tmp 36) ?_ ?_ rg (roff + k * 32) n.1 ?_ HNL.out HRC.out ?_); rfl; rfl; rfl) | ((with_reducible refine wpList_store_name (.tmp 8) (.tmp 37) ?_ ?_ wx.heap.size zero32 n.1 ?_ ?_ HZ.out HZL.out HNL.out ?_); rfl; rfl; rfl; rfl))
          try simp only [Act.put]
          rw [← hR] at HR HP HX HRW HB ⊢
          generalize (wx.alloc (.cells #[.int .u8 0, .int .u8 0, .int .u8 0, .int .u8 0, .int .u8 0, .int .u8 0, .int .u8 0, .int .u8 0, .int .u8 0, .int .u8 0, .int .u8 0, .int .u8 0, .int .u8 0, .int .u8 0, .int .u8 0, .int .u8 0, .int .u8 0, .int .u8 0, .int .u8 0, .int .u8 0, .int .u8 0, .int .u8 0, .int .u8 0, .int .u8 0, .int .u8 0, .int .u8 0, .int .u8 0, .int .u8 0, .int .u8 0, .int .u8 0, .int .u8 0, .int .u8 0] 24)).setRow R (bv n.1).toArray = w5 at HR HP HX HRW HB ⊢
          clear HZ HZL hR

          clear HRC
          have kp1 := HX.out.cell 1
          simp only [prv, List.getElem?_cons_succ, List.getElem?_cons_zero] at kp1
          go_wp2_with ((with_reducible refine wpList_load_name (.tmp 8) ?_ ?_ R 0 n.1 ?_ HNL.out HR.out.rootAll ?_); rfl; rfl; rfl)
          refine (HP.out.own n.1 HNL.out).mono ?_
          rintro e w6 ⟨rfl, hbc⟩
          clear kp1
          replace HP := Lib.hid (HP.out.below hbc)
          replace HX := Lib.hid (HX.out.below hbc HX.out.lt)
          replace HRW := Lib.hid (HRW.out.below hbc)
          replace HB := Lib.hid (HB.out.trans (hbc.mono HB.out.size))
          replace HR := Lib.hid (HR.out.below hbc HR.out.lt)
          clear hbc
          rw [HOV.out]
          have kp0 := HX.out.cell 0
          simp only [prv, List.getElem?_cons_zero] at kp0
          generalize totW (o2.take k) = sk at HSW HSN HSB ⊢
          generalize owZ o2 k = so at HSW HSN ⊢
          have hsw := HSW.out
          go_wp2_with ((with_reducible refine wpList_load_name (.tmp 8) ?_ ?_ R 0 n.1 ?_ HNL.out HR.out.rootAll ?_); rfl; rfl; rfl)
          refine (HP.out.kids n.1 HNL.out).mono ?_
          rintro e w7 ⟨v, rfl, hv, hbc⟩
          clear kp0 hsw
          have HKB := Lib.hid (show (kidsT t n.1).length ≤ 256 from Nat.le_trans (kids_le t n.1) HM256.out.1)
          generalize kidsT t n.1 = KS at hv HKR HKD HKB
          obtain ⟨ko, kcap, kg, koff, rfl, hkl⟩ := wide_names hv HKR.out
          have HKW := Lib.hid hkl
          clear hv hkl
          replace HP := Lib.hid (HP.out.below hbc)
          replace HX := Lib.hid (HX.out.below hbc HX.out.lt)
          replace HRW := Lib.hid (HRW.out.below hbc)
          replace HB := Lib.hid (HB.out.trans (hbc.mono HB.out.size))
          replace HR := Lib.hid (HR.out.below hbc HR.out.lt)
          clear hbc
          go_wp2_with fail
          go_loopw [49] (fun i wy => ∃ (j : Nat), j ≤ KS.length ∧ i = .int .i64 j ∧ Hid (PSX B [X] wy tb wb mb rb t t o2 own) ∧ Hid (Blk wy X 37 (prv tb wb rb)) ∧ Hid (Lies wy wy.heap.size (some ⟨rg, roff, none⟩) rg roff (rv (rs t))) ∧ Hid (Lies wy wy.heap.size ko kg koff (rv KS)) ∧ Hid (Blk wy R 24 (bv n.1)) ∧ Hid (Below w.heap.size w wy)) (fun i _ => KS.length - (intOf i).toNat)
          case atStart => exact ⟨0, Nat.zero_le _, rfl, HP, HX, HRW, HKW, HR, HB⟩
          case round =>
            clear HP HX HRW HKW HR HB
            obtain ⟨j, hj, rfl, HP, HX, HRW, HKW, HR, HB⟩ := hrel
            obtain ⟨wy, rfl⟩ : ∃ x, x = wr := ⟨_, rfl⟩
            by_cases hlt : j < KS.length
            · obtain ⟨c, hc⟩ : ∃ c, KS[j]? = some c := ⟨_, List.getElem?_eq_getElem hlt⟩
              obtain ⟨hko, hkc⟩ := HKW.out.name HKR.out hc
              have HKC := Lib.hid hkc
              have HCL := Lib.hid (HKR.out c (List.mem_of_getElem? hc))
              obtain ⟨i, x, hx, hxc, hpi⟩ := HKD.out c (List.mem_of_getElem? hc)
              have HIO := Lib.hid (show i < o2.length by rw [HPL.out]; exact (List.getElem?_eq_some_iff.1 hx).1)
              have hcv := tellZ_at HGD.out hx HIO.out 0 (wtW t o2)
              rw [hxc] at hcv
              have HCV := Lib.hid hcv
              have HGT := Lib.hid (show decide (wtW t o2 k < wtW t o2 i) = false from decide_eq_false (by have := HGD.out.wtW_kid HOG.out hpi; omega))
              have HLJ := Lib.hid hlt
              have hlt2 : (j : Int) < (KS.length : Int) := by omega
              have HWJ := Lib.hid (show wrap64 ((j : Int) + 1) = ((j + 1 : Nat) : Int) by have := HKB.out; have := HLJ.out; unfold wrap64; omega)
              clear hc hkc hx hxc hpi hlt hj hcv
              subst hko
              have HZ := Lib.hid (blk_zeroR wy)
              have HZL := Lib.hid zero32_len
              have HC := Lib.hid (HZ.out.setRow (bv c))
              have hbx : Below wy.heap.size wy ((wy.alloc (.cells #[.int .u8 0, .int .u8 0, .int .u8 0, .int .u8 0, .int .u8 0, .int .u8 0, .int .u8 0, .int .u8 0, .int .u8 0, .int .u8 0, .int .u8 0, .int .u8 0, .int .u8 0, .int .u8 0, .int .u8 0, .int .u8 0, .int .u8 0, .int .u8 0, .int .u8 0, .int .u8 0, .int .u8 0, .int .u8 0, .int .u8 0, .int .u8 0, .int .u8 0, .int .u8 0, .int .u8 0, .int .u8 0, .int .u8 0, .int .u8 0, .int .u8 0, .int .u8 0] 24)).setRow wy.heap.size (bv c).toArray) := below_row ((Below.refl _ wy).alloc (Nat.le_refl _) _) (Nat.le_refl _) _
              replace HP := Lib.hid (HP.out.below hbx)
              replace HX := Lib.hid (HX.out.below hbx HX.out.lt)
              replace HRW := Lib.hid (HRW.out.below hbx)
              replace HB := Lib.hid (HB.out.trans (hbx.mono HB.out.size))
              replace HR := Lib.hid (HR.out.below hbx HR.out.lt)
              replace HKW := Lib.hid (HKW.out.below hbx)
              clear hbx
              obtain ⟨C, hC⟩ : ∃ C, C = wy.heap.size := ⟨_, rfl⟩
              go_upto_region 20 with (first | ((with_reducible refine wpList_load_name (.tmp 51) ?_ ?_ kg (koff + j * 32) c ?_ HCL.out HKC.out ?_); rfl; rfl; rfl) | ((with_reducible refine wpList_store_name (.tmp 10) (.tmp 52) ?_ ?_ wy.heap.size zero32 c ?_ ?_ HZ.out HZL.out HCL.out ?_); rfl; rfl; rfl; rfl))
              try simp only [Act.put]
              rw [← hC] at HC HP HX HRW HB HR HKW ⊢
              generalize (wy.alloc (.cells #[.int .u8 0, .int .u8 0, .int .u8 0, .int .u8 0, .int .u8 0, .int .u8 0, .int .u8 0, .int .u8 0, .int .u8 0, .int .u8 0, .int .u8 0, .int .u8 0, .int .u8 0, .int .u8 0, .int .u8 0, .int .u8 0, .int .u8 0, .int .u8 0, .int .u8 0, .int .u8 0, .int .u8 0, .int .u8 0, .int .u8 0, .int .u8 0, .int .u8 0, .int .u8 0, .int .u8 0, .int .u8 0, .int .u8 0, .int .u8 0, .int .u8 0, .int .u8 0] 24)).setRow C (bv c).toArray = w8 at HC HP HX HRW HB HR HKW ⊢
              clear HZ HZL hC

              clear HKC
              refine wp_region_free (P := Try.prog) 9 (fun w' => Below w8.heap.size w8 w') (fun oq v w' => match oq with
                  | 0 => v = .pointer (some ⟨X, 1, none⟩)
                  | 1 => v = .pointer (some ⟨wb, 0, none⟩)
                  | 2 => v = .agg (bv c).toArray
                  | 3 => v = .int .i64 (wtW t o2 i)
                  | 4 => v = .pointer (some ⟨X, 1, none⟩)
                  | 5 => v = .pointer (some ⟨wb, 0, none⟩)
                  | 6 => v = .agg (bv n.1).toArray
                  | 7 => v = .int .i64 (wtW t o2 k)
                  | 8 => v = .bool false
                  | _ => True) (by kernel_rfl) (by kernel_rfl) (Below.refl _ _).drew ?gb ?vb ?steps ?fin
              case gb => exact fun a b h1 h2 => h1.trans (h2.mono h1.size)
              case vb =>
                intro oq v a b h hb
                match oq with
                | 0 => exact h
                | 1 => exact h
                | 2 => exact h
                | 3 => exact h
                | 4 => exact h
                | 5 => exact h
                | 6 => exact h
                | 7 => exact h
                | 8 => exact h
                | _ + 9 => trivial
              case steps =>
                intro vals
                simp only [List.take_succ_cons, List.take_zero, freeSteps, Act.put, List.setIfInBounds_toArray, List.set_cons_zero, List.set_cons_succ, Nat.reduceAdd]
                refine ⟨fun w8 hG hW => ?_, fun w8 hG hW => ?_, fun w8 hG hW => ?_, fun w8 hG hW => ?_, fun w8 hG hW => ?_, fun w8 hG hW => ?_, fun w8 hG hW => ?_, fun w8 hG hW => ?_, fun w8 hG hW => ?_, trivial⟩
                · clear hW
                  refine stepAt_value rfl rfl rfl (.pointer (some ⟨X, 1, none⟩)) w8 ?_ ⟨rfl, Below.refl _ _⟩
                  go_simp
                · have q0 := hW 0 (by decide)
                  simp only at q0
                  rw [q0]
                  clear hW
                  refine stepAt_value rfl rfl rfl (.pointer (some ⟨wb, 0, none⟩)) w8 ?_ ⟨rfl, Below.refl _ _⟩
                  have hh := (HX.out.below hG HX.out.lt).cell 1
                  simp only [prv, List.getElem?_cons_succ, List.getElem?_cons_zero] at hh
                  go_simp
                · clear hW
                  exact stepAt_load_run rfl rfl rfl _ _ rfl _ _ rfl (run_load_root HCL.out (HC.out.below hG HC.out.lt).rootAll) ⟨rfl, Below.refl _ _⟩
                · have q1 := hW 1 (by decide)
                  simp only at q1
                  have q2 := hW 2 (by decide)
                  simp only at q2
                  rw [q1, q2]
                  clear hW
                  refine stepAt_call rfl rfl rfl 14 #[.pointer (some ⟨wb, 0, none⟩), .agg (bv c).toArray] (by go_simp) (((HP.out.below hG).weight c HCL.out).mono fun e w' ⟨h1, h2⟩ => ⟨_, h1, by rw [HCV.out], h2⟩)
                · clear hW
                  refine stepAt_value rfl rfl rfl (.pointer (some ⟨X, 1, none⟩)) w8 ?_ ⟨rfl, Below.refl _ _⟩
                  go_simp
                · have q4 := hW 4 (by decide)
                  simp only at q4
                  rw [q4]
                  clear hW
                  refine stepAt_value rfl rfl rfl (.pointer (some ⟨wb, 0, none⟩)) w8 ?_ ⟨rfl, Below.refl _ _⟩
                  have hh := (HX.out.below hG HX.out.lt).cell 1
                  simp only [prv, List.getElem?_cons_succ, List.getElem?_cons_zero] at hh
                  go_simp
                · clear hW
                  exact stepAt_load_run rfl rfl rfl _ _ rfl _ _ rfl (run_load_root HNL.out (HR.out.below hG HR.out.lt).rootAll) ⟨rfl, Below.refl _ _⟩
                · have q5 := hW 5 (by decide)
                  simp only at q5
                  have q6 := hW 6 (by decide)
                  simp only at q6
                  rw [q5, q6]
                  clear hW
                  refine stepAt_call rfl rfl rfl 14 #[.pointer (some ⟨wb, 0, none⟩), .agg (bv n.1).toArray] (by go_simp) (((HP.out.below hG).weight n.1 HNL.out).mono fun e w' ⟨h1, h2⟩ => ⟨_, h1, by rw [HWV.out], h2⟩)
                · have q3 := hW 3 (by decide)
                  simp only at q3
                  have q7 := hW 7 (by decide)
                  simp only at q7
                  rw [q3, q7]
                  clear hW
                  refine stepAt_value rfl rfl rfl (.bool false) w8 ?_ ⟨rfl, Below.refl _ _⟩
                  have hd1 := HGT.out
                  go_simp
              case fin =>
                intro vals w9 hG hV
                have q8 := hV 8 (by omega)
                simp only at q8
                simp only [List.take_succ_cons, List.take_zero, List.drop_succ_cons, List.drop_zero, putAll, Act.put, List.setIfInBounds_toArray, List.set_cons_zero, List.set_cons_succ, Nat.reduceAdd]
                rw [q8]
                clear hV q8
                generalize vals 0 = y0
                generalize vals 1 = y1
                generalize vals 2 = y2
                generalize vals 3 = y3
                generalize vals 4 = y4
                generalize vals 5 = y5
                generalize vals 6 = y6
                generalize vals 7 = y7

                replace HP := Lib.hid (HP.out.below hG)
                replace HX := Lib.hid (HX.out.below hG HX.out.lt)
                replace HRW := Lib.hid (HRW.out.below hG)
                replace HB := Lib.hid (HB.out.trans (hG.mono HB.out.size))
                replace HR := Lib.hid (HR.out.below hG HR.out.lt)
                replace HKW := Lib.hid (HKW.out.below hG)
                replace HC := Lib.hid (HC.out.below hG HC.out.lt)
                clear hG HC HGT HCV
                go_wp2_with fail
                have hlj := HLJ.out
                go_roundw
                case rel => exact ⟨j + 1, by omega, by first | rw [HWJ.out] | rw [Int.natCast_succ], HP, HX, HRW, HKW, HR, HB⟩
                case measure => exact measK KS.length j 1 _ (by first | exact HWJ.out | rw [Int.natCast_succ]) hlj (by omega)
            · have hlt2 : ¬ (j : Int) < (KS.length : Int) := by omega
              clear hlt hj HKW HKD
              have HLS := Lib.hid (show decide (owZ o2 k < 0) = false from decide_eq_false (by have := HOP.out; omega))
              have HGT := Lib.hid (show decide (wtW t o2 k < owZ o2 k) = false from decide_eq_false (by have := HGD.out.wtW_own HOG.out k; omega))
              go_wp2_with fail
              obtain ⟨wz, rfl⟩ : ∃ x, x = wy := ⟨_, rfl⟩
              refine wp_region_free (P := Try.prog) 16 (fun w' => Below wz.heap.size wz w') (fun oq v w' => match oq with
                  | 0 => v = .pointer (some ⟨X, 1, none⟩)
                  | 1 => v = .pointer (some ⟨wb, 0, none⟩)
                  | 2 => v = .agg (bv n.1).toArray
                  | 3 => v = .int .i64 (owZ o2 k)
                  | 4 => v = .bool false
                  | 5 => v = .bool false
                  | 6 => v = .pointer (some ⟨X, 1, none⟩)
                  | 7 => v = .pointer (some ⟨wb, 0, none⟩)
                  | 8 => v = .agg (bv n.1).toArray
                  | 9 => v = .int .i64 (owZ o2 k)
                  | 10 => v = .pointer (some ⟨X, 1, none⟩)
                  | 11 => v = .pointer (some ⟨wb, 0, none⟩)
                  | 12 => v = .agg (bv n.1).toArray
                  | 13 => v = .int .i64 (wtW t o2 k)
                  | 14 => v = .bool false
                  | 15 => v = .bool false
                  | _ => True) (by kernel_rfl) (by kernel_rfl) (Below.refl _ _).drew ?gb ?vb ?steps ?fin
              case gb => exact fun a b h1 h2 => h1.trans (h2.mono h1.size)
              case vb =>
                intro oq v a b h hb
                match oq with
                | 0 => exact h
                | 1 => exact h
                | 2 => exact h
                | 3 => exact h
                | 4 => exact h
                | 5 => exact h
                | 6 => exact h
                | 7 => exact h
                | 8 => exact h
                | 9 => exact h
                | 10 => exact h
                | 11 => exact h
                | 12 => exact h
                | 13 => exact h
                | 14 => exact h
                | 15 => exact h
                | _ + 16 => trivial
              case steps =>
                intro vals
                simp only [List.take_succ_cons, List.take_zero, freeSteps, Act.put, List.setIfInBounds_toArray, List.set_cons_zero, List.set_cons_succ, Nat.reduceAdd]
                refine ⟨fun w8 hG hW => ?_, fun w8 hG hW => ?_, fun w8 hG hW => ?_, fun w8 hG hW => ?_, fun w8 hG hW => ?_, fun w8 hG hW => ?_, fun w8 hG hW => ?_, fun w8 hG hW => ?_, fun w8 hG hW => ?_, fun w8 hG hW => ?_, fun w8 hG hW => ?_, fun w8 hG hW => ?_, fun w8 hG hW => ?_, fun w8 hG hW => ?_, fun w8 hG hW => ?_, fun w8 hG hW => ?_, trivial⟩
                · clear hW
                  refine stepAt_value rfl rfl rfl (.pointer (some ⟨X, 1, none⟩)) w8 ?_ ⟨rfl, Below.refl _ _⟩
                  go_simp
                · have q0 := hW 0 (by decide)
                  simp only at q0
                  rw [q0]
                  clear hW
                  refine stepAt_value rfl rfl rfl (.pointer (some ⟨wb, 0, none⟩)) w8 ?_ ⟨rfl, Below.refl _ _⟩
                  have hh := (HX.out.below hG HX.out.lt).cell 1
                  simp only [prv, List.getElem?_cons_succ, List.getElem?_cons_zero] at hh
                  go_simp
                · clear hW
                  exact stepAt_load_run rfl rfl rfl _ _ rfl _ _ rfl (run_load_root HNL.out (HR.out.below hG HR.out.lt).rootAll) ⟨rfl, Below.refl _ _⟩
                · have q1 := hW 1 (by decide)
                  simp only at q1
                  have q2 := hW 2 (by decide)
                  simp only at q2
                  rw [q1, q2]
                  clear hW
                  refine stepAt_call rfl rfl rfl 13 #[.pointer (some ⟨wb, 0, none⟩), .agg (bv n.1).toArray] (by go_simp) (((HP.out.below hG).own n.1 HNL.out).mono fun e w' ⟨h1, h2⟩ => ⟨_, h1, by rw [HOV.out], h2⟩)
                · have q3 := hW 3 (by decide)
                  simp only at q3
                  rw [q3]
                  clear hW
                  refine stepAt_value rfl rfl rfl (.bool false) w8 ?_ ⟨rfl, Below.refl _ _⟩
                  have hd1 := HLS.out
                  go_simp
                · have q4 := hW 4 (by decide)
                  simp only at q4
                  rw [q4]
                  clear hW
                  refine stepAt_value rfl rfl rfl (.bool false) w8 ?_ ⟨rfl, Below.refl _ _⟩
                  go_simp
                · have q5 := hW 5 (by decide)
                  simp only at q5
                  rw [q5]
                  clear hW
                  refine stepAt_value rfl rfl rfl (.pointer (some ⟨X, 1, none⟩)) w8 ?_ ⟨rfl, Below.refl _ _⟩
                  go_simp
                · have q5 := hW 5 (by decide)
                  simp only at q5
                  have q6 := hW 6 (by decide)
                  simp only at q6
                  rw [q5, q6]
                  clear hW
                  refine stepAt_value rfl rfl rfl (.pointer (some ⟨wb, 0, none⟩)) w8 ?_ ⟨rfl, Below.refl _ _⟩
                  have hh := (HX.out.below hG HX.out.lt).cell 1
                  simp only [prv, List.getElem?_cons_succ, List.getElem?_cons_zero] at hh
                  go_simp
                · have q5 := hW 5 (by decide)
                  simp only at q5
                  rw [q5]
                  clear hW
                  exact stepAt_load_run rfl rfl rfl _ _ rfl _ _ rfl (run_load_root HNL.out (HR.out.below hG HR.out.lt).rootAll) ⟨rfl, Below.refl _ _⟩
                · have q5 := hW 5 (by decide)
                  simp only at q5
                  have q7 := hW 7 (by decide)
                  simp only at q7
                  have q8 := hW 8 (by decide)
                  simp only at q8
                  rw [q5, q7, q8]
                  clear hW
                  refine stepAt_call rfl rfl rfl 13 #[.pointer (some ⟨wb, 0, none⟩), .agg (bv n.1).toArray] (by go_simp) (((HP.out.below hG).own n.1 HNL.out).mono fun e w' ⟨h1, h2⟩ => ⟨_, h1, by rw [HOV.out], h2⟩)
                · have q5 := hW 5 (by decide)
                  simp only at q5
                  rw [q5]
                  clear hW
                  refine stepAt_value rfl rfl rfl (.pointer (some ⟨X, 1, none⟩)) w8 ?_ ⟨rfl, Below.refl _ _⟩
                  go_simp
                · have q5 := hW 5 (by decide)
                  simp only at q5
                  have q10 := hW 10 (by decide)
                  simp only at q10
                  rw [q5, q10]
                  clear hW
                  refine stepAt_value rfl rfl rfl (.pointer (some ⟨wb, 0, none⟩)) w8 ?_ ⟨rfl, Below.refl _ _⟩
                  have hh := (HX.out.below hG HX.out.lt).cell 1
                  simp only [prv, List.getElem?_cons_succ, List.getElem?_cons_zero] at hh
                  go_simp
                · have q5 := hW 5 (by decide)
                  simp only at q5
                  rw [q5]
                  clear hW
                  exact stepAt_load_run rfl rfl rfl _ _ rfl _ _ rfl (run_load_root HNL.out (HR.out.below hG HR.out.lt).rootAll) ⟨rfl, Below.refl _ _⟩
                · have q5 := hW 5 (by decide)
                  simp only at q5
                  have q11 := hW 11 (by decide)
                  simp only at q11
                  have q12 := hW 12 (by decide)
                  simp only at q12
                  rw [q5, q11, q12]
                  clear hW
                  refine stepAt_call rfl rfl rfl 14 #[.pointer (some ⟨wb, 0, none⟩), .agg (bv n.1).toArray] (by go_simp) (((HP.out.below hG).weight n.1 HNL.out).mono fun e w' ⟨h1, h2⟩ => ⟨_, h1, by rw [HWV.out], h2⟩)
                · have q5 := hW 5 (by decide)
                  simp only at q5
                  have q9 := hW 9 (by decide)
                  simp only at q9
                  have q13 := hW 13 (by decide)
                  simp only at q13
                  rw [q5, q9, q13]
                  clear hW
                  refine stepAt_value rfl rfl rfl (.bool false) w8 ?_ ⟨rfl, Below.refl _ _⟩
                  have hd1 := HGT.out
                  go_simp
                · have q5 := hW 5 (by decide)
                  simp only at q5
                  have q14 := hW 14 (by decide)
                  simp only at q14
                  rw [q5, q14]
                  clear hW
                  refine stepAt_value rfl rfl rfl (.bool false) w8 ?_ ⟨rfl, Below.refl _ _⟩
                  go_simp
              case fin =>
                intro vals w9 hG hV
                have q15 := hV 15 (by omega)
                simp only at q15
                simp only [List.take_succ_cons, List.take_zero, List.drop_succ_cons, List.drop_zero, putAll, Act.put, List.setIfInBounds_toArray, List.set_cons_zero, List.set_cons_succ, Nat.reduceAdd]
                rw [q15]
                clear hV q15
                generalize vals 0 = y0
                generalize vals 1 = y1
                generalize vals 2 = y2
                generalize vals 3 = y3
                generalize vals 4 = y4
                generalize vals 5 = y5
                generalize vals 6 = y6
                generalize vals 7 = y7
                generalize vals 8 = y8
                generalize vals 9 = y9
                generalize vals 10 = y10
                generalize vals 11 = y11
                generalize vals 12 = y12
                generalize vals 13 = y13
                generalize vals 14 = y14

                replace HP := Lib.hid (HP.out.below hG)
                replace HX := Lib.hid (HX.out.below hG HX.out.lt)
                replace HRW := Lib.hid (HRW.out.below hG)
                replace HB := Lib.hid (HB.out.trans (hG.mono HB.out.size))
                replace HR := Lib.hid (HR.out.below hG HR.out.lt)
                clear hG HR
                go_wp2_with fail
                have hlk := HLT.out
                go_roundw
                case rel => exact ⟨k + 1, by omega, by first | rw [HWK.out] | rw [Int.natCast_succ], rfl, HP, HX, HRW, HB⟩
                case measure => exact measK t.length k 1 _ (by first | exact HWK.out | rw [Int.natCast_succ]) hlk (by omega)
        · have hlt2 : ¬ (k : Int) < (t.length : Int) := by omega
          have hke : o2.take k = o2 := List.take_of_length_le (by rw [HPL.out]; omega)
          rw [hke]
          have hz := tellZ_at HGD.out HR0.out (show 0 < o2.length by rw [HPL.out]; exact HM256.out.2) 0 (wtW t o2)
          simp only at hz
          rw [HGD.out.wtW_root (by rw [HPL.out]; omega)] at hz
          have HZV := Lib.hid hz
          have HEQ := Lib.hid (show (totW o2 == totW o2) = true from beq_self_eq_true _)
          clear hlt hk hke hz HRW
          go_wp2_with fail
          refine wp_region_free (P := Try.prog) 7 (fun w' => Below wx.heap.size wx w') (fun oq v w' => match oq with
              | 0 => v = .pointer (some ⟨X, 1, none⟩)
              | 1 => v = .pointer (some ⟨wb, 0, none⟩)
              | 2 => v = .agg (bv (nmN 0)).toArray
              | 3 => v = .int .i64 (totW o2)
              | 4 => v = .int .i64 (totW o2)
              | 5 => v = .bool true
              | 6 => v = .bool true
              | _ => True) (by kernel_rfl) (by kernel_rfl) (Below.refl _ _).drew ?gb ?vb ?steps ?fin
          case gb => exact fun a b h1 h2 => h1.trans (h2.mono h1.size)
          case vb =>
            intro oq v a b h hb
            match oq with
            | 0 => exact h
            | 1 => exact h
            | 2 => exact h
            | 3 => exact h
            | 4 => exact h
            | 5 => exact h
            | 6 => exact h
            | _ + 7 => trivial
          case steps =>
            intro vals
            simp only [List.take_succ_cons, List.take_zero, freeSteps, Act.put, List.setIfInBounds_toArray, List.set_cons_zero, List.set_cons_succ, Nat.reduceAdd]
            refine ⟨fun w8 hG hW => ?_, fun w8 hG hW => ?_, fun w8 hG hW => ?_, fun w8 hG hW => ?_, fun w8 hG hW => ?_, fun w8 hG hW => ?_, fun w8 hG hW => ?_, trivial⟩
            · clear hW
              refine stepAt_value rfl rfl rfl (.pointer (some ⟨X, 1, none⟩)) w8 ?_ ⟨rfl, Below.refl _ _⟩
              go_simp
            · have q0 := hW 0 (by decide)
              simp only at q0
              rw [q0]
              clear hW
              refine stepAt_value rfl rfl rfl (.pointer (some ⟨wb, 0, none⟩)) w8 ?_ ⟨rfl, Below.refl _ _⟩
              have hh := (HX.out.below hG HX.out.lt).cell 1
              simp only [prv, List.getElem?_cons_succ, List.getElem?_cons_zero] at hh
              go_simp
            · clear hW
              refine stepAt_call rfl rfl rfl 24 #[.int .i64 0] (by go_simp) ((name_any w8 0).mono fun e w' ⟨h1, h2⟩ => ⟨_, h1, rfl, h2⟩)
            · have q1 := hW 1 (by decide)
              simp only at q1
              have q2 := hW 2 (by decide)
              simp only at q2
              rw [q1, q2]
              clear hW
              refine stepAt_call rfl rfl rfl 14 #[.pointer (some ⟨wb, 0, none⟩), .agg (bv (nmN 0)).toArray] (by go_simp) (((HP.out.below hG).weight (nmN 0) HNL0.out).mono fun e w' ⟨h1, h2⟩ => ⟨_, h1, by rw [HZV.out], h2⟩)
            · clear hW
              refine stepAt_value rfl rfl rfl (.int .i64 (totW o2)) w8 ?_ ⟨rfl, Below.refl _ _⟩
              go_simp
            · have q3 := hW 3 (by decide)
              simp only at q3
              have q4 := hW 4 (by decide)
              simp only at q4
              rw [q3, q4]
              clear hW
              refine stepAt_value rfl rfl rfl (.bool true) w8 ?_ ⟨rfl, Below.refl _ _⟩
              have hd1 := HEQ.out
              go_simp
            · have q5 := hW 5 (by decide)
              simp only at q5
              rw [q5]
              clear hW
              refine stepAt_value rfl rfl rfl (.bool true) w8 ?_ ⟨rfl, Below.refl _ _⟩
              go_simp
          case fin =>
            intro vals w9 hG hV
            have q6 := hV 6 (by omega)
            simp only at q6
            simp only [List.take_succ_cons, List.take_zero, List.drop_succ_cons, List.drop_zero, putAll, Act.put, List.setIfInBounds_toArray, List.set_cons_zero, List.set_cons_succ, Nat.reduceAdd]
            rw [q6]
            clear hV q6
            generalize vals 0 = y0
            generalize vals 1 = y1
            generalize vals 2 = y2
            generalize vals 3 = y3
            generalize vals 4 = y4
            generalize vals 5 = y5

            replace HB := Lib.hid (HB.out.trans (hG.mono HB.out.size))
            clear hG
            go_wp2_with fail
            go_ret
            exact ⟨rfl, HB.out⟩
end Go.Proofs.Ytpamifdcbnkcdaa
