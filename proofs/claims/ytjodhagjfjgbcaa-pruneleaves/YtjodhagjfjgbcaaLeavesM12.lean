/-
  The texts WName, WBetter, WRank, RWMem, RWNew, one behind the other.
-/
import Derived.Test.YtjodhagjfjgbcaaLeavesM11
import Derived.Test.YtjodhagjfjgbcaaLeavesM8
import Derived.Test.YtjodhagjfjgbcaaLeavesM10
import Derived.BigQuiet
import Derived.Test.YtjodhagjfjgbcaaLeavesM1
import Derived.Test.YtjodhagjfjgbcaaLeavesM4
import Derived.Test.YtjodhagjfjgbcaaCWClone
import Derived.Test.YtjodhagjfjgbcaaLeavesM9
import Derived.Test.YtjodhagjfjgbcaaLeavesM2
/-
  name: the name of the block at a place; better: which of two children is.
-/
namespace Go.Proofs.Ytjodhagjfjgbcaa
open Go Go.RowKit
set_option maxRecDepth 10000

theorem nodeOr_name {t : List Nd} {k : Nat} (h : k < t.length) : (nodeOr t (k : Int)).1 = pnm t (k : Int) := by
  simp [nodeOr, pnm, nodeAt_nat, List.getElem?_eq_getElem h]
theorem blk_zeroRoot (w : World) : Blk (w.alloc (.cells (bv zero32).toArray 24)) w.heap.size 24 (bv zero32) := Blk.new w _ (bv zero32).toArray
theorem zroot_lit : (#[.int .u8 0, .int .u8 0, .int .u8 0, .int .u8 0, .int .u8 0, .int .u8 0, .int .u8 0, .int .u8 0, .int .u8 0, .int .u8 0, .int .u8 0, .int .u8 0, .int .u8 0, .int .u8 0, .int .u8 0, .int .u8 0, .int .u8 0, .int .u8 0, .int .u8 0, .int .u8 0, .int .u8 0, .int .u8 0, .int .u8 0, .int .u8 0, .int .u8 0, .int .u8 0, .int .u8 0, .int .u8 0, .int .u8 0, .int .u8 0, .int .u8 0, .int .u8 0] : Array Value) = (bv zero32).toArray := rfl
theorem znode_lit : (#[.int .u8 0, .int .u8 0, .int .u8 0, .int .u8 0, .int .u8 0, .int .u8 0, .int .u8 0, .int .u8 0, .int .u8 0, .int .u8 0, .int .u8 0, .int .u8 0, .int .u8 0, .int .u8 0, .int .u8 0, .int .u8 0, .int .u8 0, .int .u8 0, .int .u8 0, .int .u8 0, .int .u8 0, .int .u8 0, .int .u8 0, .int .u8 0, .int .u8 0, .int .u8 0, .int .u8 0, .int .u8 0, .int .u8 0, .int .u8 0, .int .u8 0, .int .u8 0, .int .i64 0, .int .i64 0] : Array Value) = (ndv nd0).toArray := rfl

set_option maxHeartbeats 4000000 in
theorem wname_any (w : World) (G : List Nat) (tb : Nat) (t : List Nd) (most : Int) (F : List Nat) (b k : Nat) (own sums best : List Int) (hT : Tre w G tb t most) (h : Wgt w F b tb own sums best) (hk : k < t.length) :
    Calls Try.prog 41 #[.pointer (some ⟨b, 0, none⟩), .int .i64 (k : Int)] w fun e w' => e = .returned (.agg (bv (pnm t (k : Int))).toArray) ∧ Below w.heap.size w w' := by
  obtain ⟨a1, a2, a3, c1, c2, c3, g1, g2, g3, o1, o2, o3, h⟩ := h.open
  have hb1 : Below w.heap.size w (w.alloc (.cells (bv zero32).toArray 24)) := (Below.refl _ w).alloc (Nat.le_refl _) _
  have HB := Lib.hid hb1
  have HX := Lib.hid (blk_zeroRoot w)
  have HT := Lib.hid (hT.below hb1)
  have HC := Lib.hid (h.below hb1).cell0
  obtain ⟨X, hX⟩ : ∃ X, X = w.heap.size := ⟨_, rfl⟩
  have HXe := Lib.hid hX
  have HNL := Lib.hid (hT.1.nds.nodeOr (k : Int))
  have HNM := Lib.hid (nodeOr_name hk)
  obtain ⟨n, hn⟩ : ∃ n, n = nodeOr t (k : Int) := ⟨_, rfl⟩
  rw [← hn] at HNL HNM
  have HN := Lib.hid hn
  rw [← hX] at HX
  clear h hT hn
  go_enter Try.func41, Try.ntmps41
  go_upto_region 1 with fail
  rw [zroot_lit, ← hX]
  generalize w.alloc (.cells (bv zero32).toArray 24) = w1 at HB HX HT HC ⊢
  clear hb1 hX
  have c0 := HC.out
  go_wp2_with fail
  refine (node_any w1 G tb t most (k : Int) HT.out).mono ?_
  rintro e w2 ⟨rfl, hb2⟩
  rw [← HN.out]
  have HB2 := Lib.hid (HB.out.trans (hb2.mono HB.out.size))
  have HX2 := Lib.hid (HX.out.below hb2 HX.out.lt)
  have HY := Lib.hid (show Blk (w2.alloc (.cells #[.int .u8 0, .int .u8 0, .int .u8 0, .int .u8 0, .int .u8 0, .int .u8 0, .int .u8 0, .int .u8 0, .int .u8 0, .int .u8 0, .int .u8 0, .int .u8 0, .int .u8 0, .int .u8 0, .int .u8 0, .int .u8 0, .int .u8 0, .int .u8 0, .int .u8 0, .int .u8 0, .int .u8 0, .int .u8 0, .int .u8 0, .int .u8 0, .int .u8 0, .int .u8 0, .int .u8 0, .int .u8 0, .int .u8 0, .int .u8 0, .int .u8 0, .int .u8 0, .int .i64 0, .int .i64 0] 51)) w2.heap.size 51 (ndv nd0) from Blk.new w2 51 (ndv nd0).toArray)
  have HX3 := Lib.hid (HX2.out.alloc (.cells #[.int .u8 0, .int .u8 0, .int .u8 0, .int .u8 0, .int .u8 0, .int .u8 0, .int .u8 0, .int .u8 0, .int .u8 0, .int .u8 0, .int .u8 0, .int .u8 0, .int .u8 0, .int .u8 0, .int .u8 0, .int .u8 0, .int .u8 0, .int .u8 0, .int .u8 0, .int .u8 0, .int .u8 0, .int .u8 0, .int .u8 0, .int .u8 0, .int .u8 0, .int .u8 0, .int .u8 0, .int .u8 0, .int .u8 0, .int .u8 0, .int .u8 0, .int .u8 0, .int .i64 0, .int .i64 0] 51))
  have hB3 := HB2.out.alloc HB2.out.size (.cells #[.int .u8 0, .int .u8 0, .int .u8 0, .int .u8 0, .int .u8 0, .int .u8 0, .int .u8 0, .int .u8 0, .int .u8 0, .int .u8 0, .int .u8 0, .int .u8 0, .int .u8 0, .int .u8 0, .int .u8 0, .int .u8 0, .int .u8 0, .int .u8 0, .int .u8 0, .int .u8 0, .int .u8 0, .int .u8 0, .int .u8 0, .int .u8 0, .int .u8 0, .int .u8 0, .int .u8 0, .int .u8 0, .int .u8 0, .int .u8 0, .int .u8 0, .int .u8 0, .int .i64 0, .int .i64 0] 51)
  have HY2 := Lib.hid (HY.out.setRow (ndv n))
  have hne : X ≠ w2.heap.size := by have := HX2.out.lt; omega
  have HX4 := Lib.hid (HX3.out.setRow_other (ndv n).toArray hne)
  have HB4 := Lib.hid (below_row hB3 HB2.out.size (ndv n).toArray)
  have HXF := Lib.hid (HX4.out.setRow (bv n.1))
  have HBF := Lib.hid (below_row HB4.out (show w.heap.size ≤ X by rw [HXe.out]; exact Nat.le_refl _) (bv n.1).toArray)
  have HZL := Lib.hid (show zero32.length = 32 by simp [zero32])
  have HYN := Lib.hid HY2.out.nodeName
  clear hb2 c0 hB3 HX HT HC HB HX2 HX3
  go_wp2_with (first
    | ((with_reducible refine wpList_store_node (.tmp 5) (.tmp 14) ?_ ?_ w2.heap.size nd0 n ?_ ?_ HY.out nd0_len HNL.out ?_); rfl; rfl; rfl; rfl)
    | ((with_reducible refine wpList_load_name (.tmp 16) ?_ ?_ w2.heap.size 0 n.1 ?_ HNL.out HYN.out ?_); rfl; rfl; rfl)
    | ((with_reducible refine wpList_store_name (.tmp 4) (.tmp 17) ?_ ?_ X zero32 n.1 ?_ ?_ HX4.out HZL.out HNL.out ?_); rfl; rfl; rfl; rfl))
  refine ret_name rfl rfl HXF.out HNL.out rfl ?_
  exact ⟨by rw [HNM.out], HBF.out⟩
end Go.Proofs.Ytjodhagjfjgbcaa

/-
  better: which of two children weighs more, or has the greater name.
-/
namespace Go.Proofs.Ytjodhagjfjgbcaa
open Go Go.RowKit
set_option maxRecDepth 10000

theorem better_none (w : World) (b : Option Addr) (p : Int) :
    Calls Try.prog 60 #[.pointer b, .int .i64 p, .int .i64 (-1)] w fun e w' => e = .returned (.bool true) ∧ Below w.heap.size w w' := by
  go_enter Try.func60, Try.ntmps60
  go_wp2_with fail
  go_ret
  exact ⟨rfl, Below.refl _ _⟩

/-- Whether the one that weighs x is better than the one that weighs y. -/
def btB (x y : Int) (r s : List UInt8) : Bool := decide (y < x) || (decide (x = y) && lessB s r)

set_option maxHeartbeats 4000000 in
theorem better_any (w : World) (G : List Nat) (tb : Nat) (t : List Nd) (most : Int) (F : List Nat) (b p q : Nat) (own sums best : List Int) (x y : Int) (hT : Tre w G tb t most) (h : Wgt w F b tb own sums best) (hp : p < t.length) (hq : q < t.length) (hx : sums[p]? = some x) (hy : sums[q]? = some y) :
    Calls Try.prog 60 #[.pointer (some ⟨b, 0, none⟩), .int .i64 (p : Int), .int .i64 (q : Int)] w fun e w' => e = .returned (.bool (btB x y (pnm t (p : Int)) (pnm t (q : Int)))) ∧ Below w.heap.size w w' := by
  have HW := Lib.hid h
  obtain ⟨a1, a2, a3, c1, c2, c3, g1, g2, g3, o1, o2, o3, h⟩ := h.open
  obtain ⟨ha, e1⟩ := lies_z h.l2 hx
  obtain ⟨_, e2⟩ := lies_z h.l2 hy
  subst ha
  have k2 := h.cell2
  have hpl : p < sums.length := (List.getElem?_eq_some_iff.1 hx).1
  have hql : q < sums.length := (List.getElem?_eq_some_iff.1 hy).1
  have d1 : ¬ ((q : Int) = -1) := by omega
  have d2 : ((q : Int) == -1) = false := by simp [d1]
  have d3 : (0 : Int) ≤ (p : Int) := by omega
  have d4 : (p : Int) < (sums.length : Int) := by omega
  have d5 : (0 : Int) ≤ (q : Int) := by omega
  have d6 : (q : Int) < (sums.length : Int) := by omega
  have HT := Lib.hid hT
  have HPQ := Lib.hid (And.intro hp hq)
  have HGL := Lib.hid (And.intro (hT.1.pnm_len (p : Int)) (hT.1.pnm_len (q : Int)))
  clear h hT hx hy hp hq
  go_enter Try.func60, Try.ntmps60
  by_cases hxy : x = y
  · subst hxy
    have d7 : (x == x) = true := by simp
    go_upto_region 3 with fail
    go_quiet (fail)
    have HW2 := Lib.hid (HW.out.below (below_dN (Below.refl _ _) nq))
    have HT2 := Lib.hid (HT.out.below (below_dN (Below.refl _ _) nq))
    have HB2 := Lib.hid (below_dN (Below.refl w.heap.size w) nq)
    generalize w.drewN nq = w2 at HW2 HT2 HB2 ⊢
    clear e1 e2 k2
    go_wp2_with fail
    refine (wname_any w2 G tb t most F b q own sums best HT2.out HW2.out HPQ.out.2).mono ?_
    rintro e w3 ⟨rfl, hb3⟩
    have HW3 := Lib.hid (HW2.out.below hb3)
    have HT3 := Lib.hid (HT2.out.below hb3)
    have HB3 := Lib.hid (HB2.out.trans (hb3.mono HB2.out.size))
    clear hb3
    go_wp2_with fail
    refine (wname_any w3 G tb t most F b p own sums best HT3.out HW3.out HPQ.out.1).mono ?_
    rintro e w4 ⟨rfl, hb4⟩
    have HB4 := Lib.hid (HB3.out.trans (hb4.mono HB3.out.size))
    clear hb4
    go_wp2_with fail
    refine (less_any w4 (pnm t (q : Int)) (pnm t (p : Int)) HGL.out.2 HGL.out.1).mono ?_
    rintro e w5 ⟨rfl, hb5⟩
    have HB5 := Lib.hid (HB4.out.trans (hb5.mono HB4.out.size))
    clear hb5
    go_wp2_with fail
    go_ret
    exact ⟨by simp [btB], HB5.out⟩
  · have d7 : (x == y) = false := by simp [hxy]
    go_upto_region 3 with fail
    go_quiet (fail)
    have f1 : (w.drewN nq).cell? ⟨g2, o2 + p, none⟩ = some (.int .i64 x) := e1
    have f2 : (w.drewN nq).cell? ⟨g2, o2 + q, none⟩ = some (.int .i64 y) := e2
    have f3 : (w.drewN nq).cell? ⟨b, 2, none⟩ = some (.slice (some ⟨g2, o2, none⟩) sums.length c2) := k2
    have HB2 := Lib.hid (below_dN (Below.refl w.heap.size w) nq)
    generalize w.drewN nq = w2 at f1 f2 f3 HB2 ⊢
    clear e1 e2 k2 HW HT
    go_upto_region 4 with fail
    go_quiet (fail)
    go_wp2_with fail
    go_ret
    exact ⟨by simp [btB, hxy], below_dN HB2.out _⟩
end Go.Proofs.Ytjodhagjfjgbcaa

/-
  rank: what each block weighs, and which child is its best one, worked out from the last place to the first.
-/
namespace Go.Proofs.Ytjodhagjfjgbcaa
open Go Go.RowKit
set_option maxRecDepth 10000

def RkRel (w : World) (F : List Nat) (b tb : Nat) (t : List Nd) (own : List Int) (p : Nat) (wr : World) : Prop := ∃ F', Wgt wr F' b tb own (sumsL t own p) (bestsL t own p) ∧ Kept F w wr ∧ NewF w F F'
theorem btB_is (t : List Nd) (own : List Int) (p q : Nat) : btB (wtW t own p) (wtW t own q) (pnm t (p : Int)) (pnm t (q : Int)) = btW t own p q := rfl
theorem nodeOr_par {t : List Nd} {k : Nat} (h : k < t.length) : (nodeOr t (k : Int)).2.2 = parW t k := by
  simp [nodeOr, parW, nodeAt_nat, List.getElem?_eq_getElem h]
theorem measD (p : Nat) (x : Int) (hx : x = (p : Int) - 1) (h : 0 < p) : (intOf (.int .i64 x)).toNat < (intOf (.int .i64 (p : Int))).toNat := by
  subst hx
  simp only [intOf]
  omega

set_option maxHeartbeats 8000000 in
theorem rank_any (w : World) (G : List Nat) (tb : Nat) (t : List Nd) (most : Int) (F : List Nat) (b : Nat) (own s0 b0 : List Int) (hT : Tre w G tb t most) (h : Wgt w F b tb own s0 b0) (hA : Away G F) (hl : own.length ≤ t.length) (h0 : 0 < own.length) (hO : OwnG own) :
    Calls Try.prog 51 #[.pointer (some ⟨b, 0, none⟩)] w fun e w' => e = .returned (.tuple #[]) ∧ ∃ F', Wgt w' F' b tb own (wtsL t own) (bssL t own) ∧ Kept F w w' ∧ NewF w F F' := by
  have htl : t.length ≤ 256 := by have := hT.1.room; have := hT.1.most256; omega
  have HGD := Lib.hid hT.1
  have HT := Lib.hid hT
  have HAW := Lib.hid hA
  have HOG := Lib.hid hO
  have HLO := Lib.hid h.low
  obtain ⟨a1, a2, a3, c1, c2, c3, g1, g2, g3, o1, o2, o3, h⟩ := h.open
  have k1 := h.cell1
  have k2 := h.cell2
  have f2 := h.blk.free 2
  have hle : own.length ≤ 1000 := by omega
  have HH := Lib.hid h
  have HB := Lib.hid (h.inF1)
  clear hT h hA hO
  go_enter Try.func51, Try.ntmps51
  go_wp2_with fail
  refine (clone_ints w a1 c1 g1 o1 own h0 hle HH.out.l1).mono ?_
  rintro e w1 ⟨v1, rfl, hv1, hb1⟩
  obtain ⟨ao1, n1, cap1, e1⟩ : ∃ ao n cap, v1 = .slice ao n cap := by
    obtain ⟨n', cap', g', off', ao', hu, _⟩ := hv1
    exact ⟨_, _, _, hu⟩
  subst e1
  have k2' := (HH.out.below hb1).cell2
  have f2' := (HH.out.below hb1).blk.free 2
  have hst := HH.out.sums1 hb1 hv1 h0
  have HST := Lib.hid hst
  clear hst hv1 hb1 k1 k2 f2
  go_upto_region 1 with fail
  obtain ⟨F2, hF2⟩ : ∃ F2, F2 = ownL (.slice ao1 n1 cap1) ++ F := ⟨_, rfl⟩
  rw [← hF2] at HST
  generalize w1.setCell ⟨b, 2, none⟩ (.slice ao1 n1 cap1) = w2 at HST ⊢
  have HK2 := Lib.hid HST.out.2.1
  have HN2 := Lib.hid HST.out.2.2
  have hw2 := HST.out.1
  clear HST hF2 k2' f2' HH HB
  obtain ⟨a1, a2, a3, c1, c2, c3, g1, g2, g3, o1, o2, o3, h2⟩ := hw2.open
  have hb3 : Below w2.heap.size w2 (w2.alloc (.cells #[.int .i64 (-1)] 3)) := (Below.refl _ _).alloc (Nat.le_refl _) _
  have HH2 := Lib.hid h2
  have k1 := (h2.below hb3).cell1
  have HL3 := Lib.hid (show Lies (w2.alloc (.cells #[.int .i64 (-1)] 3)) (w2.alloc (.cells #[.int .i64 (-1)] 3)).heap.size (some ⟨w2.heap.size, 0, none⟩) w2.heap.size 0 (zv [-1]) from
    ⟨fun _ => rfl, fun _ => by simp, fun j u hj => by rw [Nat.zero_add, (Blk.new w2 3 #[.int .i64 (-1)]).cell]; exact hj⟩)
  have HB3 := Lib.hid hb3
  clear hw2 h2 hb3
  go_wp2_with fail
  refine (repeat_ints (w2.alloc (.cells #[.int .i64 (-1)] 3)) (-1) w2.heap.size own.length h0 hle HL3.out).mono ?_
  rintro e w4 ⟨v4, rfl, hv4, hb4⟩
  obtain ⟨ao4, n4, cap4, e4⟩ : ∃ ao n cap, v4 = .slice ao n cap := by
    obtain ⟨n', cap', g', off', ao', hu, _⟩ := hv4
    exact ⟨_, _, _, hu⟩
  subst e4
  have hb24 : Below w2.heap.size w2 w4 := HB3.out.trans (hb4.mono HB3.out.size)
  have k3' := (HH2.out.below hb24).cell3
  have f3' := (HH2.out.below hb24).blk.free 3
  have hst := HH2.out.best1 hb24 (hv4.mono HB3.out.size) (show 0 < (List.replicate own.length (-1 : Int)).length by rw [List.length_replicate]; exact h0)
  have HST := Lib.hid hst
  clear hst hv4 hb4 hb24 k1 HL3 HB3
  go_upto_region 2 with fail
  obtain ⟨F4, hF4⟩ : ∃ F4, F4 = ownL (.slice ao4 n4 cap4) ++ F2 := ⟨_, rfl⟩
  rw [← hF4] at HST
  generalize w4.setCell ⟨b, 3, none⟩ (.slice ao4 n4 cap4) = w5 at HST ⊢
  have HK5 := Lib.hid (HK2.out.trans HST.out.2.1 HN2.out)
  have HN5 := Lib.hid (HN2.out.trans HST.out.2.2 HK2.out.size)
  have HW5 := Lib.hid HST.out.1
  clear HST hF4 k3' f3' HH2 HK2 HN2
  obtain ⟨a1, a2, a3, c1, c2, c3, g1, g2, g3, o1, o2, o3, h5⟩ := HW5.out.open
  have k1 := h5.cell1
  have HS := Lib.hid (show wrap64 ((own.length : Int) - 1) = ((own.length - 1 : Nat) : Int) by unfold wrap64; omega)
  clear h5
  go_wp2_with fail
  go_loopw [2] (fun i wr => ∃ p : Nat, p < own.length ∧ i = .int .i64 p ∧ Hid (RkRel w F b tb t own p wr)) (fun i _ => (intOf i).toNat)
  case atStart =>
    refine ⟨own.length - 1, by omega, by first | (rw [HS.out]) | (congr 1; omega), Lib.hid ⟨F4, ?_, HK5.out, HN5.out⟩⟩
    rw [sumsL_start (by omega), bestsL_start (by omega)]
    exact HW5.out
  case round =>
    clear HW5 HK5 HN5 HS k1
    obtain ⟨p, hp, rfl, HRK⟩ := hrel
    obtain ⟨F', hw, hk, hn⟩ := HRK.out
    have HW := Lib.hid hw
    have HK := Lib.hid hk
    have HN := Lib.hid hn
    clear hw hk hn HRK
    by_cases hp0 : 0 < p
    · obtain ⟨q, hq, hqp⟩ := HGD.out.parW_pos hp0 (show p < t.length by omega)
      have HNL := Lib.hid (HGD.out.nds.nodeOr (p : Int))
      have HPQ := Lib.hid (show (nodeOr t (p : Int)).2.2 = (q : Int) by rw [nodeOr_par (by omega), hq])
      obtain ⟨n, hn⟩ : ∃ n, n = nodeOr t (p : Int) := ⟨_, rfl⟩
      rw [← hn] at HNL HPQ
      have HNE := Lib.hid hn
      clear hn
      obtain ⟨a1, a2, a3, c1, c2, c3, g1, g2, g3, o1, o2, o3, hs⟩ := HW.out.open
      have c0 := hs.cell0
      have HS := Lib.hid hs
      have HLW := Lib.hid hs.slp.low
      have HPM := Lib.hid (show wrap64 ((p : Int) - 1) = ((p - 1 : Nat) : Int) by unfold wrap64; omega)
      clear hs
      go_wp2_with fail
      refine (node_any wr G tb t most (p : Int) (HT.out.keep HK.out HAW.out)).mono ?_
      rintro e w6 ⟨rfl, hb6⟩
      rw [← HNE.out]
      have HY6 := Lib.hid (show Blk (w6.alloc (.cells #[.int .u8 0, .int .u8 0, .int .u8 0, .int .u8 0, .int .u8 0, .int .u8 0, .int .u8 0, .int .u8 0, .int .u8 0, .int .u8 0, .int .u8 0, .int .u8 0, .int .u8 0, .int .u8 0, .int .u8 0, .int .u8 0, .int .u8 0, .int .u8 0, .int .u8 0, .int .u8 0, .int .u8 0, .int .u8 0, .int .u8 0, .int .u8 0, .int .u8 0, .int .u8 0, .int .u8 0, .int .u8 0, .int .u8 0, .int .u8 0, .int .u8 0, .int .u8 0, .int .i64 0, .int .i64 0] 51)) w6.heap.size 51 (ndv nd0) from Blk.new w6 51 (ndv nd0).toArray)
      have hB7 : Below wr.heap.size wr ((w6.alloc (.cells #[.int .u8 0, .int .u8 0, .int .u8 0, .int .u8 0, .int .u8 0, .int .u8 0, .int .u8 0, .int .u8 0, .int .u8 0, .int .u8 0, .int .u8 0, .int .u8 0, .int .u8 0, .int .u8 0, .int .u8 0, .int .u8 0, .int .u8 0, .int .u8 0, .int .u8 0, .int .u8 0, .int .u8 0, .int .u8 0, .int .u8 0, .int .u8 0, .int .u8 0, .int .u8 0, .int .u8 0, .int .u8 0, .int .u8 0, .int .u8 0, .int .u8 0, .int .u8 0, .int .i64 0, .int .i64 0] 51)).setRow w6.heap.size (ndv n).toArray) := below_row (hb6.alloc hb6.size _) hb6.size _
      have HY7 := Lib.hid (HY6.out.setRow (ndv n))
      have HS7 := Lib.hid (HS.out.below hB7)
      have HK7 := Lib.hid (HK.out.then hB7)
      clear hB7 c0 HS HW HK
      go_upto_region 6 with ((with_reducible refine wpList_store_node (.tmp 3) (.tmp 40) ?_ ?_ w6.heap.size nd0 n ?_ ?_ HY6.out nd0_len HNL.out ?_); rfl; rfl; rfl; rfl)
      obtain ⟨Y, hY⟩ : ∃ Y, Y = w6.heap.size := ⟨_, rfl⟩
      have HYL := Lib.hid (show Y ∉ F' from fun hm => by have := HLW.out Y hm; have := hb6.size; omega)
      rw [← hY] at HY7 ⊢
      rw [← hY] at HS7 HK7
      generalize (w6.alloc (.cells #[.int .u8 0, .int .u8 0, .int .u8 0, .int .u8 0, .int .u8 0, .int .u8 0, .int .u8 0, .int .u8 0, .int .u8 0, .int .u8 0, .int .u8 0, .int .u8 0, .int .u8 0, .int .u8 0, .int .u8 0, .int .u8 0, .int .u8 0, .int .u8 0, .int .u8 0, .int .u8 0, .int .u8 0, .int .u8 0, .int .u8 0, .int .u8 0, .int .u8 0, .int .u8 0, .int .u8 0, .int .u8 0, .int .u8 0, .int .u8 0, .int .u8 0, .int .u8 0, .int .i64 0, .int .i64 0] 51)).setRow Y (ndv n).toArray = w7 at HY7 HS7 HK7 ⊢
      clear hb6 HY6 HLW hY
      obtain ⟨x, hx⟩ : ∃ x, x = stW t own p q := ⟨_, rfl⟩
      obtain ⟨y, hy⟩ : ∃ y, y = wtW t own p := ⟨_, rfl⟩
      have hxb := HGD.out.stW_le HOG.out p q
      have hxs := HGD.out.stW_le HOG.out (p - 1) q
      rw [HGD.out.stW_step hp0 hp, hq, if_pos rfl] at hxs
      have hxl := wtW_lt HOG.out t q
      have hyp := HGD.out.stW_self own (Nat.le_refl p)
      rw [← hx] at hxb hxs
      rw [← hy] at hxs hyp
      have hadd : wrap64 (x + y) = x + y := by unfold wrap64; omega
      have HADD := Lib.hid hadd
      have HX := Lib.hid hx
      have HYY := Lib.hid hy
      have hN1 : q < own.length := by omega
      have s1 := sumsL_at (t := t) (p := p) hN1
      have s2 := sumsL_at (t := t) (p := p) hp
      rw [← hx] at s1
      rw [hyp] at s2
      obtain ⟨ha2, e1⟩ := lies_z HS7.out.l2 s1
      obtain ⟨_, e2⟩ := lies_z HS7.out.l2 s2
      subst ha2
      have k2 := HS7.out.cell2
      have kp := HY7.out.nodeParent HNL.out
      rw [HPQ.out] at kp
      have d1 : (0 : Int) ≤ (q : Int) := by omega
      have d2 : (q : Int) < ((sumsL t own p).length : Int) := by rw [sumsL_length]; omega
      have d3 : (0 : Int) ≤ (p : Int) := by omega
      have d4 : (p : Int) < ((sumsL t own p).length : Int) := by rw [sumsL_length]; omega
      have d5 : q < (sumsL t own p).length := by rw [sumsL_length]; omega
      have d6 : p < (sumsL t own p).length := by rw [sumsL_length]; omega
      clear hx hy hxb hxs hxl hyp s1 s2
      refine wp_region_draws_tail 17 (by kernel_rfl) (by kernel_rfl) ?_
      simp only [List.take_succ_cons, List.take_zero, List.drop_succ_cons, List.drop_zero]
      repeat (go_big_quiet_step (fail))
      refine wpQuiet_nil ?_
      rintro _ ⟨nq, rfl⟩
      have HS8 := Lib.hid (HS7.out.below (below_dN (Below.refl _ _) nq))
      have HK8 := Lib.hid (HK7.out.drewN nq)
      have HY8 := Lib.hid (HY7.out.drewN nq)
      generalize w7.drewN nq = w8 at HS8 HK8 HY8 ⊢
      clear e1 e2 k2 kp HS7 HK7 HY7
      have hset := HS8.out.setSum (j := q) d5 (x + y)
      have f2 := lies_free HS8.out (j := q) d5
      have e1 : w8.cell? ⟨g2, o2 + q, none⟩ = some (.int .i64 x) := (lies_z HS8.out.l2 (by rw [sumsL_at hN1, HX.out])).2
      have hW9 : Wgt (w8.setCell ⟨g2, o2 + q, none⟩ (.int .i64 (x + y))) F' b tb own (sumsL t own (p - 1)) (bestsL t own p) := by
        have := hset.1
        rw [HX.out, HYY.out, HGD.out.sumsL_step hp0 hp hq] at this
        rw [HX.out, HYY.out]
        exact this
      have HW9 := Lib.hid hW9
      have HK9 := Lib.hid (HK8.out.trans hset.2 HN.out)
      have HY9 := Lib.hid (HY8.out.kept (F := F') hset.2 HYL.out)
      clear hset hW9 HS8 HK8 HY8
      go_upto_region 7 with fail
      generalize w8.setCell ⟨g2, o2 + q, none⟩ (.int .i64 (x + y)) = w9 at HW9 HK9 HY9 ⊢
      clear f2 e1 hadd HADD HX HYY
      obtain ⟨a1, a2, a3, c1, c2, c3, g1, g2, g3, o1, o2, o3, h9⟩ := HW9.out.open
      have sq := bestsL_at (t := t) (p := p) hN1
      obtain ⟨ha3, e3⟩ := lies_z h9.l3 sq
      subst ha3
      have k3 := h9.cell3
      have kp := HY9.out.nodeParent HNL.out
      rw [HPQ.out] at kp
      have d7 : (q : Int) < ((bestsL t own p).length : Int) := by rw [bestsL_length]; omega
      have d8 : q < (bestsL t own p).length := by rw [bestsL_length]; omega
      clear h9 sq
      rcases HGD.out.bdW_place hl p q with hbd | ⟨k, hbd, hpk, hkN, hkp⟩
      · rw [hbd] at e3
        have HBD := Lib.hid hbd
        clear hbd
        refine wp_region_draws_tail 10 (by kernel_rfl) (by kernel_rfl) ?_
        simp only [List.take_succ_cons, List.take_zero, List.drop_succ_cons, List.drop_zero]
        repeat (go_big_quiet_step (fail))
        refine wpQuiet_nil ?_
        rintro _ ⟨nq, rfl⟩
        have HWq := Lib.hid (HW9.out.below (below_dN (Below.refl _ _) nq))
        have HKq := Lib.hid (HK9.out.drewN nq)
        have HYq := Lib.hid (HY9.out.drewN nq)
        generalize w9.drewN nq = wq at HWq HKq HYq ⊢
        clear e3 k3 kp HW9 HK9 HY9
        go_wp2_with fail
        refine (better_none wq (some ⟨b, 0, none⟩) (p : Int)).mono ?_
        rintro e wA ⟨rfl, hbA⟩
        have HWA := Lib.hid (HWq.out.below hbA)
        have HKA := Lib.hid (HKq.out.then hbA)
        have HYA := Lib.hid (HYq.out.below hbA HYq.out.lt)
        clear hbA HWq HKq HYq
        have HIT := Lib.hid (show bdW t own p q < 0 ∨ btW t own p (bdW t own p q).toNat = true from .inl (by rw [HBD.out]; decide))
        go_upto_region 8 with fail
        have kp := HYA.out.nodeParent HNL.out
        rw [HPQ.out] at kp
        obtain ⟨a1, a2, a3, c1, c2, c3, g1, g2, g3, o1, o2, o3, hA⟩ := HWA.out.open
        have sq := bestsL_at (t := t) (p := p) hN1
        obtain ⟨ha3, e3⟩ := lies_z hA.l3 sq
        subst ha3
        have k3 := hA.cell3
        have HHA := Lib.hid hA
        clear hA e3 sq
        refine wp_region_draws_tail 8 (by kernel_rfl) (by kernel_rfl) ?_
        simp only [List.take_succ_cons, List.take_zero, List.drop_succ_cons, List.drop_zero]
        repeat (go_big_quiet_step (fail))
        refine wpQuiet_nil ?_
        rintro _ ⟨nq2, rfl⟩
        have HHB := Lib.hid (HHA.out.below (below_dN (Below.refl _ _) nq2))
        have HKB := Lib.hid (HKA.out.drewN nq2)
        generalize wA.drewN nq2 = wB at HHB HKB ⊢
        clear kp k3 HHA HKA HYA HWA
        have hset := HHB.out.setBest (j := q) d8 (p : Int)
        have f4 := lies_free3 HHB.out (j := q) d8
        have e4 := (lies_z HHB.out.l3 (bestsL_at (t := t) (p := p) hN1)).2
        have HFIN := Lib.hid (show Wgt (wB.setCell ⟨g3, o3 + q, none⟩ (.int .i64 (p : Int))) F' b tb own (sumsL t own (p - 1)) (bestsL t own (p - 1)) by
          have := hset.1
          rw [HGD.out.bestsL_hit hp0 hp hq HIT.out] at this
          exact this)
        have HKF := Lib.hid (HKB.out.trans hset.2 HN.out)
        clear hset HHB HKB
        go_wp2_with fail
        go_roundw
        case rel => exact ⟨p - 1, by omega, by first | (rw [HPM.out]) | (congr 1; omega), Lib.hid ⟨F', HFIN.out, HKF.out, HN.out⟩⟩
        case measure => exact measD p _ (by first | (rw [HPM.out]; omega) | omega) hp0
      · rw [hbd] at e3
        have HBD := Lib.hid hbd
        clear hbd
        refine wp_region_draws_tail 10 (by kernel_rfl) (by kernel_rfl) ?_
        simp only [List.take_succ_cons, List.take_zero, List.drop_succ_cons, List.drop_zero]
        repeat (go_big_quiet_step (fail))
        refine wpQuiet_nil ?_
        rintro _ ⟨nq, rfl⟩
        have HWq := Lib.hid (HW9.out.below (below_dN (Below.refl _ _) nq))
        have HKq := Lib.hid (HK9.out.drewN nq)
        have HYq := Lib.hid (HY9.out.drewN nq)
        generalize w9.drewN nq = wq at HWq HKq HYq ⊢
        clear e3 k3 kp HW9 HK9 HY9
        go_wp2_with fail
        refine (better_any wq G tb t most F' b p k own (sumsL t own (p - 1)) (bestsL t own p) (wtW t own p) (wtW t own k) (HT.out.keep HKq.out HAW.out) HWq.out (by omega) (by omega) (by rw [sumsL_at hp, HGD.out.stW_self own (by omega)]) (by rw [sumsL_at hkN, HGD.out.stW_self own (by omega)])).mono ?_
        rintro e wA ⟨rfl, hbA⟩
        have HWA := Lib.hid (HWq.out.below hbA)
        have HKA := Lib.hid (HKq.out.then hbA)
        have HYA := Lib.hid (HYq.out.below hbA HYq.out.lt)
        clear hbA HWq HKq HYq
        rw [btB_is]
        obtain ⟨B, hB⟩ : ∃ B, btW t own p k = B := ⟨_, rfl⟩
        rw [hB]
        have HBB := Lib.hid hB
        clear hB
        cases B with
        | true =>
          have HIT := Lib.hid (show bdW t own p q < 0 ∨ btW t own p (bdW t own p q).toNat = true from .inr (by rw [HBD.out, Int.toNat_natCast]; exact HBB.out))
          go_upto_region 8 with fail
          have kp := HYA.out.nodeParent HNL.out
          rw [HPQ.out] at kp
          obtain ⟨a1, a2, a3, c1, c2, c3, g1, g2, g3, o1, o2, o3, hA⟩ := HWA.out.open
          have sq := bestsL_at (t := t) (p := p) hN1
          obtain ⟨ha3, e3⟩ := lies_z hA.l3 sq
          subst ha3
          have k3 := hA.cell3
          have HHA := Lib.hid hA
          clear hA e3 sq
          refine wp_region_draws_tail 8 (by kernel_rfl) (by kernel_rfl) ?_
          simp only [List.take_succ_cons, List.take_zero, List.drop_succ_cons, List.drop_zero]
          repeat (go_big_quiet_step (fail))
          refine wpQuiet_nil ?_
          rintro _ ⟨nq2, rfl⟩
          have HHB := Lib.hid (HHA.out.below (below_dN (Below.refl _ _) nq2))
          have HKB := Lib.hid (HKA.out.drewN nq2)
          generalize wA.drewN nq2 = wB at HHB HKB ⊢
          clear kp k3 HHA HKA HYA HWA
          have hset := HHB.out.setBest (j := q) d8 (p : Int)
          have f4 := lies_free3 HHB.out (j := q) d8
          have e4 := (lies_z HHB.out.l3 (bestsL_at (t := t) (p := p) hN1)).2
          have HFIN := Lib.hid (show Wgt (wB.setCell ⟨g3, o3 + q, none⟩ (.int .i64 (p : Int))) F' b tb own (sumsL t own (p - 1)) (bestsL t own (p - 1)) by
            have := hset.1
            rw [HGD.out.bestsL_hit hp0 hp hq HIT.out] at this
            exact this)
          have HKF := Lib.hid (HKB.out.trans hset.2 HN.out)
          clear hset HHB HKB
          go_wp2_with fail
          go_roundw
          case rel => exact ⟨p - 1, by omega, by first | (rw [HPM.out]) | (congr 1; omega), Lib.hid ⟨F', HFIN.out, HKF.out, HN.out⟩⟩
          case measure => exact measD p _ (by first | (rw [HPM.out]; omega) | omega) hp0
        | false =>
          have HFIN := Lib.hid (show Wgt wA F' b tb own (sumsL t own (p - 1)) (bestsL t own (p - 1)) by
            have := HWA.out
            rw [HGD.out.bestsL_miss hp0 hp hq (by rw [HBD.out, Int.toNat_natCast, HBB.out]; intro hh; rcases hh with hh | hh; omega; cases hh)] at this
            exact this)
          have HKF := HKA
          go_wp2_with fail
          go_roundw
          case rel => exact ⟨p - 1, by omega, by first | (rw [HPM.out]) | (congr 1; omega), Lib.hid ⟨F', HFIN.out, HKF.out, HN.out⟩⟩
          case measure => exact measD p _ (by first | (rw [HPM.out]; omega) | omega) hp0
    · obtain rfl : p = 0 := by omega
      go_wp2_with fail
      go_end0
      obtain ⟨a1, a2, a3, c1, c2, c3, g1, g2, g3, o1, o2, o3, hs⟩ := HW.out.open
      exact ⟨rfl, F', by rw [← HGD.out.sumsL_end, ← HGD.out.bestsL_end hl]; exact HW.out, HK.out, HN.out⟩
end Go.Proofs.Ytjodhagjfjgbcaa

/-
  The document's own weights (tollerref11) in memory: the tree's pointer, own weights, how many blocks are known.
-/
namespace Go.Proofs.Ytjodhagjfjgbcaa
open Go Go.RowKit
set_option maxRecDepth 10000

/-- The document's weights at block b, of its tree at block tb; so many are known. -/
def RWk (w : World) (F : List Nat) (b tb : Nat) (own : List Int) (known : Nat) : Prop := ∃ v, Slp w F b 47 [.pointer (some ⟨tb, 0, none⟩)] [(1, v, zv own)] [.int .i64 (known : Int)]
section
variable {w w' : World} {F G : List Nat} {b tb known : Nat} {own : List Int}
theorem RWk.keep (h : RWk w F b tb own known) (hk : Kept G w w') (hF : Away F G) : RWk w' F b tb own known := by
  obtain ⟨v, h⟩ := h
  exact ⟨v, h.keep hk hF⟩
theorem RWk.below (h : RWk w F b tb own known) (hb : Below w.heap.size w w') : RWk w' F b tb own known := h.keep (Kept.of_below [] hb) (fun _ _ hx => by cases hx)
theorem RWk.low (h : RWk w F b tb own known) : Low w F := by
  obtain ⟨v, h⟩ := h
  exact h.low
end
structure RWs (w : World) (F : List Nat) (b tb : Nat) (own : List Int) (known : Nat) (a1 : Option Addr) (c1 g1 o1 : Nat) : Prop where
  slp : Slp w F b 47 [.pointer (some ⟨tb, 0, none⟩)] [(1, .slice a1 own.length c1, zv own)] [.int .i64 (known : Int)]
  l1 : Lies w w.heap.size a1 g1 o1 (zv own)
theorem RWk.open {w : World} {F : List Nat} {b tb known : Nat} {own : List Int} (h : RWk w F b tb own known) : ∃ a1 c1 g1 o1, RWs w F b tb own known a1 c1 g1 o1 := by
  obtain ⟨v1, h⟩ := h
  have w1 := h.wide (1, v1, zv own) (by simp)
  obtain ⟨a1, n1, c1, g1, o1, rfl, e1, l1⟩ := w1.lies
  rw [zv_length] at e1
  obtain rfl : n1 = own.length := by omega
  exact ⟨a1, c1, g1, o1, h, l1⟩
section
variable {w w' : World} {F : List Nat} {b tb known : Nat} {own : List Int} {a1 : Option Addr} {c1 g1 o1 : Nat}
theorem RWs.rwk (h : RWs w F b tb own known a1 c1 g1 o1) : RWk w F b tb own known := ⟨_, h.slp⟩
theorem RWs.below (h : RWs w F b tb own known a1 c1 g1 o1) (hb : Below w.heap.size w w') : RWs w' F b tb own known a1 c1 g1 o1 := ⟨h.slp.below hb, h.l1.below hb⟩
theorem RWs.blk (h : RWs w F b tb own known a1 c1 g1 o1) : Blk w b 47 [.pointer (some ⟨tb, 0, none⟩), .slice a1 own.length c1, .int .i64 (known : Int)] := h.slp.blk
theorem RWs.cell0 (h : RWs w F b tb own known a1 c1 g1 o1) : w.cell? ⟨b, 0, none⟩ = some (.pointer (some ⟨tb, 0, none⟩)) := h.blk.cell 0
theorem RWs.cell1 (h : RWs w F b tb own known a1 c1 g1 o1) : w.cell? ⟨b, 1, none⟩ = some (.slice a1 own.length c1) := h.blk.cell 1
theorem RWs.cell2 (h : RWs w F b tb own known a1 c1 g1 o1) : w.cell? ⟨b, 2, none⟩ = some (.int .i64 (known : Int)) := h.blk.cell 2
theorem RWs.wide1 (h : RWs w F b tb own known a1 c1 g1 o1) : Wide 1 w 0 (.slice a1 own.length c1) (zv own) := h.slp.wide (1, _, zv own) (by simp)
theorem RWs.nb1 (h : RWs w F b tb own known a1 c1 g1 o1) : b ∉ ownL (.slice a1 own.length c1) := fun hx => h.slp.nb _ (show (1, _, zv own) ∈ _ by simp) (mem_ownL.1 hx)
theorem RWs.inF1 (h : RWs w F b tb own known a1 c1 g1 o1) : ∀ x ∈ ownL (.slice a1 own.length c1), x ∈ F := fun x hx => h.slp.inv (1, .slice a1 own.length c1, zv own) (by simp) x (mem_ownL.1 hx)
theorem RWs.own1 (h : RWs w F b tb own known a1 c1 g1 o1) {v' : Value} {own' : List Int} (hk : Kept (ownL (.slice a1 own.length c1)) w w') (hw : Wide 1 w' 0 v' (zv own')) (h0 : 0 < own'.length)
    (ho : v'.ownBlock = (Value.slice a1 own.length c1).ownBlock ∨ ∃ j, v'.ownBlock = some j ∧ w.heap.size ≤ j) :
    RWk (w'.setCell ⟨b, 1, none⟩ v') (ownL v' ++ F) b tb own' known ∧ Kept F w (w'.setCell ⟨b, 1, none⟩ v') ∧ NewF w F (ownL v' ++ F) := by
  have := h.slp.stored (i := 0) rfl hk hw (by rw [zv_length]; exact h0) ho
  exact ⟨⟨v', this.1⟩, this.2⟩
theorem RWs.own2 (h : RWs w F b tb own known a1 c1 g1 o1) {v' : Value} {own' : List Int} (hb : Below w.heap.size w w') (hw : Wide 1 w' w.heap.size v' (zv own')) (h0 : 0 < own'.length) :
    RWk (w'.setCell ⟨b, 1, none⟩ v') (ownL v' ++ F) b tb own' known ∧ Kept F w (w'.setCell ⟨b, 1, none⟩ v') ∧ NewF w F (ownL v' ++ F) :=
  h.own1 (Kept.of_below _ hb) (hw.mono (Nat.zero_le _)) h0 (.inr (wide_owned hw (by rw [zv_length]; exact h0)))
theorem RWs.know (h : RWs w F b tb own known a1 c1 g1 o1) (n : Nat) : RWk (w.setCell ⟨b, 2, none⟩ (.int .i64 (n : Int))) F b tb own n ∧ Kept F w (w.setCell ⟨b, 2, none⟩ (.int .i64 (n : Int))) := by
  have := h.slp.tailed 0 (.int .i64 (n : Int))
  exact ⟨⟨_, this.1⟩, this.2⟩
end
theorem rwk_start (w : World) (tb b g : Nat) (own : List Int) (cap : Nat) (hg : Wide 1 w 0 (.slice (some ⟨g, 0, none⟩) own.length cap) (zv own)) (hgl : g < w.heap.size) (hb : b = w.heap.size) (F : List Nat) (hF : F = [g, b]) (known : Nat) :
    RWk (w.alloc (.cells #[.pointer (some ⟨tb, 0, none⟩), .slice (some ⟨g, 0, none⟩) own.length cap, .int .i64 (known : Int)] 47)) F b tb own known := by
  subst hb; subst hF
  refine ⟨.slice (some ⟨g, 0, none⟩) own.length cap, ?_, fun x hx => ?_, fun x hx => ?_, ?_, by simp, fun x hx k hk => ?_, fun x hx => ?_⟩
  · exact Blk.new w 47 #[.pointer (some ⟨tb, 0, none⟩), .slice (some ⟨g, 0, none⟩) own.length cap, .int .i64 (known : Int)]
  · simp only [List.mem_cons, List.not_mem_nil, or_false] at hx
    subst hx
    exact hg.alloc _
  · simp only [List.mem_cons, List.not_mem_nil, or_false] at hx
    subst hx
    simp [Value.ownBlock]; omega
  · intro i j x y hij hx hy k hk
    have h1 := (List.getElem?_eq_some_iff.1 hx).1
    have h2 := (List.getElem?_eq_some_iff.1 hy).1
    simp at h1 h2
    omega
  · simp only [List.mem_cons, List.not_mem_nil, or_false] at hx
    subst hx
    simp [Value.ownBlock] at hk
    simp [hk]
  · simp at hx ⊢
    omega
end Go.Proofs.Ytjodhagjfjgbcaa

/-
  The document's own weights: New.
-/
namespace Go.Proofs.Ytjodhagjfjgbcaa
open Go Go.RowKit
set_option maxRecDepth 10000

set_option maxHeartbeats 4000000 in
theorem rwnew_any (w : World) (G : List Nat) (m : Nat) (t : List Nd) (most : Int) (hT : Ref w G m t most) :
    Calls Try.prog 34 #[.pointer (some ⟨m, 0, none⟩)] w fun e w' => ∃ F b, e = .returned (.pointer (some ⟨b, 0, none⟩)) ∧ RWk w' F b m (List.replicate t.length 0) t.length ∧ High w.heap.size F ∧ Below w.heap.size w w' := by
  obtain ⟨i0, hi0, hz0, hz1, hz2⟩ := info_parts Try.info3
  have htl : t.length ≤ 256 := by have := hT.1.room; have := hT.1.most256; omega
  have htp := hT.1.pos
  obtain ⟨a1, a2, a3, k1, k2, k3, g1, g2, g3, o1, o2, o3, h⟩ := hT.open
  have HH := Lib.hid h
  have hmk := fun W => run_makeSlice (P := Try.prog) W 42 3 i0 (.int .i64 0) Try.underlying42 hi0 hz0 .i64 .i64 (t.length : Int) (t.length : Int) (by omega) (by omega) (by rw [hz1]; simp; omega) (by rw [hz2]; omega) (by omega)
  simp only [hz1, Nat.mul_one, Int.toNat_natCast] at hmk
  have HMK := Lib.hid hmk
  clear h hmk hT
  go_enter Try.func34, Try.ntmps34
  go_upto_region 1 with fail
  refine wp_region_free (P := Try.prog) 12 (fun w' => Below w.heap.size w w') (fun oq v w' => match oq with
      | 0 => v = .pointer (some ⟨m, 0, none⟩)
      | 1 => v = .pointer (some ⟨m, 0, none⟩)
      | 2 => v = .pointer (some ⟨m, 0, none⟩)
      | 3 => v = .pointer (some ⟨m, 0, none⟩)
      | 4 => v = .slice a1 t.length k1
      | 5 => v = .int .i64 (t.length : Int)
      | 6 => ∃ g, v = .slice (some ⟨g, 0, none⟩) t.length t.length ∧ Blk w' g 3 (zv (List.replicate t.length 0)) ∧ w.heap.size ≤ g
      | 7 => v = .pointer (some ⟨m, 0, none⟩)
      | 8 => v = .pointer (some ⟨m, 0, none⟩)
      | 9 => v = .pointer (some ⟨m, 0, none⟩)
      | 10 => v = .slice a1 t.length k1
      | 11 => v = .int .i64 (t.length : Int)
      | _ => True) (by kernel_rfl) (by kernel_rfl) (Below.refl _ _).drew ?gb ?vb ?steps ?fin
  case gb => exact fun a b h1 h2 => h1.trans (h2.mono h1.size)
  case vb =>
    intro oq v a b h hb
    match oq with
    | 0 => exact h
    | 1 => exact h
    | 2 => exact h
    | 3 => exact h
    | 4 => exact h
    | 5 => exact h
    | 6 => obtain ⟨g, h1, h2, h3⟩ := h; exact ⟨g, h1, h2.below hb h2.lt, h3⟩
    | 7 => exact h
    | 8 => exact h
    | 9 => exact h
    | 10 => exact h
    | 11 => exact h
    | _ + 12 => trivial
  case steps =>
    intro vals
    simp only [List.take_succ_cons, List.take_zero, freeSteps, Act.put, List.setIfInBounds_toArray, List.set_cons_zero, List.set_cons_succ, Nat.reduceAdd]
    refine ⟨fun w8 hG hW => ?_, fun w8 hG hW => ?_, fun w8 hG hW => ?_, fun w8 hG hW => ?_, fun w8 hG hW => ?_, fun w8 hG hW => ?_, fun w8 hG hW => ?_, fun w8 hG hW => ?_, fun w8 hG hW => ?_, fun w8 hG hW => ?_, fun w8 hG hW => ?_, fun w8 hG hW => ?_, trivial⟩
    · clear hW
      refine stepAt_value rfl rfl rfl (.pointer (some ⟨m, 0, none⟩)) w8 ?_ ⟨rfl, Below.refl _ _⟩
      go_simp
    · clear hW
      refine stepAt_value rfl rfl rfl (.pointer (some ⟨m, 0, none⟩)) w8 ?_ ⟨rfl, Below.refl _ _⟩
      go_simp
    · have q1 := hW 1 (by decide)
      simp only at q1
      rw [q1]
      clear hW
      refine stepAt_value rfl rfl rfl (.pointer (some ⟨m, 0, none⟩)) w8 ?_ ⟨rfl, Below.refl _ _⟩
      go_simp
    · have q2 := hW 2 (by decide)
      simp only at q2
      rw [q2]
      clear hW
      refine stepAt_value rfl rfl rfl (.pointer (some ⟨m, 0, none⟩)) w8 ?_ ⟨rfl, Below.refl _ _⟩
      go_simp
    · have q3 := hW 3 (by decide)
      simp only at q3
      rw [q3]
      clear hW
      have cc := (HH.out.below hG).cell0
      refine stepAt_value rfl rfl rfl (.slice a1 t.length k1) w8 ?_ ⟨rfl, Below.refl _ _⟩
      go_simp
    · have q4 := hW 4 (by decide)
      simp only at q4
      rw [q4]
      clear hW
      refine stepAt_value rfl rfl rfl (.int .i64 (t.length : Int)) w8 ?_ ⟨rfl, Below.refl _ _⟩
      go_simp
    · have q5 := hW 5 (by decide)
      simp only at q5
      rw [q5]
      clear hW
      have hmk := HMK.out w8
      refine stepAt_value rfl rfl rfl (.slice (some ⟨w8.heap.size, 0, none⟩) t.length t.length) (w8.alloc (.cells (madeCells #[.int .i64 0] t.length) 3)) (by go_simp) ⟨⟨w8.heap.size, rfl, by rw [← made_zeros]; exact Blk.new w8 3 _, hG.size⟩, (Below.refl _ _).alloc (Nat.le_refl _) _⟩
    · clear hW
      refine stepAt_value rfl rfl rfl (.pointer (some ⟨m, 0, none⟩)) w8 ?_ ⟨rfl, Below.refl _ _⟩
      go_simp
    · have q7 := hW 7 (by decide)
      simp only at q7
      rw [q7]
      clear hW
      refine stepAt_value rfl rfl rfl (.pointer (some ⟨m, 0, none⟩)) w8 ?_ ⟨rfl, Below.refl _ _⟩
      go_simp
    · have q8 := hW 8 (by decide)
      simp only at q8
      rw [q8]
      clear hW
      refine stepAt_value rfl rfl rfl (.pointer (some ⟨m, 0, none⟩)) w8 ?_ ⟨rfl, Below.refl _ _⟩
      go_simp
    · have q9 := hW 9 (by decide)
      simp only at q9
      rw [q9]
      clear hW
      have cc := (HH.out.below hG).cell0
      refine stepAt_value rfl rfl rfl (.slice a1 t.length k1) w8 ?_ ⟨rfl, Below.refl _ _⟩
      go_simp
    · have q10 := hW 10 (by decide)
      simp only at q10
      rw [q10]
      clear hW
      refine stepAt_value rfl rfl rfl (.int .i64 (t.length : Int)) w8 ?_ ⟨rfl, Below.refl _ _⟩
      go_simp
  case fin =>
    intro vals w9 hB hV
    have q0 := hV 0 (by omega)
    have q11 := hV 11 (by omega)
    obtain ⟨g, q6, hg, hgl⟩ := hV 6 (by omega)
    simp only at q0 q11
    simp only [List.take_succ_cons, List.take_zero, List.drop_succ_cons, List.drop_zero, putAll, Act.put, List.setIfInBounds_toArray, List.set_cons_zero, List.set_cons_succ, Nat.reduceAdd]
    rw [q0, q6, q11]
    clear hV q0 q6 q11
    have hw := hg.wide 0 (Nat.zero_le _) (by rw [List.length_replicate]; omega)
    rw [List.length_replicate] at hw
    have HS := Lib.hid (rwk_start w9 m w9.heap.size g (List.replicate t.length 0) t.length (by rw [List.length_replicate]; exact hw) hg.lt rfl [g, w9.heap.size] rfl t.length)
    rw [List.length_replicate] at HS
    have HB := Lib.hid (hB.alloc hB.size (.cells #[.pointer (some ⟨m, 0, none⟩), .slice (some ⟨g, 0, none⟩) t.length t.length, .int .i64 (t.length : Int)] 47))
    have HHI := Lib.hid (show High w.heap.size [g, w9.heap.size] from fun x hx => by have := hB.size; simp at hx; omega)
    clear hg hgl hw hB
    generalize vals 1 = y1
    generalize vals 2 = y2
    generalize vals 3 = y3
    generalize vals 4 = y4
    generalize vals 5 = y5
    generalize vals 7 = y7
    generalize vals 8 = y8
    generalize vals 9 = y9
    generalize vals 10 = y10
    go_wp2_with fail
    go_ret
    exact ⟨_, _, rfl, HS.out, HHI.out, HB.out⟩
end Go.Proofs.Ytjodhagjfjgbcaa
