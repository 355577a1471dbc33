/-
  The texts WName, WBetter, WRank, WApply, WAsk, one behind the other.
-/
import Derived.Test.YtpamifdcbnkcdaaDoesM12
import Derived.Test.YtpamifdcbnkcdaaDoesM9
import Derived.Test.YtpamifdcbnkcdaaDoesM6
import Derived.BigQuiet
import Derived.Test.YtpamifdcbnkcdaaDoesM1
import Derived.Test.YtpamifdcbnkcdaaDoesM13
/-
  name: the name of the block at a place; better: which of two children is.
-/
namespace Go.Proofs.Ytpamifdcbnkcdaa
open Go Go.RowKit
set_option maxRecDepth 10000

theorem nodeOr_name {t : List Nd} {k : Nat} (h : k < t.length) : (nodeOr t (k : Int)).1 = pnm t (k : Int) := by
  simp [nodeOr, pnm, nodeAt_nat, List.getElem?_eq_getElem h]
theorem blk_zeroRoot (w : World) : Blk (w.alloc (.cells (bv zero32).toArray 24)) w.heap.size 24 (bv zero32) := Blk.new w _ (bv zero32).toArray
theorem zroot_lit : (#[.int .u8 0, .int .u8 0, .int .u8 0, .int .u8 0, .int .u8 0, .int .u8 0, .int .u8 0, .int .u8 0, .int .u8 0, .int .u8 0, .int .u8 0, .int .u8 0, .int .u8 0, .int .u8 0, .int .u8 0, .int .u8 0, .int .u8 0, .int .u8 0, .int .u8 0, .int .u8 0, .int .u8 0, .int .u8 0, .int .u8 0, .int .u8 0, .int .u8 0, .int .u8 0, .int .u8 0, .int .u8 0, .int .u8 0, .int .u8 0, .int .u8 0, .int .u8 0] : Array Value) = (bv zero32).toArray := rfl
theorem znode_lit : (#[.int .u8 0, .int .u8 0, .int .u8 0, .int .u8 0, .int .u8 0, .int .u8 0, .int .u8 0, .int .u8 0, .int .u8 0, .int .u8 0, .int .u8 0, .int .u8 0, .int .u8 0, .int .u8 0, .int .u8 0, .int .u8 0, .int .u8 0, .int .u8 0, .int .u8 0, .int .u8 0, .int .u8 0, .int .u8 0, .int .u8 0, .int .u8 0, .int .u8 0, .int .u8 0, .int .u8 0, .int .u8 0, .int .u8 0, .int .u8 0, .int .u8 0, .int .u8 0, .int .i64 0, .int .i64 0] : Array Value) = (ndv nd0).toArray := rfl

set_option maxHeartbeats 4000000 in
theorem wname_any (w : World) (G : List Nat) (tb : Nat) (t : List Nd) (most : Int) (F : List Nat) (b k : Nat) (own sums best : List Int) (hT : Tre w G tb t most) (h : Wgt w F b tb own sums best) (hk : k < t.length) :
    Calls Try.prog 31 #[.pointer (some ⟨b, 0, none⟩), .int .i64 (k : Int)] w fun e w' => e = .returned (.agg (bv (pnm t (k : Int))).toArray) ∧ Below w.heap.size w w' := by
  obtain ⟨a1, a2, a3, c1, c2, c3, g1, g2, g3, o1, o2, o3, h⟩ := h.open
  have hb1 : Below w.heap.size w (w.alloc (.cells (bv zero32).toArray 24)) := (Below.refl _ w).alloc (Nat.le_refl _) _
  have HB := Lib.hid hb1
  have HX := Lib.hid (blk_zeroRoot w)
  have HT := Lib.hid (hT.below hb1)
  have HC := Lib.hid (h.below hb1).cell0
  obtain ⟨X, hX⟩ : ∃ X, X = w.heap.size := ⟨_, rfl⟩
  have HXe := Lib.hid hX
  have HNL := Lib.hid (hT.1.nds.nodeOr (k : Int))
  have HNM := Lib.hid (nodeOr_name hk)
  obtain ⟨n, hn⟩ : ∃ n, n = nodeOr t (k : Int) := ⟨_, rfl⟩
  rw [← hn] at HNL HNM
  have HN := Lib.hid hn
  rw [← hX] at HX
  clear h hT hn
  go_enter Try.func31, Try.ntmps31
  go_upto_region 1 with fail
  rw [zroot_lit, ← hX]
  generalize w.alloc (.cells (bv zero32).toArray 24) = w1 at HB HX HT HC ⊢
  clear hb1 hX
  have c0 := HC.out
  go_wp2_with fail
  refine (node_any w1 G tb t most (k : Int) HT.out).mono ?_
  rintro e w2 ⟨rfl, hb2⟩
  rw [← HN.out]
  have HB2 := Lib.hid (HB.out.trans (hb2.mono HB.out.size))
  have HX2 := Lib.hid (HX.out.below hb2 HX.out.lt)
  have HY := Lib.hid (show Blk (w2.alloc (.cells #[.int .u8 0, .int .u8 0, .int .u8 0, .int .u8 0, .int .u8 0, .int .u8 0, .int .u8 0, .int .u8 0, .int .u8 0, .int .u8 0, .int .u8 0, .int .u8 0, .int .u8 0, .int .u8 0, .int .u8 0, .int .u8 0, .int .u8 0, .int .u8 0, .int .u8 0, .int .u8 0, .int .u8 0, .int .u8 0, .int .u8 0, .int .u8 0, .int .u8 0, .int .u8 0, .int .u8 0, .int .u8 0, .int .u8 0, .int .u8 0, .int .u8 0, .int .u8 0, .int .i64 0, .int .i64 0] 82)) w2.heap.size 82 (ndv nd0) from Blk.new w2 82 (ndv nd0).toArray)
  have HX3 := Lib.hid (HX2.out.alloc (.cells #[.int .u8 0, .int .u8 0, .int .u8 0, .int .u8 0, .int .u8 0, .int .u8 0, .int .u8 0, .int .u8 0, .int .u8 0, .int .u8 0, .int .u8 0, .int .u8 0, .int .u8 0, .int .u8 0, .int .u8 0, .int .u8 0, .int .u8 0, .int .u8 0, .int .u8 0, .int .u8 0, .int .u8 0, .int .u8 0, .int .u8 0, .int .u8 0, .int .u8 0, .int .u8 0, .int .u8 0, .int .u8 0, .int .u8 0, .int .u8 0, .int .u8 0, .int .u8 0, .int .i64 0, .int .i64 0] 82))
  have hB3 := HB2.out.alloc HB2.out.size (.cells #[.int .u8 0, .int .u8 0, .int .u8 0, .int .u8 0, .int .u8 0, .int .u8 0, .int .u8 0, .int .u8 0, .int .u8 0, .int .u8 0, .int .u8 0, .int .u8 0, .int .u8 0, .int .u8 0, .int .u8 0, .int .u8 0, .int .u8 0, .int .u8 0, .int .u8 0, .int .u8 0, .int .u8 0, .int .u8 0, .int .u8 0, .int .u8 0, .int .u8 0, .int .u8 0, .int .u8 0, .int .u8 0, .int .u8 0, .int .u8 0, .int .u8 0, .int .u8 0, .int .i64 0, .int .i64 0] 82)
  have HY2 := Lib.hid (HY.out.setRow (ndv n))
  have hne : X ≠ w2.heap.size := by have := HX2.out.lt; omega
  have HX4 := Lib.hid (HX3.out.setRow_other (ndv n).toArray hne)
  have HB4 := Lib.hid (below_row hB3 HB2.out.size (ndv n).toArray)
  have HXF := Lib.hid (HX4.out.setRow (bv n.1))
  have HBF := Lib.hid (below_row HB4.out (show w.heap.size ≤ X by rw [HXe.out]; exact Nat.le_refl _) (bv n.1).toArray)
  have HZL := Lib.hid (show zero32.length = 32 by simp [zero32])
  have HYN := Lib.hid HY2.out.nodeName
  clear hb2 c0 hB3 HX HT HC HB HX2 HX3
  go_wp2_with (first
    | ((with_reducible refine wpList_store_node (.tmp 5) (.tmp 14) ?_ ?_ w2.heap.size nd0 n ?_ ?_ HY.out nd0_len HNL.out ?_); rfl; rfl; rfl; rfl)
    | ((with_reducible refine wpList_load_name (.tmp 16) ?_ ?_ w2.heap.size 0 n.1 ?_ HNL.out HYN.out ?_); rfl; rfl; rfl)
    | ((with_reducible refine wpList_store_name (.tmp 4) (.tmp 17) ?_ ?_ X zero32 n.1 ?_ ?_ HX4.out HZL.out HNL.out ?_); rfl; rfl; rfl; rfl))
  refine ret_name rfl rfl HXF.out HNL.out rfl ?_
  exact ⟨by rw [HNM.out], HBF.out⟩
end Go.Proofs.Ytpamifdcbnkcdaa

/-
  better: which of two children weighs more, or has the greater name.
-/
namespace Go.Proofs.Ytpamifdcbnkcdaa
open Go Go.RowKit
set_option maxRecDepth 10000

theorem better_none (w : World) (b : Option Addr) (p : Int) :
    Calls Try.prog 53 #[.pointer b, .int .i64 p, .int .i64 (-1)] w fun e w' => e = .returned (.bool true) ∧ Below w.heap.size w w' := by
  go_enter Try.func53, Try.ntmps53
  go_wp2_with fail
  go_ret
  exact ⟨rfl, Below.refl _ _⟩

/-- Whether the one that weighs x is better than the one that weighs y. -/
def btB (x y : Int) (r s : List UInt8) : Bool := decide (y < x) || (decide (x = y) && lessB s r)

set_option maxHeartbeats 4000000 in
theorem better_any (w : World) (G : List Nat) (tb : Nat) (t : List Nd) (most : Int) (F : List Nat) (b p q : Nat) (own sums best : List Int) (x y : Int) (hT : Tre w G tb t most) (h : Wgt w F b tb own sums best) (hp : p < t.length) (hq : q < t.length) (hx : sums[p]? = some x) (hy : sums[q]? = some y) :
    Calls Try.prog 53 #[.pointer (some ⟨b, 0, none⟩), .int .i64 (p : Int), .int .i64 (q : Int)] w fun e w' => e = .returned (.bool (btB x y (pnm t (p : Int)) (pnm t (q : Int)))) ∧ Below w.heap.size w w' := by
  have HW := Lib.hid h
  obtain ⟨a1, a2, a3, c1, c2, c3, g1, g2, g3, o1, o2, o3, h⟩ := h.open
  obtain ⟨ha, e1⟩ := lies_z h.l2 hx
  obtain ⟨_, e2⟩ := lies_z h.l2 hy
  subst ha
  have k2 := h.cell2
  have hpl : p < sums.length := (List.getElem?_eq_some_iff.1 hx).1
  have hql : q < sums.length := (List.getElem?_eq_some_iff.1 hy).1
  have d1 : ¬ ((q : Int) = -1) := by omega
  have d2 : ((q : Int) == -1) = false := by simp [d1]
  have d3 : (0 : Int) ≤ (p : Int) := by omega
  have d4 : (p : Int) < (sums.length : Int) := by omega
  have d5 : (0 : Int) ≤ (q : Int) := by omega
  have d6 : (q : Int) < (sums.length : Int) := by omega
  have HT := Lib.hid hT
  have HPQ := Lib.hid (And.intro hp hq)
  have HGL := Lib.hid (And.intro (hT.1.pnm_len (p : Int)) (hT.1.pnm_len (q : Int)))
  clear h hT hx hy hp hq
  go_enter Try.func53, Try.ntmps53
  by_cases hxy : x = y
  · subst hxy
    have d7 : (x == x) = true := by simp
    go_upto_region 3 with fail
    go_quiet (fail)
    have HW2 := Lib.hid (HW.out.below (below_dN (Below.refl _ _) nq))
    have HT2 := Lib.hid (HT.out.below (below_dN (Below.refl _ _) nq))
    have HB2 := Lib.hid (below_dN (Below.refl w.heap.size w) nq)
    generalize w.drewN nq = w2 at HW2 HT2 HB2 ⊢
    clear e1 e2 k2
    go_wp2_with fail
    refine (wname_any w2 G tb t most F b q own sums best HT2.out HW2.out HPQ.out.2).mono ?_
    rintro e w3 ⟨rfl, hb3⟩
    have HW3 := Lib.hid (HW2.out.below hb3)
    have HT3 := Lib.hid (HT2.out.below hb3)
    have HB3 := Lib.hid (HB2.out.trans (hb3.mono HB2.out.size))
    clear hb3
    go_wp2_with fail
    refine (wname_any w3 G tb t most F b p own sums best HT3.out HW3.out HPQ.out.1).mono ?_
    rintro e w4 ⟨rfl, hb4⟩
    have HB4 := Lib.hid (HB3.out.trans (hb4.mono HB3.out.size))
    clear hb4
    go_wp2_with fail
    refine (less_any w4 (pnm t (q : Int)) (pnm t (p : Int)) HGL.out.2 HGL.out.1).mono ?_
    rintro e w5 ⟨rfl, hb5⟩
    have HB5 := Lib.hid (HB4.out.trans (hb5.mono HB4.out.size))
    clear hb5
    go_wp2_with fail
    go_ret
    exact ⟨by simp [btB], HB5.out⟩
  · have d7 : (x == y) = false := by simp [hxy]
    go_upto_region 3 with fail
    go_quiet (fail)
    have f1 : (w.drewN nq).cell? ⟨g2, o2 + p, none⟩ = some (.int .i64 x) := e1
    have f2 : (w.drewN nq).cell? ⟨g2, o2 + q, none⟩ = some (.int .i64 y) := e2
    have f3 : (w.drewN nq).cell? ⟨b, 2, none⟩ = some (.slice (some ⟨g2, o2, none⟩) sums.length c2) := k2
    have HB2 := Lib.hid (below_dN (Below.refl w.heap.size w) nq)
    generalize w.drewN nq = w2 at f1 f2 f3 HB2 ⊢
    clear e1 e2 k2 HW HT
    go_upto_region 4 with fail
    go_quiet (fail)
    go_wp2_with fail
    go_ret
    exact ⟨by simp [btB, hxy], below_dN HB2.out _⟩
end Go.Proofs.Ytpamifdcbnkcdaa

/-
  rank: what each block weighs, and which child is its best one, worked out from the last place to the first.
-/
namespace Go.Proofs.Ytpamifdcbnkcdaa
open Go Go.RowKit
set_option maxRecDepth 10000

def RkRel (w : World) (F : List Nat) (b tb : Nat) (t : List Nd) (own : List Int) (p : Nat) (wr : World) : Prop := ∃ F', Wgt wr F' b tb own (sumsL t own p) (bestsL t own p) ∧ Kept F w wr ∧ NewF w F F'
theorem btB_is (t : List Nd) (own : List Int) (p q : Nat) : btB (wtW t own p) (wtW t own q) (pnm t (p : Int)) (pnm t (q : Int)) = btW t own p q := rfl
theorem nodeOr_par {t : List Nd} {k : Nat} (h : k < t.length) : (nodeOr t (k : Int)).2.2 = parW t k := by
  simp [nodeOr, parW, nodeAt_nat, List.getElem?_eq_getElem h]
theorem measD (p : Nat) (x : Int) (hx : x = (p : Int) - 1) (h : 0 < p) : (intOf (.int .i64 x)).toNat < (intOf (.int .i64 (p : Int))).toNat := by
  subst hx
  simp only [intOf]
  omega

set_option maxHeartbeats 8000000 in
theorem rank_any (w : World) (G : List Nat) (tb : Nat) (t : List Nd) (most : Int) (F : List Nat) (b : Nat) (own s0 b0 : List Int) (hT : Tre w G tb t most) (h : Wgt w F b tb own s0 b0) (hA : Away G F) (hl : own.length ≤ t.length) (h0 : 0 < own.length) (hO : OwnG own) :
    Calls Try.prog 33 #[.pointer (some ⟨b, 0, none⟩)] w fun e w' => e = .returned (.tuple #[]) ∧ ∃ F', Wgt w' F' b tb own (wtsL t own) (bssL t own) ∧ Kept F w w' ∧ NewF w F F' := by
  have htl : t.length ≤ 256 := by have := hT.1.room; have := hT.1.most256; omega
  have HGD := Lib.hid hT.1
  have HT := Lib.hid hT
  have HAW := Lib.hid hA
  have HOG := Lib.hid hO
  have HLO := Lib.hid h.low
  obtain ⟨a1, a2, a3, c1, c2, c3, g1, g2, g3, o1, o2, o3, h⟩ := h.open
  have k1 := h.cell1
  have k2 := h.cell2
  have f2 := h.blk.free 2
  have hle : own.length ≤ 1000 := by omega
  have HH := Lib.hid h
  have HB := Lib.hid (h.inF1)
  clear hT h hA hO
  go_enter Try.func33, Try.ntmps33
  go_wp2_with fail
  refine (clone_ints w a1 c1 g1 o1 own h0 hle HH.out.l1).mono ?_
  rintro e w1 ⟨v1, rfl, hv1, hb1⟩
  obtain ⟨ao1, n1, cap1, e1⟩ : ∃ ao n cap, v1 = .slice ao n cap := by
    obtain ⟨n', cap', g', off', ao', hu, _⟩ := hv1
    exact ⟨_, _, _, hu⟩
  subst e1
  have k2' := (HH.out.below hb1).cell2
  have f2' := (HH.out.below hb1).blk.free 2
  have hst := HH.out.sums1 hb1 hv1 h0
  have HST := Lib.hid hst
  clear hst hv1 hb1 k1 k2 f2
  go_upto_region 1 with fail
  obtain ⟨F2, hF2⟩ : ∃ F2, F2 = ownL (.slice ao1 n1 cap1) ++ F := ⟨_, rfl⟩
  rw [← hF2] at HST
  generalize w1.setCell ⟨b, 2, none⟩ (.slice ao1 n1 cap1) = w2 at HST ⊢
  have HK2 := Lib.hid HST.out.2.1
  have HN2 := Lib.hid HST.out.2.2
  have hw2 := HST.out.1
  clear HST hF2 k2' f2' HH HB
  obtain ⟨a1, a2, a3, c1, c2, c3, g1, g2, g3, o1, o2, o3, h2⟩ := hw2.open
  have hb3 : Below w2.heap.size w2 (w2.alloc (.cells #[.int .i64 (-1)] 3)) := (Below.refl _ _).alloc (Nat.le_refl _) _
  have HH2 := Lib.hid h2
  have k1 := (h2.below hb3).cell1
  have HL3 := Lib.hid (show Lies (w2.alloc (.cells #[.int .i64 (-1)] 3)) (w2.alloc (.cells #[.int .i64 (-1)] 3)).heap.size (some ⟨w2.heap.size, 0, none⟩) w2.heap.size 0 (zv [-1]) from
    ⟨fun _ => rfl, fun _ => by simp, fun j u hj => by rw [Nat.zero_add, (Blk.new w2 3 #[.int .i64 (-1)]).cell]; exact hj⟩)
  have HB3 := Lib.hid hb3
  clear hw2 h2 hb3
  go_wp2_with fail
  refine (repeat_ints (w2.alloc (.cells #[.int .i64 (-1)] 3)) (-1) w2.heap.size own.length h0 hle HL3.out).mono ?_
  rintro e w4 ⟨v4, rfl, hv4, hb4⟩
  obtain ⟨ao4, n4, cap4, e4⟩ : ∃ ao n cap, v4 = .slice ao n cap := by
    obtain ⟨n', cap', g', off', ao', hu, _⟩ := hv4
    exact ⟨_, _, _, hu⟩
  subst e4
  have hb24 : Below w2.heap.size w2 w4 := HB3.out.trans (hb4.mono HB3.out.size)
  have k3' := (HH2.out.below hb24).cell3
  have f3' := (HH2.out.below hb24).blk.free 3
  have hst := HH2.out.best1 hb24 (hv4.mono HB3.out.size) (show 0 < (List.replicate own.length (-1 : Int)).length by rw [List.length_replicate]; exact h0)
  have HST := Lib.hid hst
  clear hst hv4 hb4 hb24 k1 HL3 HB3
  go_upto_region 2 with fail
  obtain ⟨F4, hF4⟩ : ∃ F4, F4 = ownL (.slice ao4 n4 cap4) ++ F2 := ⟨_, rfl⟩
  rw [← hF4] at HST
  generalize w4.setCell ⟨b, 3, none⟩ (.slice ao4 n4 cap4) = w5 at HST ⊢
  have HK5 := Lib.hid (HK2.out.trans HST.out.2.1 HN2.out)
  have HN5 := Lib.hid (HN2.out.trans HST.out.2.2 HK2.out.size)
  have HW5 := Lib.hid HST.out.1
  clear HST hF4 k3' f3' HH2 HK2 HN2
  obtain ⟨a1, a2, a3, c1, c2, c3, g1, g2, g3, o1, o2, o3, h5⟩ := HW5.out.open
  have k1 := h5.cell1
  have HS := Lib.hid (show wrap64 ((own.length : Int) - 1) = ((own.length - 1 : Nat) : Int) by unfold wrap64; omega)
  clear h5
  go_wp2_with fail
  go_loopw [2] (fun i wr => ∃ p : Nat, p < own.length ∧ i = .int .i64 p ∧ Hid (RkRel w F b tb t own p wr)) (fun i _ => (intOf i).toNat)
  case atStart =>
    refine ⟨own.length - 1, by omega, by first | (rw [HS.out]) | (congr 1; omega), Lib.hid ⟨F4, ?_, HK5.out, HN5.out⟩⟩
    rw [sumsL_start (by omega), bestsL_start (by omega)]
    exact HW5.out
  case round =>
    clear HW5 HK5 HN5 HS k1
    obtain ⟨p, hp, rfl, HRK⟩ := hrel
    obtain ⟨F', hw, hk, hn⟩ := HRK.out
    have HW := Lib.hid hw
    have HK := Lib.hid hk
    have HN := Lib.hid hn
    clear hw hk hn HRK
    by_cases hp0 : 0 < p
    · obtain ⟨q, hq, hqp⟩ := HGD.out.parW_pos hp0 (show p < t.length by omega)
      have HNL := Lib.hid (HGD.out.nds.nodeOr (p : Int))
      have HPQ := Lib.hid (show (nodeOr t (p : Int)).2.2 = (q : Int) by rw [nodeOr_par (by omega), hq])
      obtain ⟨n, hn⟩ : ∃ n, n = nodeOr t (p : Int) := ⟨_, rfl⟩
      rw [← hn] at HNL HPQ
      have HNE := Lib.hid hn
      clear hn
      obtain ⟨a1, a2, a3, c1, c2, c3, g1, g2, g3, o1, o2, o3, hs⟩ := HW.out.open
      have c0 := hs.cell0
      have HS := Lib.hid hs
      have HLW := Lib.hid hs.slp.low
      have HPM := Lib.hid (show wrap64 ((p : Int) - 1) = ((p - 1 : Nat) : Int) by unfold wrap64; omega)
      clear hs
      go_wp2_with fail
      refine (node_any wr G tb t most (p : Int) (HT.out.keep HK.out HAW.out)).mono ?_
      rintro e w6 ⟨rfl, hb6⟩
      rw [← HNE.out]
      have HY6 := Lib.hid (show Blk (w6.alloc (.cells #[.int .u8 0, .int .u8 0, .int .u8 0, .int .u8 0, .int .u8 0, .int .u8 0, .int .u8 0, .int .u8 0, .int .u8 0, .int .u8 0, .int .u8 0, .int .u8 0, .int .u8 0, .int .u8 0, .int .u8 0, .int .u8 0, .int .u8 0, .int .u8 0, .int .u8 0, .int .u8 0, .int .u8 0, .int .u8 0, .int .u8 0, .int .u8 0, .int .u8 0, .int .u8 0, .int .u8 0, .int .u8 0, .int .u8 0, .int .u8 0, .int .u8 0, .int .u8 0, .int .i64 0, .int .i64 0] 82)) w6.heap.size 82 (ndv nd0) from Blk.new w6 82 (ndv nd0).toArray)
      have hB7 : Below wr.heap.size wr ((w6.alloc (.cells #[.int .u8 0, .int .u8 0, .int .u8 0, .int .u8 0, .int .u8 0, .int .u8 0, .int .u8 0, .int .u8 0, .int .u8 0, .int .u8 0, .int .u8 0, .int .u8 0, .int .u8 0, .int .u8 0, .int .u8 0, .int .u8 0, .int .u8 0, .int .u8 0, .int .u8 0, .int .u8 0, .int .u8 0, .int .u8 0, .int .u8 0, .int .u8 0, .int .u8 0, .int .u8 0, .int .u8 0, .int .u8 0, .int .u8 0, .int .u8 0, .int .u8 0, .int .u8 0, .int .i64 0, .int .i64 0] 82)).setRow w6.heap.size (ndv n).toArray) := below_row (hb6.alloc hb6.size _) hb6.size _
      have HY7 := Lib.hid (HY6.out.setRow (ndv n))
      have HS7 := Lib.hid (HS.out.below hB7)
      have HK7 := Lib.hid (HK.out.then hB7)
      clear hB7 c0 HS HW HK
      go_upto_region 6 with ((with_reducible refine wpList_store_node (.tmp 3) (.tmp 40) ?_ ?_ w6.heap.size nd0 n ?_ ?_ HY6.out nd0_len HNL.out ?_); rfl; rfl; rfl; rfl)
      obtain ⟨Y, hY⟩ : ∃ Y, Y = w6.heap.size := ⟨_, rfl⟩
      have HYL := Lib.hid (show Y ∉ F' from fun hm => by have := HLW.out Y hm; have := hb6.size; omega)
      rw [← hY] at HY7 ⊢
      rw [← hY] at HS7 HK7
      generalize (w6.alloc (.cells #[.int .u8 0, .int .u8 0, .int .u8 0, .int .u8 0, .int .u8 0, .int .u8 0, .int .u8 0, .int .u8 0, .int .u8 0, .int .u8 0, .int .u8 0, .int .u8 0, .int .u8 0, .int .u8 0, .int .u8 0, .int .u8 0, .int .u8 0, .int .u8 0, .int .u8 0, .int .u8 0, .int .u8 0, .int .u8 0, .int .u8 0, .int .u8 0, .int .u8 0, .int .u8 0, .int .u8 0, .int .u8 0, .int .u8 0, .int .u8 0, .int .u8 0, .int .u8 0, .int .i64 0, .int .i64 0] 82)).setRow Y (ndv n).toArray = w7 at HY7 HS7 HK7 ⊢
      clear hb6 HY6 HLW hY
      obtain ⟨x, hx⟩ : ∃ x, x = stW t own p q := ⟨_, rfl⟩
      obtain ⟨y, hy⟩ : ∃ y, y = wtW t own p := ⟨_, rfl⟩
      have hxb := HGD.out.stW_le HOG.out p q
      have hxs := HGD.out.stW_le HOG.out (p - 1) q
      rw [HGD.out.stW_step hp0 hp, hq, if_pos rfl] at hxs
      have hxl := wtW_lt HOG.out t q
      have hyp := HGD.out.stW_self own (Nat.le_refl p)
      rw [← hx] at hxb hxs
      rw [← hy] at hxs hyp
      have hadd : wrap64 (x + y) = x + y := by unfold wrap64; omega
      have HADD := Lib.hid hadd
      have HX := Lib.hid hx
      have HYY := Lib.hid hy
      have hN1 : q < own.length := by omega
      have s1 := sumsL_at (t := t) (p := p) hN1
      have s2 := sumsL_at (t := t) (p := p) hp
      rw [← hx] at s1
      rw [hyp] at s2
      obtain ⟨ha2, e1⟩ := lies_z HS7.out.l2 s1
      obtain ⟨_, e2⟩ := lies_z HS7.out.l2 s2
      subst ha2
      have k2 := HS7.out.cell2
      have kp := HY7.out.nodeParent HNL.out
      rw [HPQ.out] at kp
      have d1 : (0 : Int) ≤ (q : Int) := by omega
      have d2 : (q : Int) < ((sumsL t own p).length : Int) := by rw [sumsL_length]; omega
      have d3 : (0 : Int) ≤ (p : Int) := by omega
      have d4 : (p : Int) < ((sumsL t own p).length : Int) := by rw [sumsL_length]; omega
      have d5 : q < (sumsL t own p).length := by rw [sumsL_length]; omega
      have d6 : p < (sumsL t own p).length := by rw [sumsL_length]; omega
      clear hx hy hxb hxs hxl hyp s1 s2
      refine wp_region_draws_tail 17 (by kernel_rfl) (by kernel_rfl) ?_
      simp only [List.take_succ_cons, List.take_zero, List.drop_succ_cons, List.drop_zero]
      repeat (go_big_quiet_step (fail))
      refine wpQuiet_nil ?_
      rintro _ ⟨nq, rfl⟩
      have HS8 := Lib.hid (HS7.out.below (below_dN (Below.refl _ _) nq))
      have HK8 := Lib.hid (HK7.out.drewN nq)
      have HY8 := Lib.hid (HY7.out.drewN nq)
      generalize w7.drewN nq = w8 at HS8 HK8 HY8 ⊢
      clear e1 e2 k2 kp HS7 HK7 HY7
      have hset := HS8.out.setSum (j := q) d5 (x + y)
      have f2 := lies_free HS8.out (j := q) d5
      have e1 : w8.cell? ⟨g2, o2 + q, none⟩ = some (.int .i64 x) := (lies_z HS8.out.l2 (by rw [sumsL_at hN1, HX.out])).2
      have hW9 : Wgt (w8.setCell ⟨g2, o2 + q, none⟩ (.int .i64 (x + y))) F' b tb own (sumsL t own (p - 1)) (bestsL t own p) := by
        have := hset.1
        rw [HX.out, HYY.out, HGD.out.sumsL_step hp0 hp hq] at this
        rw [HX.out, HYY.out]
        exact this
      have HW9 := Lib.hid hW9
      have HK9 := Lib.hid (HK8.out.trans hset.2 HN.out)
      have HY9 := Lib.hid (HY8.out.kept (F := F') hset.2 HYL.out)
      clear hset hW9 HS8 HK8 HY8
      go_upto_region 7 with fail
      generalize w8.setCell ⟨g2, o2 + q, none⟩ (.int .i64 (x + y)) = w9 at HW9 HK9 HY9 ⊢
      clear f2 e1 hadd HADD HX HYY
      obtain ⟨a1, a2, a3, c1, c2, c3, g1, g2, g3, o1, o2, o3, h9⟩ := HW9.out.open
      have sq := bestsL_at (t := t) (p := p) hN1
      obtain ⟨ha3, e3⟩ := lies_z h9.l3 sq
      subst ha3
      have k3 := h9.cell3
      have kp := HY9.out.nodeParent HNL.out
      rw [HPQ.out] at kp
      have d7 : (q : Int) < ((bestsL t own p).length : Int) := by rw [bestsL_length]; omega
      have d8 : q < (bestsL t own p).length := by rw [bestsL_length]; omega
      clear h9 sq
      rcases HGD.out.bdW_place hl p q with hbd | ⟨k, hbd, hpk, hkN, hkp⟩
      · rw [hbd] at e3
        have HBD := Lib.hid hbd
        clear hbd
        refine wp_region_draws_tail 10 (by kernel_rfl) (by kernel_rfl) ?_
        simp only [List.take_succ_cons, List.take_zero, List.drop_succ_cons, List.drop_zero]
        repeat (go_big_quiet_step (fail))
        refine wpQuiet_nil ?_
        rintro _ ⟨nq, rfl⟩
        have HWq := Lib.hid (HW9.out.below (below_dN (Below.refl _ _) nq))
        have HKq := Lib.hid (HK9.out.drewN nq)
        have HYq := Lib.hid (HY9.out.drewN nq)
        generalize w9.drewN nq = wq at HWq HKq HYq ⊢
        clear e3 k3 kp HW9 HK9 HY9
        go_wp2_with fail
        refine (better_none wq (some ⟨b, 0, none⟩) (p : Int)).mono ?_
        rintro e wA ⟨rfl, hbA⟩
        have HWA := Lib.hid (HWq.out.below hbA)
        have HKA := Lib.hid (HKq.out.then hbA)
        have HYA := Lib.hid (HYq.out.below hbA HYq.out.lt)
        clear hbA HWq HKq HYq
        have HIT := Lib.hid (show bdW t own p q < 0 ∨ btW t own p (bdW t own p q).toNat = true from .inl (by rw [HBD.out]; decide))
        go_upto_region 8 with fail
        have kp := HYA.out.nodeParent HNL.out
        rw [HPQ.out] at kp
        obtain ⟨a1, a2, a3, c1, c2, c3, g1, g2, g3, o1, o2, o3, hA⟩ := HWA.out.open
        have sq := bestsL_at (t := t) (p := p) hN1
        obtain ⟨ha3, e3⟩ := lies_z hA.l3 sq
        subst ha3
        have k3 := hA.cell3
        have HHA := Lib.hid hA
        clear hA e3 sq
        refine wp_region_draws_tail 8 (by kernel_rfl) (by kernel_rfl) ?_
        simp only [List.take_succ_cons, List.take_zero, List.drop_succ_cons, List.drop_zero]
        repeat (go_big_quiet_step (fail))
        refine wpQuiet_nil ?_
        rintro _ ⟨nq2, rfl⟩
        have HHB := Lib.hid (HHA.out.below (below_dN (Below.refl _ _) nq2))
        have HKB := Lib.hid (HKA.out.drewN nq2)
        generalize wA.drewN nq2 = wB at HHB HKB ⊢
        clear kp k3 HHA HKA HYA HWA
        have hset := HHB.out.setBest (j := q) d8 (p : Int)
        have f4 := lies_free3 HHB.out (j := q) d8
        have e4 := (lies_z HHB.out.l3 (bestsL_at (t := t) (p := p) hN1)).2
        have HFIN := Lib.hid (show Wgt (wB.setCell ⟨g3, o3 + q, none⟩ (.int .i64 (p : Int))) F' b tb own (sumsL t own (p - 1)) (bestsL t own (p - 1)) by
          have := hset.1
          rw [HGD.out.bestsL_hit hp0 hp hq HIT.out] at this
          exact this)
        have HKF := Lib.hid (HKB.out.trans hset.2 HN.out)
        clear hset HHB HKB
        go_wp2_with fail
        go_roundw
        case rel => exact ⟨p - 1, by omega, by first | (rw [HPM.out]) | (congr 1; omega), Lib.hid ⟨F', HFIN.out, HKF.out, HN.out⟩⟩
        case measure => exact measD p _ (by first | (rw [HPM.out]; omega) | omega) hp0
      · rw [hbd] at e3
        have HBD := Lib.hid hbd
        clear hbd
        refine wp_region_draws_tail 10 (by kernel_rfl) (by kernel_rfl) ?_
        simp only [List.take_succ_cons, List.take_zero, List.drop_succ_cons, List.drop_zero]
        repeat (go_big_quiet_step (fail))
        refine wpQuiet_nil ?_
        rintro _ ⟨nq, rfl⟩
        have HWq := Lib.hid (HW9.out.below (below_dN (Below.refl _ _) nq))
        have HKq := Lib.hid (HK9.out.drewN nq)
        have HYq := Lib.hid (HY9.out.drewN nq)
        generalize w9.drewN nq = wq at HWq HKq HYq ⊢
        clear e3 k3 kp HW9 HK9 HY9
        go_wp2_with fail
        refine (better_any wq G tb t most F' b p k own (sumsL t own (p - 1)) (bestsL t own p) (wtW t own p) (wtW t own k) (HT.out.keep HKq.out HAW.out) HWq.out (by omega) (by omega) (by rw [sumsL_at hp, HGD.out.stW_self own (by omega)]) (by rw [sumsL_at hkN, HGD.out.stW_self own (by omega)])).mono ?_
        rintro e wA ⟨rfl, hbA⟩
        have HWA := Lib.hid (HWq.out.below hbA)
        have HKA := Lib.hid (HKq.out.then hbA)
        have HYA := Lib.hid (HYq.out.below hbA HYq.out.lt)
        clear hbA HWq HKq HYq
        rw [btB_is]
        obtain ⟨B, hB⟩ : ∃ B, btW t own p k = B := ⟨_, rfl⟩
        rw [hB]
        have HBB := Lib.hid hB
        clear hB
        cases B with
        | true =>
          have HIT := Lib.hid (show bdW t own p q < 0 ∨ btW t own p (bdW t own p q).toNat = true from .inr (by rw [HBD.out, Int.toNat_natCast]; exact HBB.out))
          go_upto_region 8 with fail
          have kp := HYA.out.nodeParent HNL.out
          rw [HPQ.out] at kp
          obtain ⟨a1, a2, a3, c1, c2, c3, g1, g2, g3, o1, o2, o3, hA⟩ := HWA.out.open
          have sq := bestsL_at (t := t) (p := p) hN1
          obtain ⟨ha3, e3⟩ := lies_z hA.l3 sq
          subst ha3
          have k3 := hA.cell3
          have HHA := Lib.hid hA
          clear hA e3 sq
          refine wp_region_draws_tail 8 (by kernel_rfl) (by kernel_rfl) ?_
          simp only [List.take_succ_cons, List.take_zero, List.drop_succ_cons, List.drop_zero]
          repeat (go_big_quiet_step (fail))
          refine wpQuiet_nil ?_
          rintro _ ⟨nq2, rfl⟩
          have HHB := Lib.hid (HHA.out.below (below_dN (Below.refl _ _) nq2))
          have HKB := Lib.hid (HKA.out.drewN nq2)
          generalize wA.drewN nq2 = wB at HHB HKB ⊢
          clear kp k3 HHA HKA HYA HWA
          have hset := HHB.out.setBest (j := q) d8 (p : Int)
          have f4 := lies_free3 HHB.out (j := q) d8
          have e4 := (lies_z HHB.out.l3 (bestsL_at (t := t) (p := p) hN1)).2
          have HFIN := Lib.hid (show Wgt (wB.setCell ⟨g3, o3 + q, none⟩ (.int .i64 (p : Int))) F' b tb own (sumsL t own (p - 1)) (bestsL t own (p - 1)) by
            have := hset.1
            rw [HGD.out.bestsL_hit hp0 hp hq HIT.out] at this
            exact this)
          have HKF := Lib.hid (HKB.out.trans hset.2 HN.out)
          clear hset HHB HKB
          go_wp2_with fail
          go_roundw
          case rel => exact ⟨p - 1, by omega, by first | (rw [HPM.out]) | (congr 1; omega), Lib.hid ⟨F', HFIN.out, HKF.out, HN.out⟩⟩
          case measure => exact measD p _ (by first | (rw [HPM.out]; omega) | omega) hp0
        | false =>
          have HFIN := Lib.hid (show Wgt wA F' b tb own (sumsL t own (p - 1)) (bestsL t own (p - 1)) by
            have := HWA.out
            rw [HGD.out.bestsL_miss hp0 hp hq (by rw [HBD.out, Int.toNat_natCast, HBB.out]; intro hh; rcases hh with hh | hh; omega; cases hh)] at this
            exact this)
          have HKF := HKA
          go_wp2_with fail
          go_roundw
          case rel => exact ⟨p - 1, by omega, by first | (rw [HPM.out]) | (congr 1; omega), Lib.hid ⟨F', HFIN.out, HKF.out, HN.out⟩⟩
          case measure => exact measD p _ (by first | (rw [HPM.out]; omega) | omega) hp0
    · obtain rfl : p = 0 := by omega
      go_wp2_with fail
      go_end0
      obtain ⟨a1, a2, a3, c1, c2, c3, g1, g2, g3, o1, o2, o3, hs⟩ := HW.out.open
      exact ⟨rfl, F', by rw [← HGD.out.sumsL_end, ← HGD.out.bestsL_end hl]; exact HW.out, HK.out, HN.out⟩
end Go.Proofs.Ytpamifdcbnkcdaa

/-
  Apply and New: the weights behind deltas; a tree's weights, all 0.
-/
namespace Go.Proofs.Ytpamifdcbnkcdaa
open Go Go.RowKit
set_option maxRecDepth 10000

/-- The weights at block b are those of this tree, at these own weights. -/
def WgtG (w : World) (F : List Nat) (b tb : Nat) (t : List Nd) (own : List Int) : Prop := OwnG own ∧ own.length ≤ t.length ∧ 0 < own.length ∧ Wgt w F b tb own (wtsL t own) (bssL t own)
theorem WgtG.keep {w w' : World} {F G : List Nat} {b tb : Nat} {t : List Nd} {own : List Int} (h : WgtG w F b tb t own) (hk : Kept G w w') (hF : Away F G) : WgtG w' F b tb t own := ⟨h.1, h.2.1, h.2.2.1, h.2.2.2.keep hk hF⟩
theorem WgtG.below {w w' : World} {F : List Nat} {b tb : Nat} {t : List Nd} {own : List Int} (h : WgtG w F b tb t own) (hb : Below w.heap.size w w') : WgtG w' F b tb t own := ⟨h.1, h.2.1, h.2.2.1, h.2.2.2.below hb⟩
theorem WgtG.low {w : World} {F : List Nat} {b tb : Nat} {t : List Nd} {own : List Int} (h : WgtG w F b tb t own) : Low w F := h.2.2.2.low

set_option maxHeartbeats 4000000 in
theorem apply_any (w : World) (G : List Nat) (tb : Nat) (t : List Nd) (most : Int) (F : List Nat) (b : Nat) (own s0 b0 : List Int) (ds : List Dl) (dao : Option Addr) (dcap dg doff : Nat) (hT : Tre w G tb t most) (h : Wgt w F b tb own s0 b0) (hA : Away G F) (hl : own.length ≤ t.length) (hO : OwnG own)
    (hD : Dls ds) (hdl : ds.length ≤ 1000) (hL : Lies w w.heap.size dao dg doff (dvs ds)) (hdF : 0 < ds.length → dg ∉ F) :
    Calls Try.prog 12 #[.pointer (some ⟨b, 0, none⟩), .slice dao ds.length dcap] w fun e w' => e = .returned (.int .i64 (appW t own ds).1) ∧ ∃ F', WgtG w' F' b tb t (appW t own ds).2 ∧ Kept F w w' ∧ NewF w F F' := by
  have HT := Lib.hid hT
  have HO := Lib.hid hO
  have HD := Lib.hid hD
  have HL := Lib.hid hL
  have HW := Lib.hid h
  have HA := Lib.hid hA
  have HLE := Lib.hid hl
  have HDF := Lib.hid hdF
  have HLO := Lib.hid hT.low
  have HTP := Lib.hid hT.1.pos
  clear hT h hA hl hO hD hL hdF
  go_enter Try.func12, Try.ntmps12
  go_wp2_with fail
  refine (learn_any w G tb t most F b own s0 b0 HT.out HW.out HA.out HLE.out).mono ?_
  rintro e w1 ⟨rfl, F1, hw1, hk1, hn1⟩
  have HW1 := Lib.hid hw1
  have HK1 := Lib.hid hk1
  have HN1 := Lib.hid hn1
  have HT1 := Lib.hid (HT.out.keep hk1 HA.out)
  have HA1 := Lib.hid (HA.out.new' hn1 HLO.out)
  have HL1 := Lib.hid (show Lies w1 w1.heap.size dao dg doff (dvs ds) from
    ⟨HL.out.addr, fun h0 => Nat.lt_of_lt_of_le (HL.out.lt h0) hk1.size, fun j u hj => by
      have h0 : 0 < (dvs ds).length := by have := (List.getElem?_eq_some_iff.1 hj).1; omega
      have h1 : 0 < ds.length := by
        rcases Nat.eq_zero_or_pos ds.length with h2 | h2
        · rw [List.eq_nil_of_length_eq_zero h2] at h0; simp [dvs] at h0
        · exact h2
      exact (World.cell?_of_block (a := ⟨dg, doff + j, none⟩) (hk1.block dg (HL.out.lt h0) (HDF.out h1))).trans (HL.out.cells j u hj)⟩)
  have HPL := Lib.hid (padW_length HLE.out)
  have HPO := Lib.hid (HO.out.pad t)
  clear hw1 hk1 hn1
  go_wp2_with fail
  refine (changed_any w1 G tb t most F1 b (padW t own) s0 b0 ds dao dcap dg doff HT1.out HW1.out HPL.out HPO.out HD.out hdl HL1.out).mono ?_
  rintro e w2 ⟨v, rfl, ⟨ao, n, cap, rfl⟩, hv, hb2⟩
  rw [← show appW t own ds = endW (padW t own) (chgW t (padW t own) ds) from rfl] at hv ⊢
  have HOE := Lib.hid (appW_ok HO.out t ds)
  have HLN := Lib.hid (appW_length HO.out HLE.out ds)
  have HER := Lib.hid (show (appW t own ds).1 ≠ 0 → (appW t own ds).2 = padW t own from fun hne => by
    unfold appW endW at hne ⊢
    split
    · rename_i h1
      rw [if_pos h1] at hne
      split
      · rename_i h2; rw [if_pos h2] at hne; exact absurd rfl hne
      · rfl
    · rfl)
  have HV := Lib.hid hv
  have HB2 := Lib.hid hb2
  clear hv hb2
  obtain ⟨E, hE⟩ : ∃ E, E = (appW t own ds).1 := ⟨_, rfl⟩
  obtain ⟨N, hN⟩ : ∃ N, N = (appW t own ds).2 := ⟨_, rfl⟩
  rw [← hE] at HV HER ⊢
  rw [← hN] at HV HER HOE HLN
  have HEQ := Lib.hid hE
  have HNQ := Lib.hid hN
  clear hE hN
  by_cases hE0 : E = 0
  · subst hE0
    obtain ⟨a1, a2, a3, c1, c2, c3, g1, g2, g3, o1, o2, o3, hs⟩ := HW1.out.open
    have hst := hs.own2 HB2.out (HV.out rfl) (by rw [HLN.out]; exact HTP.out)
    have c1' := (hs.below HB2.out).cell1
    have f1' := (hs.below HB2.out).blk.free 1
    have HST := Lib.hid hst
    clear hst hs
    go_wp2_with fail
    obtain ⟨F3, hF3⟩ : ∃ F3, F3 = ownL (.slice ao n cap) ++ F1 := ⟨_, rfl⟩
    rw [← hF3] at HST
    generalize w2.setCell ⟨b, 1, none⟩ (.slice ao n cap) = w3 at HST ⊢
    have HK3 := Lib.hid (HK1.out.trans HST.out.2.1 HN1.out)
    have HN3 := Lib.hid (HN1.out.trans HST.out.2.2 HK1.out.size)
    have HT3 := Lib.hid (HT.out.keep HK3.out HA.out)
    have HA3 := Lib.hid (HA.out.new' HN3.out HLO.out)
    clear hF3 c1' f1'
    refine (rank_any w3 G tb t most F3 b N s0 b0 HT3.out HST.out.1 HA3.out (by rw [HLN.out]; exact Nat.le_refl _) (by rw [HLN.out]; exact HTP.out) HOE.out).mono ?_
    rintro e w4 ⟨rfl, F4, hw4, hk4, hn4⟩
    have HFIN := Lib.hid hw4
    have HKF := Lib.hid (HK3.out.trans hk4 HN3.out)
    have HNF := Lib.hid (HN3.out.trans hn4 HK3.out.size)
    clear hw4 hk4 hn4
    go_wp2_with fail
    go_ret
    exact ⟨by rw [← HEQ.out]; rfl, F4, by rw [← HNQ.out]; exact ⟨HOE.out, by rw [HLN.out]; exact Nat.le_refl _, by rw [HLN.out]; exact HTP.out, HFIN.out⟩, HKF.out, HNF.out⟩
  · have hE1 : (E == 0) = false := by simp [hE0]
    have HNE := Lib.hid (HER.out hE0)
    go_wp2_with fail
    have HK3 := Lib.hid (HK1.out.then HB2.out)
    have HT3 := Lib.hid (HT.out.keep HK3.out HA.out)
    refine (rank_any w2 G tb t most F1 b (padW t own) s0 b0 HT3.out (HW1.out.below HB2.out) HA1.out (by rw [HPL.out]; exact Nat.le_refl _) (by rw [HPL.out]; exact HTP.out) HPO.out).mono ?_
    rintro e w4 ⟨rfl, F4, hw4, hk4, hn4⟩
    have HFIN := Lib.hid hw4
    have HKF := Lib.hid (HK3.out.trans hk4 HN1.out)
    have HNF := Lib.hid (HN1.out.trans (show NewF w1 F1 F4 from fun x hx => (hn4 x hx).imp id (fun h => Nat.le_trans HB2.out.size h)) HK1.out.size)
    clear hw4 hk4 hn4
    go_wp2_with fail
    go_ret
    exact ⟨by rw [← HEQ.out]; rfl, F4, by rw [← HNQ.out, HNE.out]; exact ⟨HPO.out, by rw [HPL.out]; exact Nat.le_refl _, by rw [HPL.out]; exact HTP.out, HFIN.out⟩, HKF.out, HNF.out⟩

theorem apply_nil (w : World) (v : Value) : Calls Try.prog 12 #[.pointer none, v] w fun e w' => e = .returned (.int .i64 2) ∧ w' = w := by
  go_enter Try.func12, Try.ntmps12
  go_wp2_with fail
  go_ret
  exact ⟨rfl, rfl⟩

theorem wnew_nil (w : World) : Calls Try.prog 11 #[.pointer none] w fun e w' => e = .returned (.pointer none) ∧ w' = w := by
  go_enter Try.func11, Try.ntmps11
  go_wp2_with fail
  go_ret
  exact ⟨rfl, rfl⟩

theorem wgt_start (w : World) (tb b : Nat) (hb : b = w.heap.size) : Wgt (w.alloc (.cells #[.pointer (some ⟨tb, 0, none⟩), .slice none 0 0, .slice none 0 0, .slice none 0 0] 66)) [b] b tb [] [] [] := by
  subst hb
  refine ⟨.slice none 0 0, .slice none 0 0, .slice none 0 0, ?_, fun x hx => ?_, fun x hx => ?_, ?_, by simp, fun x hx k hk => ?_, fun x hx => ?_⟩
  · exact Blk.new w 66 #[.pointer (some ⟨tb, 0, none⟩), .slice none 0 0, .slice none 0 0, .slice none 0 0]
  · simp only [wItems, List.mem_cons, List.not_mem_nil, or_false] at hx
    rcases hx with rfl | rfl | rfl <;> exact wide_nil0 1 _ 0
  · simp only [wItems, List.mem_cons, List.not_mem_nil, or_false] at hx
    rcases hx with rfl | rfl | rfl <;> simp [Value.ownBlock]
  · intro i j x y hij hx hy k hk
    have hm := List.mem_of_getElem? hx
    simp only [wItems, List.mem_cons, List.not_mem_nil, or_false] at hm
    rcases hm with rfl | rfl | rfl <;> simp [Value.ownBlock] at hk
  · simp only [wItems, List.mem_cons, List.not_mem_nil, or_false] at hx
    rcases hx with rfl | rfl | rfl <;> simp [Value.ownBlock] at hk
  · simp at hx
    simp [hx]

set_option maxHeartbeats 4000000 in
theorem wnew_any (w : World) (G : List Nat) (tb : Nat) (t : List Nd) (most : Int) (hT : Tre w G tb t most) :
    Calls Try.prog 11 #[.pointer (some ⟨tb, 0, none⟩)] w fun e w' => ∃ F b, e = .returned (.pointer (some ⟨b, 0, none⟩)) ∧ WgtG w' F b tb t (List.replicate t.length 0) ∧ High w.heap.size F ∧ Below w.heap.size w w' := by
  have hb1 : Below w.heap.size w (w.alloc (.cells #[.pointer (some ⟨tb, 0, none⟩), .slice none 0 0, .slice none 0 0, .slice none 0 0] 66)) := (Below.refl _ w).alloc (Nat.le_refl _) _
  have HB := Lib.hid hb1
  have HW := Lib.hid (wgt_start w tb w.heap.size rfl)
  have HT := Lib.hid (hT.below hb1)
  have HA := Lib.hid (show Away G [w.heap.size] from fun x hx hm => by have := hT.low x hx; simp at hm; omega)
  have HTP := Lib.hid hT.1.pos
  have HLO := Lib.hid hT.low
  have HEX := Lib.hid (show padW t [] = List.replicate t.length 0 by simp [padW])
  clear hb1 hT
  go_enter Try.func11, Try.ntmps11
  go_upto_region 4 with fail
  have HH := Lib.hid (show High w.heap.size [w.heap.size] from fun x hx => by simp at hx; omega)
  obtain ⟨b, hb⟩ : ∃ b, b = w.heap.size := ⟨_, rfl⟩
  rw [← hb] at HW HA
  have HHB := Lib.hid (show High w.heap.size [b] from fun x hx => by simp at hx; omega)
  rw [show (.pointer (some ⟨w.heap.size, 0, none⟩) : Value) = .pointer (some ⟨b, 0, none⟩) by rw [hb]]
  generalize w.alloc (.cells #[.pointer (some ⟨tb, 0, none⟩), .slice none 0 0, .slice none 0 0, .slice none 0 0] 66) = w1 at HB HW HT ⊢
  clear hb HH
  go_wp2_with fail
  refine (learn_any w1 G tb t most [b] b [] [] [] HT.out HW.out HA.out (Nat.zero_le _)).mono ?_
  rintro e w2 ⟨rfl, F2, hw2, hk2, hn2⟩
  rw [HEX.out] at hw2
  have HW2 := Lib.hid hw2
  have HK2 := Lib.hid hk2
  have HN2 := Lib.hid hn2
  have HT2 := Lib.hid (HT.out.keep hk2 HA.out)
  have HA2 := Lib.hid (HA.out.new' hn2 HT.out.low)
  have HOG := Lib.hid (show OwnG (List.replicate t.length (0 : Int)) from OwnG.none.zeros t.length)
  clear hw2 hk2 hn2
  go_wp2_with fail
  refine (rank_any w2 G tb t most F2 b (List.replicate t.length 0) [] [] HT2.out HW2.out HA2.out (by rw [List.length_replicate]; exact Nat.le_refl _) (by rw [List.length_replicate]; exact HTP.out) HOG.out).mono ?_
  rintro e w3 ⟨rfl, F3, hw3, hk3, hn3⟩
  have HFIN := Lib.hid hw3
  have HH2 := Lib.hid (HHB.out.new HN2.out HB.out.size)
  have HB2 := Lib.hid (HB.out.trans (HK2.out.below HB.out.size HHB.out))
  have HH3 := Lib.hid (HH2.out.new hn3 HB2.out.size)
  have HB3 := Lib.hid (HB2.out.trans (hk3.below HB2.out.size HH2.out))
  clear hw3 hk3 hn3
  go_wp2_with fail
  go_ret
  exact ⟨F3, b, rfl, ⟨HOG.out, by rw [List.length_replicate]; exact Nat.le_refl _, by rw [List.length_replicate]; exact HTP.out, HFIN.out⟩, HH3.out, HB3.out⟩
end Go.Proofs.Ytpamifdcbnkcdaa

/-
  What weights are asked: told, Own, Weight, Best, Head.
-/
namespace Go.Proofs.Ytpamifdcbnkcdaa
open Go Go.RowKit
set_option maxRecDepth 10000

theorem callOwn (args : Array Value) (W : World) : (callFunc 35 args).run Try.prog W = .ok (.enter 35 args) W := by go_simp
theorem callWeight (args : Array Value) (W : World) : (callFunc 36 args).run Try.prog W = .ok (.enter 36 args) W := by go_simp
theorem callBest (args : Array Value) (W : World) : (callFunc 30 args).run Try.prog W = .ok (.enter 30 args) W := by go_simp
/-- A number of a block's place; none, if it isn't known. -/
def tellZ (t : List Nd) (N : Nat) (r : List UInt8) (dn : Int) (z : Nat → Int) : Int := if 0 ≤ plc t r ∧ plc t r < (N : Int) then z (plc t r).toNat else dn

set_option maxHeartbeats 4000000 in
theorem told_any (w : World) (G : List Nat) (tb : Nat) (t : List Nd) (most : Int) (F : List Nat) (b : Nat) (own s0 b0 : List Int) (r : List UInt8) (dn : Int) (fn P : Nat) (z : Nat → Int) (hcf : ∀ (args : Array Value) (W : World), (callFunc fn args).run Try.prog W = .ok (.enter fn args) W) (hT : Tre w G tb t most) (h : Wgt w F b tb own s0 b0) (hr : r.length = 32)
    (hf : ∀ (j : Nat) W, j < own.length → Below w.heap.size w W → Calls Try.prog fn #[.int .i64 (j : Int), .pointer (some ⟨P, 0, none⟩)] W fun e w' => e = .returned (.int .i64 (z j)) ∧ w' = W) :
    Calls Try.prog 29 #[.pointer (some ⟨b, 0, none⟩), .agg (bv r).toArray, .int .i64 dn, .func (.func fn) #[] #[.pointer (some ⟨P, 0, none⟩)]] w fun e w' => e = .returned (.int .i64 (tellZ t own.length r dn z)) ∧ Below w.heap.size w w' := by
  have hb1 : Below w.heap.size w (w.alloc (.cells (bv r).toArray 24)) := (Below.refl _ w).alloc (Nat.le_refl _) _
  have HX := Lib.hid (Blk.new w 24 (bv r).toArray)
  obtain ⟨X, hX⟩ : ∃ X, X = w.heap.size := ⟨_, rfl⟩
  rw [← hX] at HX
  have HT := Lib.hid (hT.below hb1)
  have HW := Lib.hid (h.below hb1)
  have HB := Lib.hid hb1
  have HF := Lib.hid hf
  clear hT h hf hb1
  go_enter Try.func29, Try.ntmps29
  go_upto_region 3 with fail
  rw [← hX]
  generalize w.alloc (.cells (bv r).toArray 24) = w2 at HT HW HB HX ⊢
  clear hX
  obtain ⟨e1', e2', e3', e4', e5', e6', e7', e8', e9', f1', f2', f3', hs2⟩ := HW.out.open
  have k0 := hs2.cell0
  have HQ := Lib.hid (show ∀ w', (∃ nq, w' = w2.drewN nq) → ∀ j v, (bv r)[j]? = some v → w'.cell? ⟨X, 0 + j, none⟩ = some v by
    rintro w' ⟨nq, rfl⟩
    exact (HX.out.drewN nq).rootAll)
  clear hs2
  refine wp_region_draws_tail 5 (by kernel_rfl) (by kernel_rfl) ?_
  simp only [List.take_succ_cons, List.take_zero, List.drop_succ_cons, List.drop_zero]
  repeat (first | ((with_reducible refine wpQuiet_load_name (.tmp 5) ?_ ?_ X 0 r ?_ hr HQ.out ?_); rfl; rfl; rfl; simp only [Act.put, List.setIfInBounds_toArray, List.set_cons_zero, List.set_cons_succ]) | go_big_quiet_step (fail))
  refine wpQuiet_nil ?_
  rintro _ ⟨nq, rfl⟩
  have HT3 := Lib.hid (HT.out.below (below_dN (Below.refl _ _) nq))
  have HW3 := Lib.hid (HW.out.below (below_dN (Below.refl _ _) nq))
  have HB3 := Lib.hid (below_dN HB.out nq)
  generalize w2.drewN nq = w3 at HT3 HW3 HB3 ⊢
  clear HT HW HB HX HQ k0
  go_wp2_with fail
  refine (place_any w3 G tb t most r HT3.out hr).mono ?_
  rintro e w4 ⟨rfl, hb4⟩
  have HB4 := Lib.hid (HB3.out.trans (hb4.mono HB3.out.size))
  obtain ⟨e1', e2', e3', e4', e5', e6', e7', e8', e9', f1', f2', f3', hs4⟩ := (HW3.out.below hb4).open
  have k1 := hs4.cell1
  clear hb4 HT3 HW3 HB3 hs4
  rcases plc_cases t r with ⟨j, nd, hnd, _, hpl, _⟩ | ⟨_, hpl⟩
  · rw [hpl]
    have HPL := Lib.hid hpl
    have d1 : ¬ ((j : Int) = -1) := by omega
    have d2 : ((j : Int) == -1) = false := by simp [d1]
    clear hnd hpl
    by_cases hj : j < own.length
    · have d3 : (j : Int) < (own.length : Int) := by omega
      have d4 : ¬ ((own.length : Int) ≤ (j : Int)) := by omega
      have d5 : decide ((own.length : Int) ≤ (j : Int)) = false := decide_eq_false d4
      have HR := Lib.hid (show tellZ t own.length r dn z = z j by unfold tellZ; rw [HPL.out, if_pos (by omega), Int.toNat_natCast])
      go_wp2_with fail
      refine (HF.out j w4 hj HB4.out).mono ?_
      rintro e w5 ⟨rfl, hw5⟩
      have hw5 := hw5.symm
      subst hw5
      go_wp2_with fail
      go_ret
      exact ⟨by rw [HR.out]; rfl, HB4.out⟩
    · have d4 : (own.length : Int) ≤ (j : Int) := by omega
      have d5 : decide ((own.length : Int) ≤ (j : Int)) = true := decide_eq_true d4
      have HR := Lib.hid (show tellZ t own.length r dn z = dn by unfold tellZ; rw [HPL.out, if_neg (by omega)])
      go_wp2_with fail
      go_ret
      exact ⟨by rw [HR.out]; rfl, HB4.out⟩
  · rw [hpl]
    have HR := Lib.hid (show tellZ t own.length r dn z = dn by unfold tellZ; rw [hpl, if_neg (by omega)])
    clear hpl
    go_wp2_with fail
    go_ret
    exact ⟨by rw [HR.out]; rfl, HB4.out⟩
theorem told_nil (w : World) (r : List UInt8) (dn : Int) (f : Value) :
    Calls Try.prog 29 #[.pointer none, .agg (bv r).toArray, .int .i64 dn, f] w fun e w' => e = .returned (.int .i64 dn) ∧ Below w.heap.size w w' := by
  have HB := Lib.hid (show Below w.heap.size w (w.alloc (.cells (bv r).toArray 24)) from (Below.refl _ w).alloc (Nat.le_refl _) _)
  go_enter Try.func29, Try.ntmps29
  go_wp2_with fail
  go_ret
  exact ⟨rfl, HB.out⟩
theorem own_fn (W : World) (F : List Nat) (b tb P j : Nat) (t : List Nd) (own : List Int) (h : Wgt W F b tb own (wtsL t own) (bssL t own)) (hP : W.cell? ⟨P, 0, none⟩ = some (.pointer (some ⟨b, 0, none⟩))) (hj : j < own.length) :
    Calls Try.prog 35 #[.int .i64 (j : Int), .pointer (some ⟨P, 0, none⟩)] W fun e w' => e = .returned (.int .i64 (owZ own j)) ∧ w' = W := by
  obtain ⟨a1, a2, a3, c1, c2, c3, g1, g2, g3, o1, o2, o3, hs⟩ := h.open
  obtain ⟨ha, e1⟩ := lies_z hs.l1 (show own[j]? = some (owZ own j) by rw [List.getElem?_eq_getElem hj, owZ_at (List.getElem?_eq_getElem hj)])
  subst ha
  have k := hs.cell1
  have d1 : (0 : Int) ≤ (j : Int) := by omega
  have d2 : (j : Int) < (own.length : Int) := by omega
  have d3 : j < own.length := by omega
  clear h hs
  go_enter Try.func35, Try.ntmps35
  go_wp2_with fail
  go_ret
  exact ⟨rfl, rfl⟩

theorem wt_fn (W : World) (F : List Nat) (b tb P j : Nat) (t : List Nd) (own : List Int) (h : Wgt W F b tb own (wtsL t own) (bssL t own)) (hP : W.cell? ⟨P, 0, none⟩ = some (.pointer (some ⟨b, 0, none⟩))) (hj : j < own.length) :
    Calls Try.prog 36 #[.int .i64 (j : Int), .pointer (some ⟨P, 0, none⟩)] W fun e w' => e = .returned (.int .i64 (wtW t own j)) ∧ w' = W := by
  obtain ⟨a1, a2, a3, c1, c2, c3, g1, g2, g3, o1, o2, o3, hs⟩ := h.open
  obtain ⟨ha, e1⟩ := lies_z hs.l2 (wtsL_at hj)
  subst ha
  have k := hs.cell2
  have d1 : (0 : Int) ≤ (j : Int) := by omega
  have d2 : (j : Int) < ((wtsL t own).length : Int) := by rw [wtsL_length]; omega
  have d3 : j < (wtsL t own).length := by rw [wtsL_length]; omega
  clear h hs
  go_enter Try.func36, Try.ntmps36
  go_wp2_with fail
  go_ret
  exact ⟨rfl, rfl⟩

theorem bs_fn (W : World) (F : List Nat) (b tb P j : Nat) (t : List Nd) (own : List Int) (h : Wgt W F b tb own (wtsL t own) (bssL t own)) (hP : W.cell? ⟨P, 0, none⟩ = some (.pointer (some ⟨b, 0, none⟩))) (hj : j < own.length) :
    Calls Try.prog 30 #[.int .i64 (j : Int), .pointer (some ⟨P, 0, none⟩)] W fun e w' => e = .returned (.int .i64 (bsW t own j)) ∧ w' = W := by
  obtain ⟨a1, a2, a3, c1, c2, c3, g1, g2, g3, o1, o2, o3, hs⟩ := h.open
  obtain ⟨ha, e1⟩ := lies_z hs.l3 (bssL_at hj)
  subst ha
  have k := hs.cell3
  have d1 : (0 : Int) ≤ (j : Int) := by omega
  have d2 : (j : Int) < ((bssL t own).length : Int) := by rw [bssL_length]; omega
  have d3 : j < (bssL t own).length := by rw [bssL_length]; omega
  clear h hs
  go_enter Try.func30, Try.ntmps30
  go_wp2_with fail
  go_ret
  exact ⟨rfl, rfl⟩

set_option maxHeartbeats 4000000 in
theorem own_any (w : World) (G : List Nat) (tb : Nat) (t : List Nd) (most : Int) (F : List Nat) (b : Nat) (own : List Int) (r : List UInt8) (hT : Tre w G tb t most) (h : WgtG w F b tb t own) (hr : r.length = 32) :
    Calls Try.prog 13 #[.pointer (some ⟨b, 0, none⟩), .agg (bv r).toArray] w fun e w' => e = .returned (.int .i64 (tellZ t own.length r 0 (owZ own))) ∧ Below w.heap.size w w' := by
  have hb1 : Below w.heap.size w ((w.alloc (.cells #[.pointer (some ⟨b, 0, none⟩)] 26)).alloc (.cells (bv r).toArray 24)) := ((Below.refl _ w).alloc (Nat.le_refl _) _).alloc (by simp) _
  have HP := Lib.hid ((Blk.new w 26 #[.pointer (some ⟨b, 0, none⟩)]).alloc (.cells (bv r).toArray 24))
  have hx := Blk.new (w.alloc (.cells #[.pointer (some ⟨b, 0, none⟩)] 26)) 24 (bv r).toArray
  rw [World.size_alloc] at hx
  have HX := Lib.hid hx
  have HT := Lib.hid (hT.below hb1)
  have HW := Lib.hid (h.2.2.2.below hb1)
  have HB := Lib.hid hb1
  clear hT h hx hb1
  go_enter Try.func13, Try.ntmps13
  go_upto_region 1 with fail
  try simp only [World.size_alloc]
  generalize (w.alloc (.cells #[.pointer (some ⟨b, 0, none⟩)] 26)).alloc (.cells (bv r).toArray 24) = w1 at HP HX HT HW HB ⊢
  generalize w.heap.size + 1 = X at HX ⊢
  obtain ⟨P, hP⟩ : ∃ P, P = w.heap.size := ⟨_, rfl⟩
  have HPE := Lib.hid hP
  rw [← hP] at HP ⊢
  clear hP
  have HXA := Lib.hid HX.out.rootAll
  have kp := HP.out.cell 0
  simp only [List.getElem?_cons_zero] at kp
  have HF := Lib.hid (show ∀ (j : Nat) W, j < own.length → Below w1.heap.size w1 W → Calls Try.prog 35 #[.int .i64 (j : Int), .pointer (some ⟨P, 0, none⟩)] W fun e w' => e = .returned (.int .i64 (owZ own j)) ∧ w' = W from fun j W hj hb => own_fn W F b tb P j t own (HW.out.below hb) ((HP.out.below hb HP.out.lt).cell 0) hj)
  go_wp2_with ((with_reducible refine wpList_load_name (.tmp 3) ?_ ?_ X 0 r ?_ hr HXA.out ?_); rfl; rfl; rfl)
  refine (told_any w1 G tb t most F b own (wtsL t own) (bssL t own) r 0 _ P (owZ own) callOwn HT.out HW.out hr HF.out).mono ?_
  rintro e w2 ⟨rfl, hb2⟩
  have HB2 := Lib.hid (HB.out.trans (hb2.mono HB.out.size))
  clear hb2
  go_wp2_with fail
  go_ret
  exact ⟨rfl, HB2.out⟩
theorem own_nil (w : World) (r : List UInt8) (hr : r.length = 32) : Calls Try.prog 13 #[.pointer none, .agg (bv r).toArray] w fun e w' => e = .returned (.int .i64 0) ∧ Below w.heap.size w w' := by
  have HB := Lib.hid (show Below w.heap.size w ((w.alloc (.cells #[.pointer none] 26)).alloc (.cells (bv r).toArray 24)) from ((Below.refl _ w).alloc (Nat.le_refl _) _).alloc (by simp) _)
  have HP := Lib.hid ((Blk.new w 26 #[.pointer none]).alloc (.cells (bv r).toArray 24))
  have hx := Blk.new (w.alloc (.cells #[.pointer none] 26)) 24 (bv r).toArray
  rw [World.size_alloc] at hx
  have HX := Lib.hid hx
  clear hx
  go_enter Try.func13, Try.ntmps13
  go_upto_region 1 with fail
  try simp only [World.size_alloc]
  generalize (w.alloc (.cells #[.pointer none] 26)).alloc (.cells (bv r).toArray 24) = w1 at HP HX HB ⊢
  generalize w.heap.size + 1 = X at HX ⊢
  have HXA := Lib.hid HX.out.rootAll
  have kp := HP.out.cell 0
  simp only [List.getElem?_cons_zero] at kp
  go_wp2_with ((with_reducible refine wpList_load_name (.tmp 3) ?_ ?_ X 0 r ?_ hr HXA.out ?_); rfl; rfl; rfl)
  refine (told_nil w1 r 0 _).mono ?_
  rintro e w2 ⟨rfl, hb2⟩
  have HB2 := Lib.hid (HB.out.trans (hb2.mono HB.out.size))
  clear hb2
  go_wp2_with fail
  go_ret
  exact ⟨rfl, HB2.out⟩

set_option maxHeartbeats 4000000 in
theorem wt_any (w : World) (G : List Nat) (tb : Nat) (t : List Nd) (most : Int) (F : List Nat) (b : Nat) (own : List Int) (r : List UInt8) (hT : Tre w G tb t most) (h : WgtG w F b tb t own) (hr : r.length = 32) :
    Calls Try.prog 14 #[.pointer (some ⟨b, 0, none⟩), .agg (bv r).toArray] w fun e w' => e = .returned (.int .i64 (tellZ t own.length r 0 (wtW t own))) ∧ Below w.heap.size w w' := by
  have hb1 : Below w.heap.size w ((w.alloc (.cells #[.pointer (some ⟨b, 0, none⟩)] 26)).alloc (.cells (bv r).toArray 24)) := ((Below.refl _ w).alloc (Nat.le_refl _) _).alloc (by simp) _
  have HP := Lib.hid ((Blk.new w 26 #[.pointer (some ⟨b, 0, none⟩)]).alloc (.cells (bv r).toArray 24))
  have hx := Blk.new (w.alloc (.cells #[.pointer (some ⟨b, 0, none⟩)] 26)) 24 (bv r).toArray
  rw [World.size_alloc] at hx
  have HX := Lib.hid hx
  have HT := Lib.hid (hT.below hb1)
  have HW := Lib.hid (h.2.2.2.below hb1)
  have HB := Lib.hid hb1
  clear hT h hx hb1
  go_enter Try.func14, Try.ntmps14
  go_upto_region 1 with fail
  try simp only [World.size_alloc]
  generalize (w.alloc (.cells #[.pointer (some ⟨b, 0, none⟩)] 26)).alloc (.cells (bv r).toArray 24) = w1 at HP HX HT HW HB ⊢
  generalize w.heap.size + 1 = X at HX ⊢
  obtain ⟨P, hP⟩ : ∃ P, P = w.heap.size := ⟨_, rfl⟩
  have HPE := Lib.hid hP
  rw [← hP] at HP ⊢
  clear hP
  have HXA := Lib.hid HX.out.rootAll
  have kp := HP.out.cell 0
  simp only [List.getElem?_cons_zero] at kp
  have HF := Lib.hid (show ∀ (j : Nat) W, j < own.length → Below w1.heap.size w1 W → Calls Try.prog 36 #[.int .i64 (j : Int), .pointer (some ⟨P, 0, none⟩)] W fun e w' => e = .returned (.int .i64 (wtW t own j)) ∧ w' = W from fun j W hj hb => wt_fn W F b tb P j t own (HW.out.below hb) ((HP.out.below hb HP.out.lt).cell 0) hj)
  go_wp2_with ((with_reducible refine wpList_load_name (.tmp 3) ?_ ?_ X 0 r ?_ hr HXA.out ?_); rfl; rfl; rfl)
  refine (told_any w1 G tb t most F b own (wtsL t own) (bssL t own) r 0 _ P (wtW t own) callWeight HT.out HW.out hr HF.out).mono ?_
  rintro e w2 ⟨rfl, hb2⟩
  have HB2 := Lib.hid (HB.out.trans (hb2.mono HB.out.size))
  clear hb2
  go_wp2_with fail
  go_ret
  exact ⟨rfl, HB2.out⟩
theorem wt_nil (w : World) (r : List UInt8) (hr : r.length = 32) : Calls Try.prog 14 #[.pointer none, .agg (bv r).toArray] w fun e w' => e = .returned (.int .i64 0) ∧ Below w.heap.size w w' := by
  have HB := Lib.hid (show Below w.heap.size w ((w.alloc (.cells #[.pointer none] 26)).alloc (.cells (bv r).toArray 24)) from ((Below.refl _ w).alloc (Nat.le_refl _) _).alloc (by simp) _)
  have HP := Lib.hid ((Blk.new w 26 #[.pointer none]).alloc (.cells (bv r).toArray 24))
  have hx := Blk.new (w.alloc (.cells #[.pointer none] 26)) 24 (bv r).toArray
  rw [World.size_alloc] at hx
  have HX := Lib.hid hx
  clear hx
  go_enter Try.func14, Try.ntmps14
  go_upto_region 1 with fail
  try simp only [World.size_alloc]
  generalize (w.alloc (.cells #[.pointer none] 26)).alloc (.cells (bv r).toArray 24) = w1 at HP HX HB ⊢
  generalize w.heap.size + 1 = X at HX ⊢
  have HXA := Lib.hid HX.out.rootAll
  have kp := HP.out.cell 0
  simp only [List.getElem?_cons_zero] at kp
  go_wp2_with ((with_reducible refine wpList_load_name (.tmp 3) ?_ ?_ X 0 r ?_ hr HXA.out ?_); rfl; rfl; rfl)
  refine (told_nil w1 r 0 _).mono ?_
  rintro e w2 ⟨rfl, hb2⟩
  have HB2 := Lib.hid (HB.out.trans (hb2.mono HB.out.size))
  clear hb2
  go_wp2_with fail
  go_ret
  exact ⟨rfl, HB2.out⟩
end Go.Proofs.Ytpamifdcbnkcdaa
