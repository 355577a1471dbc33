/-
  The program's New and Add.
-/
import Derived.Test.YtmchjmcdlapegaaTPut
namespace Go.Proofs.Ytmchjmcdlapegaa
open Go.RowKit
set_option maxRecDepth 10000

theorem blk_zero (w : World) : Blk (w.alloc (.cells #[.int .u8 0, .int .u8 0, .int .u8 0, .int .u8 0, .int .u8 0, .int .u8 0, .int .u8 0, .int .u8 0, .int .u8 0, .int .u8 0, .int .u8 0, .int .u8 0, .int .u8 0, .int .u8 0, .int .u8 0, .int .u8 0, .int .u8 0, .int .u8 0, .int .u8 0, .int .u8 0, .int .u8 0, .int .u8 0, .int .u8 0, .int .u8 0, .int .u8 0, .int .u8 0, .int .u8 0, .int .u8 0, .int .u8 0, .int .u8 0, .int .u8 0, .int .u8 0, .int .i64 0, .int .i64 0] 51)) w.heap.size 51 (ndv nd0) := Blk.new w _ (ndv nd0).toArray
theorem nd0_len : nd0.1.length = 32 := by simp [nd0, zero32]

theorem tre_start (w : World) (most : Int) (b m : Nat) (hb : b = w.heap.size + 1) (hm : m = w.heap.size) :
    TreR ((w.alloc (.map #[] 0)).alloc (.cells #[.slice none 0 0, .map (some m), .int .i64 most] 62)) [b, m] b m (.slice none 0 0) [] most := by
  subst hb hm
  refine ⟨fun x hx => (by cases hx), Blk.newAt (w.alloc (.map #[] 0)) _ #[.slice none 0 0, .map (some w.heap.size), .int .i64 most] _ (by simp), wide_nil0 34 _ 0, ⟨.map [], (World.ownsMap_made w _ _ _).alloc _, says_none⟩, by simp [Value.ownBlock], by simp [Value.ownBlock], by omega, by simp, by simp, fun j hj => by simp [Value.ownBlock] at hj, fun x hx => ?_⟩
  simp at hx
  rcases hx with rfl | rfl <;> simp <;> omega

theorem new_ok (w : World) (r : List UInt8) (s most : Int) (hr : r.length = 32) (h1 : 1 ≤ most) (h2 : most ≤ 256) (h3 : 0 ≤ s) (h4 : s ≤ 1073741824) :
    Calls Try.prog 17 #[.agg (bv r).toArray, .int .i64 s, .int .i64 most] w fun e w' => ∃ F b, e = .returned (.tuple #[.pointer (some ⟨b, 0, none⟩), .int .i64 0]) ∧ Tre w' F b [(r, s, -1)] most ∧ High w.heap.size F ∧ Below w.heap.size w w' := by
  have HX := Lib.hid (Blk.new w 23 (bv r).toArray)
  obtain ⟨X, hX⟩ : ∃ X, X = w.heap.size := ⟨_, rfl⟩
  have HXe := Lib.hid hX
  have HB := Lib.hid (show Below w.heap.size w (w.alloc (.cells (bv r).toArray 23)) from (Below.refl _ w).alloc (Nat.le_refl _) _)
  have HS := Lib.hid (show w.heap.size < (w.alloc (.cells (bv r).toArray 23)).heap.size by simp)
  have hmm := @run_makeMap Try.prog
  have d1 : ¬ (most < (1 : Int)) := by omega
  have d2 : ¬ ((256 : Int) < most) := by omega
  have d3 : ¬ (s < (0 : Int)) := by omega
  have d4 : ¬ ((1073741824 : Int) < s) := by omega
  go_enter Try.func17, Try.ntmps17
  go_upto_region 3 with fail
  rw [← hX] at HX ⊢
  generalize w.alloc (.cells (bv r).toArray 23) = w1 at HX HB HS ⊢
  have HT := Lib.hid (tre_start w1 most (w1.heap.size + 1) w1.heap.size rfl rfl)
  have HB3 := Lib.hid (show Below w.heap.size w ((w1.alloc (.map #[] 0)).alloc (.cells #[.slice none 0 0, .map (some w1.heap.size), .int .i64 most] 62)) from (HB.out.alloc (Nat.le_of_lt HS.out) _).alloc (by have := HS.out; simp; omega) _)
  have HX3 := Lib.hid ((HX.out.alloc (.map #[] 0)).alloc (.cells #[.slice none 0 0, .map (some w1.heap.size), .int .i64 most] 62))
  have HZ := Lib.hid (show w.heap.size < ((w1.alloc (.map #[] 0)).alloc (.cells #[.slice none 0 0, .map (some w1.heap.size), .int .i64 most] 62)).heap.size by have := HS.out; simp; omega)
  go_upto_region 4 with fail
  generalize (w1.alloc (.map #[] 0)).alloc (.cells #[.slice none 0 0, .map (some w1.heap.size), .int .i64 most] 62) = w3 at HT HB3 HX3 HZ ⊢
  obtain ⟨b, hb⟩ : ∃ b, b = w1.heap.size + 1 := ⟨_, rfl⟩
  obtain ⟨m, hm⟩ : ∃ m, m = w1.heap.size := ⟨_, rfl⟩
  have HF := Lib.hid (show High w.heap.size [b, m] from fun x hx => by
    have := HS.out
    simp at hx
    rcases hx with rfl | rfl <;> omega)
  rw [← hb, ← hm] at HT
  rw [← hb]
  rw [← hm]
  clear hb hm hX hmm HX HS HB
  have HBU := Lib.hid (built_node r s (-1) hr)
  have HXA := Lib.hid HX3.out.rootAll
  have HG := Lib.hid (Good.one hr h3 h4 h1 h2)
  go_wp2_with (first
    | ((with_reducible refine wpList_load_name (.tmp 3) ?_ ?_ X 0 r ?_ hr HXA.out ?_); rfl; rfl; rfl)
    | ((with_reducible refine wpList_build_l 51 #[(0, .tmp 28), (1, .tmp 29), (2, .const (.int .i64 (-1)))] _ _ HBU.out ?_ ?_ ?_ ?_); rfl; rfl; rfl))
  refine (put_any w3 [b, m] b m (.slice none 0 0) [] most (r, s, -1) HT.out (by simp [rs]) hr (by simp)).mono ?_
  rintro e w4 ⟨rfl, F', v', ht, hk, hn⟩
  have HT4 := Lib.hid ht
  have HK4 := Lib.hid hk
  have HN4 := Lib.hid hn
  clear ht hk hn
  go_wp2_with fail
  go_ret2
  exact ⟨F', b, rfl, ⟨HG.out, m, v', HT4.out⟩, HF.out.new HN4.out (Nat.le_of_lt HZ.out), HB3.out.trans (HK4.out.below (Nat.le_of_lt HZ.out) HF.out)⟩

theorem new_bad (w : World) (r : List UInt8) (s most : Int) (h : ¬ (1 ≤ most ∧ most ≤ 256 ∧ 0 ≤ s ∧ s ≤ 1073741824)) :
    Calls Try.prog 17 #[.agg (bv r).toArray, .int .i64 s, .int .i64 most] w fun e w' => e = .returned (.tuple #[.pointer none, .int .i64 1]) ∧ Below w.heap.size w w' := by
  have HB := Lib.hid (show Below w.heap.size w (w.alloc (.cells (bv r).toArray 23)) from (Below.refl _ w).alloc (Nat.le_refl _) _)
  go_enter Try.func17, Try.ntmps17
  by_cases h1 : most < 1
  · clear h
    go_wp2_with fail
    go_ret2
    exact ⟨rfl, HB.out⟩
  · by_cases h2 : 256 < most
    · clear h
      go_wp2_with fail
      go_ret2
      exact ⟨rfl, HB.out⟩
    · by_cases h3 : s < 0
      · clear h
        go_wp2_with fail
        go_ret2
        exact ⟨rfl, HB.out⟩
      · have h4 : (1073741824 : Int) < s := by omega
        clear h
        go_wp2_with fail
        go_ret2
        exact ⟨rfl, HB.out⟩

theorem add_nil (w : World) (r p : List UInt8) (s : Int) :
    Calls Try.prog 10 #[.pointer none, .agg (bv r).toArray, .agg (bv p).toArray, .int .i64 s] w fun e w' => e = .returned (.int .i64 2) ∧ Below w.heap.size w w' := by
  have HB := Lib.hid (show Below w.heap.size w ((w.alloc (.cells (bv r).toArray 23)).alloc (.cells (bv p).toArray 23)) from ((Below.refl _ w).alloc (Nat.le_refl _) _).alloc (by simp) _)
  go_enter Try.func10, Try.ntmps10
  go_wp2_with fail
  go_ret
  exact ⟨rfl, HB.out⟩

set_option maxHeartbeats 4000000 in
theorem add_any (w : World) (F : List Nat) (b : Nat) (t : List Nd) (most : Int) (r p : List UInt8) (s : Int) (h : Tre w F b t most) (hr : r.length = 32) (hp : p.length = 32) :
    Calls Try.prog 10 #[.pointer (some ⟨b, 0, none⟩), .agg (bv r).toArray, .agg (bv p).toArray, .int .i64 s] w fun e w' => e = .returned (.int .i64 (addT most t r p s).1) ∧ ∃ F', Tre w' F' b (addT most t r p s).2 most ∧ Kept F w w' ∧ NewF w F F' := by
  have hb1 : Below w.heap.size w ((w.alloc (.cells (bv r).toArray 23)).alloc (.cells (bv p).toArray 23)) := ((Below.refl _ w).alloc (Nat.le_refl _) _).alloc (by simp) _
  have HB := Lib.hid hb1
  have HX := Lib.hid ((Blk.new w 23 (bv r).toArray).alloc (.cells (bv p).toArray 23))
  have HY := Lib.hid (Blk.newAt (w.alloc (.cells (bv r).toArray 23)) 23 (bv p).toArray (w.heap.size + 1) (by simp))
  have H1 := Lib.hid (h.below hb1)
  have HLow := Lib.hid h.low
  obtain ⟨X, hX⟩ : ∃ X, X = w.heap.size := ⟨_, rfl⟩
  obtain ⟨Y, hY⟩ : ∃ Y, Y = w.heap.size + 1 := ⟨_, rfl⟩
  have HXX := Lib.hid (show w.heap.size ≤ X by omega)
  have HYX := Lib.hid (show w.heap.size ≤ Y by omega)
  have HG := Lib.hid h.1
  have g1 := h.1.most256
  have g3 := h.1.room
  clear hb1 h
  go_enter Try.func10, Try.ntmps10
  go_upto_region 1 with fail
  rw [← hY] at HY ⊢
  rw [← hX] at HX ⊢
  generalize (w.alloc (.cells (bv r).toArray 23)).alloc (.cells (bv p).toArray 23) = w1 at HB HX HY H1 ⊢
  clear hX hY
  have HXA := Lib.hid HX.out.rootAll
  rcases addT_cases most t r p s with ⟨h1, h⟩ | ⟨h1, h2, h⟩ | ⟨i, m, h1, h2, hi, h3, h⟩ | ⟨i, m, h1, h2, hi, h3, h4, h⟩ | ⟨i, m, h1, h2, hi, h3, h4, h5, h⟩ | ⟨i, m, h1, h2, hi, h3, h4, h5, h⟩
  · have HA := Lib.hid h
    have HP1 := Lib.hid (place_any w1 F b t most r H1.out hr)
    have d1 : ¬ (plc t r = -1) := by omega
    clear h
    go_wp2_with ((with_reducible refine wpList_load_name (.tmp 5) ?_ ?_ X 0 r ?_ hr HXA.out ?_); rfl; rfl; rfl)
    refine HP1.out.mono ?_
    rintro e w2 ⟨rfl, hb2⟩
    have HB2 := Lib.hid (HB.out.trans (hb2.mono HB.out.size))
    have H2 := Lib.hid (H1.out.below hb2)
    clear hb2 HP1 HXA HX HY
    go_wp2_with fail
    go_ret
    rw [HA.out]
    exact ⟨rfl, F, H2.out, Kept.of_below F HB2.out, NewF.refl _ _⟩
  · have HA := Lib.hid h
    have HP1 := Lib.hid (place_any w1 F b t most r H1.out hr)
    rw [h1] at HP1
    clear h h1
    go_wp2_with ((with_reducible refine wpList_load_name (.tmp 5) ?_ ?_ X 0 r ?_ hr HXA.out ?_); rfl; rfl; rfl)
    refine HP1.out.mono ?_
    rintro e w2 ⟨rfl, hb2⟩
    have HB2 := Lib.hid (HB.out.trans (hb2.mono HB.out.size))
    have H2 := Lib.hid (H1.out.below hb2)
    have HX2 := Lib.hid (HX.out.below hb2 HX.out.lt)
    have HYA := Lib.hid (HY.out.below hb2 HY.out.lt).rootAll
    have HP2 := Lib.hid (place_any w2 F b t most p H2.out hp)
    rw [h2] at HP2
    clear hb2 HP1 HXA HX HY h2
    go_wp2_with ((with_reducible refine wpList_load_name (.tmp 6) ?_ ?_ Y 0 p ?_ hp HYA.out ?_); rfl; rfl; rfl)
    refine HP2.out.mono ?_
    rintro e w3 ⟨rfl, hb3⟩
    have HB3 := Lib.hid (HB2.out.trans (hb3.mono HB2.out.size))
    have H3 := Lib.hid (H2.out.below hb3)
    have HX3 := Lib.hid (HX2.out.below hb3 HX2.out.lt)
    have HN := Lib.hid (node_any w3 F b t most (-1) H3.out)
    rw [nodeAt_neg (show (-1 : Int) < 0 by omega)] at HN
    obtain ⟨nd, hnd⟩ : ∃ nd, nd = nodeOr t (-1) := ⟨_, rfl⟩
    have HNL := Lib.hid (show nd.1.length = 32 by rw [hnd]; exact HG.out.nds.nodeOr _)
    rw [← hnd] at HN
    clear hb3 HP2 HYA H2 HX2 HB2 hnd
    go_wp2_with fail
    refine HN.out.mono ?_
    rintro e w4 ⟨rfl, hb4⟩
    have HB4 := Lib.hid (HB3.out.trans (hb4.mono HB3.out.size))
    have H4 := Lib.hid (H3.out.below hb4)
    have HX4 := Lib.hid (HX3.out.below hb4 HX3.out.lt)
    have HZ := Lib.hid (blk_zero w4)
    have HZL := Lib.hid nd0_len
    have HN5 := Lib.hid (HZ.out.setRow (ndv nd))
    have hb5 : Below w4.heap.size w4 ((w4.alloc (.cells #[.int .u8 0, .int .u8 0, .int .u8 0, .int .u8 0, .int .u8 0, .int .u8 0, .int .u8 0, .int .u8 0, .int .u8 0, .int .u8 0, .int .u8 0, .int .u8 0, .int .u8 0, .int .u8 0, .int .u8 0, .int .u8 0, .int .u8 0, .int .u8 0, .int .u8 0, .int .u8 0, .int .u8 0, .int .u8 0, .int .u8 0, .int .u8 0, .int .u8 0, .int .u8 0, .int .u8 0, .int .u8 0, .int .u8 0, .int .u8 0, .int .u8 0, .int .u8 0, .int .i64 0, .int .i64 0] 51)).setRow w4.heap.size (ndv nd).toArray) := below_row ((Below.refl _ _).alloc (Nat.le_refl _) _) (Nat.le_refl _) _
    have HB5 := Lib.hid (HB4.out.trans (hb5.mono HB4.out.size))
    have H5 := Lib.hid (H4.out.below hb5)
    have HX5 := Lib.hid (HX4.out.below hb5 HX4.out.lt)
    clear hb4 HN H3 HX3 HB3 hb5
    go_upto_region 7 with ((with_reducible refine wpList_store_node (.tmp 10) (.tmp 25) ?_ ?_ w4.heap.size nd0 nd ?_ ?_ HZ.out HZL.out HNL.out ?_); rfl; rfl; rfl; rfl)
    generalize (w4.alloc (.cells #[.int .u8 0, .int .u8 0, .int .u8 0, .int .u8 0, .int .u8 0, .int .u8 0, .int .u8 0, .int .u8 0, .int .u8 0, .int .u8 0, .int .u8 0, .int .u8 0, .int .u8 0, .int .u8 0, .int .u8 0, .int .u8 0, .int .u8 0, .int .u8 0, .int .u8 0, .int .u8 0, .int .u8 0, .int .u8 0, .int .u8 0, .int .u8 0, .int .u8 0, .int .u8 0, .int .u8 0, .int .u8 0, .int .u8 0, .int .u8 0, .int .u8 0, .int .u8 0, .int .i64 0, .int .i64 0] 51)).setRow w4.heap.size (ndv nd).toArray = w5 at HN5 HB5 H5 HX5 ⊢
    have c32 := HN5.out.nodeSlot HNL.out
    clear HZ HB4 H4 HX4
    go_wp2_with fail
    go_ret
    rw [HA.out]
    exact ⟨rfl, F, H5.out, Kept.of_below F HB5.out, NewF.refl _ _⟩
  · have HA := Lib.hid h
    have HP1 := Lib.hid (place_any w1 F b t most r H1.out hr)
    rw [h1] at HP1
    clear h h1
    go_wp2_with ((with_reducible refine wpList_load_name (.tmp 5) ?_ ?_ X 0 r ?_ hr HXA.out ?_); rfl; rfl; rfl)
    refine HP1.out.mono ?_
    rintro e w2 ⟨rfl, hb2⟩
    have HB2 := Lib.hid (HB.out.trans (hb2.mono HB.out.size))
    have H2 := Lib.hid (H1.out.below hb2)
    have HX2 := Lib.hid (HX.out.below hb2 HX.out.lt)
    have HYA := Lib.hid (HY.out.below hb2 HY.out.lt).rootAll
    have HP2 := Lib.hid (place_any w2 F b t most p H2.out hp)
    rw [h2] at HP2
    clear hb2 HP1 HXA HX HY h2
    go_wp2_with ((with_reducible refine wpList_load_name (.tmp 6) ?_ ?_ Y 0 p ?_ hp HYA.out ?_); rfl; rfl; rfl)
    refine HP2.out.mono ?_
    rintro e w3 ⟨rfl, hb3⟩
    have HB3 := Lib.hid (HB2.out.trans (hb3.mono HB2.out.size))
    have H3 := Lib.hid (H2.out.below hb3)
    have HX3 := Lib.hid (HX2.out.below hb3 HX2.out.lt)
    have HN := Lib.hid (node_any w3 F b t most (i : Int) H3.out)
    rw [show nodeAt t (i : Int) = some m by rw [nodeAt_nat]; exact hi] at HN
    obtain ⟨nd, hnd⟩ : ∃ nd, nd = nodeOr t (i : Int) := ⟨_, rfl⟩
    have HNL := Lib.hid (show nd.1.length = 32 by rw [hnd]; exact HG.out.nds.nodeOr _)
    have HND := Lib.hid (show nd = m by rw [hnd, nodeOr, nodeAt_nat, hi]; rfl)
    have HI := Lib.hid hi
    clear hi
    rw [← hnd] at HN
    clear hb3 HP2 HYA H2 HX2 HB2 hnd
    go_wp2_with fail
    refine HN.out.mono ?_
    rintro e w4 ⟨rfl, hb4⟩
    have HB4 := Lib.hid (HB3.out.trans (hb4.mono HB3.out.size))
    have H4 := Lib.hid (H3.out.below hb4)
    have HX4 := Lib.hid (HX3.out.below hb4 HX3.out.lt)
    have HZ := Lib.hid (blk_zero w4)
    have HZL := Lib.hid nd0_len
    have HN5 := Lib.hid (HZ.out.setRow (ndv nd))
    have hb5 : Below w4.heap.size w4 ((w4.alloc (.cells #[.int .u8 0, .int .u8 0, .int .u8 0, .int .u8 0, .int .u8 0, .int .u8 0, .int .u8 0, .int .u8 0, .int .u8 0, .int .u8 0, .int .u8 0, .int .u8 0, .int .u8 0, .int .u8 0, .int .u8 0, .int .u8 0, .int .u8 0, .int .u8 0, .int .u8 0, .int .u8 0, .int .u8 0, .int .u8 0, .int .u8 0, .int .u8 0, .int .u8 0, .int .u8 0, .int .u8 0, .int .u8 0, .int .u8 0, .int .u8 0, .int .u8 0, .int .u8 0, .int .i64 0, .int .i64 0] 51)).setRow w4.heap.size (ndv nd).toArray) := below_row ((Below.refl _ _).alloc (Nat.le_refl _) _) (Nat.le_refl _) _
    have HB5 := Lib.hid (HB4.out.trans (hb5.mono HB4.out.size))
    have H5 := Lib.hid (H4.out.below hb5)
    have HX5 := Lib.hid (HX4.out.below hb5 HX4.out.lt)
    clear hb4 HN H3 HX3 HB3 hb5
    go_upto_region 7 with ((with_reducible refine wpList_store_node (.tmp 10) (.tmp 25) ?_ ?_ w4.heap.size nd0 nd ?_ ?_ HZ.out HZL.out HNL.out ?_); rfl; rfl; rfl; rfl)
    generalize (w4.alloc (.cells #[.int .u8 0, .int .u8 0, .int .u8 0, .int .u8 0, .int .u8 0, .int .u8 0, .int .u8 0, .int .u8 0, .int .u8 0, .int .u8 0, .int .u8 0, .int .u8 0, .int .u8 0, .int .u8 0, .int .u8 0, .int .u8 0, .int .u8 0, .int .u8 0, .int .u8 0, .int .u8 0, .int .u8 0, .int .u8 0, .int .u8 0, .int .u8 0, .int .u8 0, .int .u8 0, .int .u8 0, .int .u8 0, .int .u8 0, .int .u8 0, .int .u8 0, .int .u8 0, .int .i64 0, .int .i64 0] 51)).setRow w4.heap.size (ndv nd).toArray = w5 at HN5 HB5 H5 HX5 ⊢
    have c32 := HN5.out.nodeSlot HNL.out
    rw [HND.out] at c32
    clear HZ HB4 H4 HX4
    go_wp2_with fail
    go_ret
    rw [HA.out]
    exact ⟨rfl, F, H5.out, Kept.of_below F HB5.out, NewF.refl _ _⟩
  · have HA := Lib.hid h
    have HP1 := Lib.hid (place_any w1 F b t most r H1.out hr)
    rw [h1] at HP1
    clear h h1
    go_wp2_with ((with_reducible refine wpList_load_name (.tmp 5) ?_ ?_ X 0 r ?_ hr HXA.out ?_); rfl; rfl; rfl)
    refine HP1.out.mono ?_
    rintro e w2 ⟨rfl, hb2⟩
    have HB2 := Lib.hid (HB.out.trans (hb2.mono HB.out.size))
    have H2 := Lib.hid (H1.out.below hb2)
    have HX2 := Lib.hid (HX.out.below hb2 HX.out.lt)
    have HYA := Lib.hid (HY.out.below hb2 HY.out.lt).rootAll
    have HP2 := Lib.hid (place_any w2 F b t most p H2.out hp)
    rw [h2] at HP2
    clear hb2 HP1 HXA HX HY h2
    go_wp2_with ((with_reducible refine wpList_load_name (.tmp 6) ?_ ?_ Y 0 p ?_ hp HYA.out ?_); rfl; rfl; rfl)
    refine HP2.out.mono ?_
    rintro e w3 ⟨rfl, hb3⟩
    have HB3 := Lib.hid (HB2.out.trans (hb3.mono HB2.out.size))
    have H3 := Lib.hid (H2.out.below hb3)
    have HX3 := Lib.hid (HX2.out.below hb3 HX2.out.lt)
    have HN := Lib.hid (node_any w3 F b t most (i : Int) H3.out)
    rw [show nodeAt t (i : Int) = some m by rw [nodeAt_nat]; exact hi] at HN
    obtain ⟨nd, hnd⟩ : ∃ nd, nd = nodeOr t (i : Int) := ⟨_, rfl⟩
    have HNL := Lib.hid (show nd.1.length = 32 by rw [hnd]; exact HG.out.nds.nodeOr _)
    have HND := Lib.hid (show nd = m by rw [hnd, nodeOr, nodeAt_nat, hi]; rfl)
    have HI := Lib.hid hi
    clear hi
    rw [← hnd] at HN
    clear hb3 HP2 HYA H2 HX2 HB2 hnd
    go_wp2_with fail
    refine HN.out.mono ?_
    rintro e w4 ⟨rfl, hb4⟩
    have HB4 := Lib.hid (HB3.out.trans (hb4.mono HB3.out.size))
    have H4 := Lib.hid (H3.out.below hb4)
    have HX4 := Lib.hid (HX3.out.below hb4 HX3.out.lt)
    have HZ := Lib.hid (blk_zero w4)
    have HZL := Lib.hid nd0_len
    have HN5 := Lib.hid (HZ.out.setRow (ndv nd))
    have hb5 : Below w4.heap.size w4 ((w4.alloc (.cells #[.int .u8 0, .int .u8 0, .int .u8 0, .int .u8 0, .int .u8 0, .int .u8 0, .int .u8 0, .int .u8 0, .int .u8 0, .int .u8 0, .int .u8 0, .int .u8 0, .int .u8 0, .int .u8 0, .int .u8 0, .int .u8 0, .int .u8 0, .int .u8 0, .int .u8 0, .int .u8 0, .int .u8 0, .int .u8 0, .int .u8 0, .int .u8 0, .int .u8 0, .int .u8 0, .int .u8 0, .int .u8 0, .int .u8 0, .int .u8 0, .int .u8 0, .int .u8 0, .int .i64 0, .int .i64 0] 51)).setRow w4.heap.size (ndv nd).toArray) := below_row ((Below.refl _ _).alloc (Nat.le_refl _) _) (Nat.le_refl _) _
    have HB5 := Lib.hid (HB4.out.trans (hb5.mono HB4.out.size))
    have H5 := Lib.hid (H4.out.below hb5)
    have HX5 := Lib.hid (HX4.out.below hb5 HX4.out.lt)
    clear hb4 HN H3 HX3 HB3 hb5
    go_upto_region 7 with ((with_reducible refine wpList_store_node (.tmp 10) (.tmp 25) ?_ ?_ w4.heap.size nd0 nd ?_ ?_ HZ.out HZL.out HNL.out ?_); rfl; rfl; rfl; rfl)
    generalize (w4.alloc (.cells #[.int .u8 0, .int .u8 0, .int .u8 0, .int .u8 0, .int .u8 0, .int .u8 0, .int .u8 0, .int .u8 0, .int .u8 0, .int .u8 0, .int .u8 0, .int .u8 0, .int .u8 0, .int .u8 0, .int .u8 0, .int .u8 0, .int .u8 0, .int .u8 0, .int .u8 0, .int .u8 0, .int .u8 0, .int .u8 0, .int .u8 0, .int .u8 0, .int .u8 0, .int .u8 0, .int .u8 0, .int .u8 0, .int .u8 0, .int .u8 0, .int .u8 0, .int .u8 0, .int .i64 0, .int .i64 0] 51)).setRow w4.heap.size (ndv nd).toArray = w5 at HN5 HB5 H5 HX5 ⊢
    have c32 := HN5.out.nodeSlot HNL.out
    rw [HND.out] at c32
    clear HZ HB4 H4 HX4
    have d2 : ¬ (s ≤ m.2.1) := by omega
    go_wp2_with fail
    go_ret
    rw [HA.out]
    exact ⟨rfl, F, H5.out, Kept.of_below F HB5.out, NewF.refl _ _⟩
  · have HA := Lib.hid h
    have HP1 := Lib.hid (place_any w1 F b t most r H1.out hr)
    rw [h1] at HP1
    clear h h1
    go_wp2_with ((with_reducible refine wpList_load_name (.tmp 5) ?_ ?_ X 0 r ?_ hr HXA.out ?_); rfl; rfl; rfl)
    refine HP1.out.mono ?_
    rintro e w2 ⟨rfl, hb2⟩
    have HB2 := Lib.hid (HB.out.trans (hb2.mono HB.out.size))
    have H2 := Lib.hid (H1.out.below hb2)
    have HX2 := Lib.hid (HX.out.below hb2 HX.out.lt)
    have HYA := Lib.hid (HY.out.below hb2 HY.out.lt).rootAll
    have HP2 := Lib.hid (place_any w2 F b t most p H2.out hp)
    rw [h2] at HP2
    clear hb2 HP1 HXA HX HY h2
    go_wp2_with ((with_reducible refine wpList_load_name (.tmp 6) ?_ ?_ Y 0 p ?_ hp HYA.out ?_); rfl; rfl; rfl)
    refine HP2.out.mono ?_
    rintro e w3 ⟨rfl, hb3⟩
    have HB3 := Lib.hid (HB2.out.trans (hb3.mono HB2.out.size))
    have H3 := Lib.hid (H2.out.below hb3)
    have HX3 := Lib.hid (HX2.out.below hb3 HX2.out.lt)
    have HN := Lib.hid (node_any w3 F b t most (i : Int) H3.out)
    rw [show nodeAt t (i : Int) = some m by rw [nodeAt_nat]; exact hi] at HN
    obtain ⟨nd, hnd⟩ : ∃ nd, nd = nodeOr t (i : Int) := ⟨_, rfl⟩
    have HNL := Lib.hid (show nd.1.length = 32 by rw [hnd]; exact HG.out.nds.nodeOr _)
    have HND := Lib.hid (show nd = m by rw [hnd, nodeOr, nodeAt_nat, hi]; rfl)
    have HI := Lib.hid hi
    clear hi
    rw [← hnd] at HN
    clear hb3 HP2 HYA H2 HX2 HB2 hnd
    go_wp2_with fail
    refine HN.out.mono ?_
    rintro e w4 ⟨rfl, hb4⟩
    have HB4 := Lib.hid (HB3.out.trans (hb4.mono HB3.out.size))
    have H4 := Lib.hid (H3.out.below hb4)
    have HX4 := Lib.hid (HX3.out.below hb4 HX3.out.lt)
    have HZ := Lib.hid (blk_zero w4)
    have HZL := Lib.hid nd0_len
    have HN5 := Lib.hid (HZ.out.setRow (ndv nd))
    have hb5 : Below w4.heap.size w4 ((w4.alloc (.cells #[.int .u8 0, .int .u8 0, .int .u8 0, .int .u8 0, .int .u8 0, .int .u8 0, .int .u8 0, .int .u8 0, .int .u8 0, .int .u8 0, .int .u8 0, .int .u8 0, .int .u8 0, .int .u8 0, .int .u8 0, .int .u8 0, .int .u8 0, .int .u8 0, .int .u8 0, .int .u8 0, .int .u8 0, .int .u8 0, .int .u8 0, .int .u8 0, .int .u8 0, .int .u8 0, .int .u8 0, .int .u8 0, .int .u8 0, .int .u8 0, .int .u8 0, .int .u8 0, .int .i64 0, .int .i64 0] 51)).setRow w4.heap.size (ndv nd).toArray) := below_row ((Below.refl _ _).alloc (Nat.le_refl _) _) (Nat.le_refl _) _
    have HB5 := Lib.hid (HB4.out.trans (hb5.mono HB4.out.size))
    have H5 := Lib.hid (H4.out.below hb5)
    have HX5 := Lib.hid (HX4.out.below hb5 HX4.out.lt)
    clear hb4 HN H3 HX3 HB3 hb5
    go_upto_region 7 with ((with_reducible refine wpList_store_node (.tmp 10) (.tmp 25) ?_ ?_ w4.heap.size nd0 nd ?_ ?_ HZ.out HZL.out HNL.out ?_); rfl; rfl; rfl; rfl)
    generalize (w4.alloc (.cells #[.int .u8 0, .int .u8 0, .int .u8 0, .int .u8 0, .int .u8 0, .int .u8 0, .int .u8 0, .int .u8 0, .int .u8 0, .int .u8 0, .int .u8 0, .int .u8 0, .int .u8 0, .int .u8 0, .int .u8 0, .int .u8 0, .int .u8 0, .int .u8 0, .int .u8 0, .int .u8 0, .int .u8 0, .int .u8 0, .int .u8 0, .int .u8 0, .int .u8 0, .int .u8 0, .int .u8 0, .int .u8 0, .int .u8 0, .int .u8 0, .int .u8 0, .int .u8 0, .int .i64 0, .int .i64 0] 51)).setRow w4.heap.size (ndv nd).toArray = w5 at HN5 HB5 H5 HX5 ⊢
    have c32 := HN5.out.nodeSlot HNL.out
    rw [HND.out] at c32
    clear HZ HB4 H4 HX4
    have d2 : ¬ (s ≤ m.2.1) := by omega
    have d3 : ¬ ((1073741824 : Int) < s) := by omega
    go_wp2_with fail
    refine (room_any w5 F b t most H5.out).mono ?_
    rintro e w6 ⟨rfl, nq, rfl⟩
    have H6 := Lib.hid (H5.out.below (below_dN (Below.refl _ _) nq))
    have HB6 := Lib.hid (below_dN HB5.out nq)
    have HX6 := Lib.hid (HX5.out.drewN nq)
    generalize w5.drewN nq = w6 at H6 HB6 HX6 ⊢
    clear H5 HB5 HX5 HN5 c32
    have d4 : most - (t.length : Int) ≤ 0 := by omega
    go_wp2_with fail
    go_ret
    rw [HA.out]
    exact ⟨rfl, F, H6.out, Kept.of_below F HB6.out, NewF.refl _ _⟩
  · have HA := Lib.hid h
    have HP1 := Lib.hid (place_any w1 F b t most r H1.out hr)
    rw [h1] at HP1
    have HPR := Lib.hid h1
    clear h h1
    go_wp2_with ((with_reducible refine wpList_load_name (.tmp 5) ?_ ?_ X 0 r ?_ hr HXA.out ?_); rfl; rfl; rfl)
    refine HP1.out.mono ?_
    rintro e w2 ⟨rfl, hb2⟩
    have HB2 := Lib.hid (HB.out.trans (hb2.mono HB.out.size))
    have H2 := Lib.hid (H1.out.below hb2)
    have HX2 := Lib.hid (HX.out.below hb2 HX.out.lt)
    have HYA := Lib.hid (HY.out.below hb2 HY.out.lt).rootAll
    have HP2 := Lib.hid (place_any w2 F b t most p H2.out hp)
    rw [h2] at HP2
    clear hb2 HP1 HXA HX HY h2
    go_wp2_with ((with_reducible refine wpList_load_name (.tmp 6) ?_ ?_ Y 0 p ?_ hp HYA.out ?_); rfl; rfl; rfl)
    refine HP2.out.mono ?_
    rintro e w3 ⟨rfl, hb3⟩
    have HB3 := Lib.hid (HB2.out.trans (hb3.mono HB2.out.size))
    have H3 := Lib.hid (H2.out.below hb3)
    have HX3 := Lib.hid (HX2.out.below hb3 HX2.out.lt)
    have HN := Lib.hid (node_any w3 F b t most (i : Int) H3.out)
    rw [show nodeAt t (i : Int) = some m by rw [nodeAt_nat]; exact hi] at HN
    obtain ⟨nd, hnd⟩ : ∃ nd, nd = nodeOr t (i : Int) := ⟨_, rfl⟩
    have HNL := Lib.hid (show nd.1.length = 32 by rw [hnd]; exact HG.out.nds.nodeOr _)
    have HND := Lib.hid (show nd = m by rw [hnd, nodeOr, nodeAt_nat, hi]; rfl)
    have HI := Lib.hid hi
    clear hi
    rw [← hnd] at HN
    clear hb3 HP2 HYA H2 HX2 HB2 hnd
    go_wp2_with fail
    refine HN.out.mono ?_
    rintro e w4 ⟨rfl, hb4⟩
    have HB4 := Lib.hid (HB3.out.trans (hb4.mono HB3.out.size))
    have H4 := Lib.hid (H3.out.below hb4)
    have HX4 := Lib.hid (HX3.out.below hb4 HX3.out.lt)
    have HZ := Lib.hid (blk_zero w4)
    have HZL := Lib.hid nd0_len
    have HN5 := Lib.hid (HZ.out.setRow (ndv nd))
    have hb5 : Below w4.heap.size w4 ((w4.alloc (.cells #[.int .u8 0, .int .u8 0, .int .u8 0, .int .u8 0, .int .u8 0, .int .u8 0, .int .u8 0, .int .u8 0, .int .u8 0, .int .u8 0, .int .u8 0, .int .u8 0, .int .u8 0, .int .u8 0, .int .u8 0, .int .u8 0, .int .u8 0, .int .u8 0, .int .u8 0, .int .u8 0, .int .u8 0, .int .u8 0, .int .u8 0, .int .u8 0, .int .u8 0, .int .u8 0, .int .u8 0, .int .u8 0, .int .u8 0, .int .u8 0, .int .u8 0, .int .u8 0, .int .i64 0, .int .i64 0] 51)).setRow w4.heap.size (ndv nd).toArray) := below_row ((Below.refl _ _).alloc (Nat.le_refl _) _) (Nat.le_refl _) _
    have HB5 := Lib.hid (HB4.out.trans (hb5.mono HB4.out.size))
    have H5 := Lib.hid (H4.out.below hb5)
    have HX5 := Lib.hid (HX4.out.below hb5 HX4.out.lt)
    clear hb4 HN H3 HX3 HB3 hb5
    go_upto_region 7 with ((with_reducible refine wpList_store_node (.tmp 10) (.tmp 25) ?_ ?_ w4.heap.size nd0 nd ?_ ?_ HZ.out HZL.out HNL.out ?_); rfl; rfl; rfl; rfl)
    generalize (w4.alloc (.cells #[.int .u8 0, .int .u8 0, .int .u8 0, .int .u8 0, .int .u8 0, .int .u8 0, .int .u8 0, .int .u8 0, .int .u8 0, .int .u8 0, .int .u8 0, .int .u8 0, .int .u8 0, .int .u8 0, .int .u8 0, .int .u8 0, .int .u8 0, .int .u8 0, .int .u8 0, .int .u8 0, .int .u8 0, .int .u8 0, .int .u8 0, .int .u8 0, .int .u8 0, .int .u8 0, .int .u8 0, .int .u8 0, .int .u8 0, .int .u8 0, .int .u8 0, .int .u8 0, .int .i64 0, .int .i64 0] 51)).setRow w4.heap.size (ndv nd).toArray = w5 at HN5 HB5 H5 HX5 ⊢
    have c32 := HN5.out.nodeSlot HNL.out
    rw [HND.out] at c32
    clear HZ HB4 H4 HX4
    have d2 : ¬ (s ≤ m.2.1) := by omega
    have d3 : ¬ ((1073741824 : Int) < s) := by omega
    go_wp2_with fail
    refine (room_any w5 F b t most H5.out).mono ?_
    rintro e w6 ⟨rfl, nq, rfl⟩
    have H6 := Lib.hid (H5.out.below (below_dN (Below.refl _ _) nq))
    have HB6 := Lib.hid (below_dN HB5.out nq)
    have HX6 := Lib.hid (HX5.out.drewN nq)
    generalize w5.drewN nq = w6 at H6 HB6 HX6 ⊢
    clear H5 HB5 HX5 HN5 c32
    have d4 : ¬ (most - (t.length : Int) ≤ 0) := by omega
    have HXA := Lib.hid HX6.out.rootAll
    have HBU := Lib.hid (built_node r s (i : Int) hr)
    obtain ⟨G0, m0, v0, hT⟩ := H6.out
    have HPU := Lib.hid (put_any w6 F b m0 v0 t most (r, s, (i : Int)) hT (not_mem_of_plc HPR.out) hr (by omega))
    clear hT G0
    go_wp2_with (first
      | ((with_reducible refine wpList_load_name (.tmp 5) ?_ ?_ X 0 r ?_ hr HXA.out ?_); rfl; rfl; rfl)
      | ((with_reducible refine wpList_build_l 51 #[(0, .tmp 43), (1, .tmp 44), (2, .tmp 45)] _ _ HBU.out ?_ ?_ ?_ ?_); rfl; rfl; rfl))
    refine HPU.out.mono ?_
    rintro e w7 ⟨rfl, F', v', ht, hk, hn⟩
    have HT7 := Lib.hid ht
    have HK7 := Lib.hid hk
    have HN7 := Lib.hid hn
    clear ht hk hn HPU HXA HBU
    have HGA := Lib.hid (HG.out.add hr HPR.out HI.out h3 h4 h5)
    go_wp2_with fail
    go_ret
    rw [HA.out]
    exact ⟨rfl, F', ⟨HGA.out, m0, v', HT7.out⟩, (Kept.of_below F HB6.out).trans HK7.out (NewF.refl _ _), fun x hx => (HN7.out x hx).imp id (Nat.le_trans HB6.out.size)⟩
end Go.Proofs.Ytmchjmcdlapegaa
