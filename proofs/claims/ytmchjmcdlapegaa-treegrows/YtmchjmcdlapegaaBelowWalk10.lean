/-
  The walk of TreeBelow.
-/
import Derived.Test.YtmchjmcdlapegaaMade10
import Derived.Test.YtmchjmcdlapegaaFreeLaws
import Derived.Test.YtmchjmcdlapegaaFreeInv
import Derived.Lib.BytesEntry
namespace Go.Proofs.Ytmchjmcdlapegaa
open Go Go.RowKit
set_option maxRecDepth 10000

theorem wide_names {w : World} {base : Nat} {v : Value} {K : List (List UInt8)} (h : Wide 32 w base v (rv K)) (hK : Rts K) : ∃ ao cap g off, v = .slice ao K.length cap ∧ Lies w w.heap.size ao g off (rv K) := by
  obtain ⟨ao, n, cap, b, off, e, hn, hl⟩ := h.lies
  rw [rv_length K hK] at hn
  obtain rfl : K.length = n := by omega
  exact ⟨ao, cap, b, off, e, hl⟩
theorem Good.kids_rts {t : List Nd} {most : Int} (G : Good t most) (r : List UInt8) : Rts (kidsT t r) := fun x hx => by
  unfold kidsT at hx
  split at hx
  · rw [rs] at hx
    obtain ⟨n, hn, rfl⟩ := List.mem_map.1 hx
    exact G.nds n (List.mem_filter.1 hn).1
  · cases hx
theorem Good.kids_len {t : List Nd} {most : Int} (G : Good t most) (r : List UInt8) : (kidsT t r).length ≤ 1000 := by
  have h1 := G.room
  have h2 := G.most256
  unfold kidsT
  split
  · rw [rs_length]
    have := List.length_filter_le (fun n : Nd => n.2.2 == plc t r) t
    omega
  · simp
theorem sameR_self (K : List (List UInt8)) : sameR K K = true := beq_self_eq_true K
theorem same_names {w : World} {base base' : Nat} {v u : Value} {K : List (List UInt8)} (h : Wide 32 w base v (rv K)) (k : Wide 32 w base' u (rv K)) (hK : Rts K) (hl : K.length ≤ 1000) :
    Calls Try.prog 24 #[v, u] w fun e w' => e = .returned (.bool true) ∧ Below w.heap.size w w' := by
  obtain ⟨ao, cap, g, off, rfl, h1⟩ := wide_names h hK
  obtain ⟨ao2, cap2, g2, off2, rfl, h2⟩ := wide_names k hK
  refine (rsame_any w ao ao2 cap cap2 g g2 off off2 K K hK hK h1 h2 hl).mono ?_
  rintro e w' ⟨rfl, n, rfl⟩
  rw [sameR_self]
  exact ⟨rfl, below_dN (Below.refl _ _) n⟩
theorem bool_same (b : Bool) : (b == b) = true := beq_self_eq_true b

set_option maxRecDepth 100000 in
set_option maxHeartbeats 8000000 in
theorem tbelow_any (w : World) (ao : Option Addr) (len cap g off : Nat) (l : List Ad) (a0 a1 : Int) (o : List UInt8) (hl : l.length = len) (ho : o.length = 32) (h : Lies w w.heap.size ao g off (av l)) :
    Calls Try.prog 4 #[.slice ao len cap, .int .i64 a0, .int .i64 a1, .agg (bv o).toArray] w fun e w' => e = .returned (.bool true) ∧ Below w.heap.size w w' := by
  obtain ⟨O, hO⟩ : ∃ O, O = w.heap.size := ⟨_, rfl⟩
  have HOL := Lib.hid ho
  have HBO := Lib.hid (Blk.new w 23 (bv o).toArray)
  have hb0 : Below w.heap.size w (w.alloc (.cells (bv o).toArray 23)) := (Below.refl _ w).alloc (Nat.le_refl _) _
  have HB := Lib.hid hb0
  have HL := Lib.hid (h.below hb0)
  have HN := Lib.hid hl
  clear h hl ho hb0
  go_enter Try.func4, Try.ntmps4
  go_upto_region 1 with fail
  rw [← hO] at HBO ⊢
  generalize w.alloc (.cells (bv o).toArray 23) = w0 at HBO HB HL ⊢
  have HOE := Lib.hid hO
  clear hO
  go_wp2_with fail
  refine (alive_any w0).mono ?_
  rintro e w1 ⟨rfl, hbc⟩
  replace HB := Lib.hid (HB.out.trans (hbc.mono HB.out.size))
  replace HL := Lib.hid (HL.out.below hbc)
  replace HBO := Lib.hid (HBO.out.below hbc HBO.out.lt)
  clear hbc
  by_cases h1 : (100 : Int) < (len : Int)
  · go_wp2_with fail
    go_ret
    exact ⟨rfl, HB.out⟩
  go_wp2_with fail
  refine (made_any w1 ao len cap g off l HN.out (by omega) HL.out).mono ?_
  rintro e w2 ⟨F, G, b, m, rfl, ht, hm, _, _, _, hbc⟩
  have HT := Lib.hid ht
  have HM := Lib.hid hm
  replace HB := Lib.hid (HB.out.trans (hbc.mono HB.out.size))
  replace HBO := Lib.hid (HBO.out.below hbc HBO.out.lt)
  clear ht hm hbc HL
  generalize madeT l = t at HT HM
  go_wp2_with fail
  refine (name_any w2 a0).mono ?_
  rintro e w3 ⟨rfl, hbc⟩
  replace HT := Lib.hid (HT.out.below hbc)
  replace HM := Lib.hid (HM.out.below hbc)
  replace HB := Lib.hid (HB.out.trans (hbc.mono HB.out.size))
  replace HBO := Lib.hid (HBO.out.below hbc HBO.out.lt)
  clear hbc
  go_wp2_with fail
  refine (name_any w3 a1).mono ?_
  rintro e w4 ⟨rfl, hbc⟩
  replace HT := Lib.hid (HT.out.below hbc)
  replace HM := Lib.hid (HM.out.below hbc)
  replace HB := Lib.hid (HB.out.trans (hbc.mono HB.out.size))
  replace HBO := Lib.hid (HBO.out.below hbc HBO.out.lt)
  clear hbc
  have HXL := Lib.hid (nmN_len a0)
  have HYL := Lib.hid (nmN_len a1)
  generalize nmN a0 = x at HXL ⊢
  generalize nmN a1 = y at HYL ⊢
  have HZ1 := Lib.hid (two_zeros w4)
  have HZ2 := Lib.hid (two_zeros2 w4 x)
  have HZL := Lib.hid zero32_len
  have HPX := Lib.hid ((HZ1.out.setRow (bv x)).setRow_other (bv y).toArray (show w4.heap.size ≠ w4.heap.size + 1 by omega))
  have HPY := Lib.hid (HZ2.out.setRow (bv y))
  have hbx : Below w4.heap.size w4 ((((w4.alloc (.cells #[.int .u8 0, .int .u8 0, .int .u8 0, .int .u8 0, .int .u8 0, .int .u8 0, .int .u8 0, .int .u8 0, .int .u8 0, .int .u8 0, .int .u8 0, .int .u8 0, .int .u8 0, .int .u8 0, .int .u8 0, .int .u8 0, .int .u8 0, .int .u8 0, .int .u8 0, .int .u8 0, .int .u8 0, .int .u8 0, .int .u8 0, .int .u8 0, .int .u8 0, .int .u8 0, .int .u8 0, .int .u8 0, .int .u8 0, .int .u8 0, .int .u8 0, .int .u8 0] 23)).alloc (.cells #[.int .u8 0, .int .u8 0, .int .u8 0, .int .u8 0, .int .u8 0, .int .u8 0, .int .u8 0, .int .u8 0, .int .u8 0, .int .u8 0, .int .u8 0, .int .u8 0, .int .u8 0, .int .u8 0, .int .u8 0, .int .u8 0, .int .u8 0, .int .u8 0, .int .u8 0, .int .u8 0, .int .u8 0, .int .u8 0, .int .u8 0, .int .u8 0, .int .u8 0, .int .u8 0, .int .u8 0, .int .u8 0, .int .u8 0, .int .u8 0, .int .u8 0, .int .u8 0] 23)).setRow w4.heap.size (bv x).toArray).setRow (w4.heap.size + 1) (bv y).toArray) := below_row (below_row (((Below.refl _ w4).alloc (Nat.le_refl _) _).alloc (by simp) _) (Nat.le_refl _) _) (by omega) _
  replace HT := Lib.hid (HT.out.below hbx)
  replace HM := Lib.hid (HM.out.below hbx)
  replace HB := Lib.hid (HB.out.trans (hbx.mono HB.out.size))
  replace HBO := Lib.hid (HBO.out.below hbx HBO.out.lt)
  clear hbx
  go_upto_region 7 with (first
    | ((with_reducible refine wpList_store_name (.tmp 11) (.tmp 24) ?_ ?_ w4.heap.size zero32 x ?_ ?_ HZ1.out HZL.out HXL.out ?_); rfl; rfl; rfl; rfl)
    | ((with_reducible refine wpList_store_name (.tmp 12) (.tmp 26) ?_ ?_ (w4.heap.size + 1) zero32 y ?_ ?_ HZ2.out HZL.out HYL.out ?_); rfl; rfl; rfl; rfl))
  generalize (((w4.alloc (.cells #[.int .u8 0, .int .u8 0, .int .u8 0, .int .u8 0, .int .u8 0, .int .u8 0, .int .u8 0, .int .u8 0, .int .u8 0, .int .u8 0, .int .u8 0, .int .u8 0, .int .u8 0, .int .u8 0, .int .u8 0, .int .u8 0, .int .u8 0, .int .u8 0, .int .u8 0, .int .u8 0, .int .u8 0, .int .u8 0, .int .u8 0, .int .u8 0, .int .u8 0, .int .u8 0, .int .u8 0, .int .u8 0, .int .u8 0, .int .u8 0, .int .u8 0, .int .u8 0] 23)).alloc (.cells #[.int .u8 0, .int .u8 0, .int .u8 0, .int .u8 0, .int .u8 0, .int .u8 0, .int .u8 0, .int .u8 0, .int .u8 0, .int .u8 0, .int .u8 0, .int .u8 0, .int .u8 0, .int .u8 0, .int .u8 0, .int .u8 0, .int .u8 0, .int .u8 0, .int .u8 0, .int .u8 0, .int .u8 0, .int .u8 0, .int .u8 0, .int .u8 0, .int .u8 0, .int .u8 0, .int .u8 0, .int .u8 0, .int .u8 0, .int .u8 0, .int .u8 0, .int .u8 0] 23)).setRow w4.heap.size (bv x).toArray).setRow (w4.heap.size + 1) (bv y).toArray = w5 at HPX HPY HBO HB HT HM ⊢
  obtain ⟨Y, hY⟩ : ∃ Y, Y = w4.heap.size + 1 := ⟨_, rfl⟩
  rw [← hY] at HPY ⊢
  clear hY
  obtain ⟨X, hX⟩ : ∃ X, X = w4.heap.size := ⟨_, rfl⟩
  rw [← hX] at HPX ⊢
  clear hX HZ1 HZ2 HZL
  obtain ⟨P1, hP⟩ : ∃ P, belowT t x y = P := ⟨_, rfl⟩
  have HP1 := Lib.hid hP
  have hs1 := bool_same P1
  clear hP
  obtain ⟨P2, hP⟩ : ∃ P, belowT t x o = P := ⟨_, rfl⟩
  have HP2 := Lib.hid hP
  have hs2 := bool_same P2
  clear hP
  obtain ⟨P3, hP⟩ : ∃ P, belowT t o x = P := ⟨_, rfl⟩
  have HP3 := Lib.hid hP
  have hs3 := bool_same P3
  clear hP
  have HKX := Lib.hid (HT.out.1.kids_rts x)
  have HKO := Lib.hid (HT.out.1.kids_rts o)
  have HNX := Lib.hid (HT.out.1.kids_len x)
  have HNO := Lib.hid (HT.out.1.kids_len o)
  refine wp_region_free (P := Try.prog) 50 (fun w' => Below w5.heap.size w5 w') (fun oq v w' => match oq with
      | 0 => v = .pointer (some ⟨b, 0, none⟩)
      | 1 => v = .agg (bv x).toArray
      | 2 => v = .agg (bv y).toArray
      | 3 => v = .bool P1
      | 4 => v = .pointer (some ⟨m, 0, none⟩)
      | 5 => v = .agg (bv x).toArray
      | 6 => v = .agg (bv y).toArray
      | 7 => v = .bool P1
      | 8 => v = .bool true
      | 9 => v = .bool true
      | 10 => v = .pointer (some ⟨b, 0, none⟩)
      | 11 => v = .agg (bv x).toArray
      | 12 => v = .agg (bv o).toArray
      | 13 => v = .bool P2
      | 14 => v = .pointer (some ⟨m, 0, none⟩)
      | 15 => v = .agg (bv x).toArray
      | 16 => v = .agg (bv o).toArray
      | 17 => v = .bool P2
      | 18 => v = .bool true
      | 19 => v = .bool true
      | 20 => v = .bool true
      | 21 => v = .pointer (some ⟨b, 0, none⟩)
      | 22 => v = .agg (bv o).toArray
      | 23 => v = .agg (bv x).toArray
      | 24 => v = .bool P3
      | 25 => v = .pointer (some ⟨m, 0, none⟩)
      | 26 => v = .agg (bv o).toArray
      | 27 => v = .agg (bv x).toArray
      | 28 => v = .bool P3
      | 29 => v = .bool true
      | 30 => v = .bool true
      | 31 => v = .bool true
      | 32 => v = .pointer (some ⟨b, 0, none⟩)
      | 33 => v = .agg (bv x).toArray
      | 34 => Wide 32 w' 0 v (rv (kidsT t x))
      | 35 => v = .pointer (some ⟨m, 0, none⟩)
      | 36 => v = .agg (bv x).toArray
      | 37 => Wide 32 w' 0 v (rv (kidsT t x))
      | 38 => v = .bool true
      | 39 => v = .bool true
      | 40 => v = .bool true
      | 41 => v = .pointer (some ⟨b, 0, none⟩)
      | 42 => v = .agg (bv o).toArray
      | 43 => Wide 32 w' 0 v (rv (kidsT t o))
      | 44 => v = .pointer (some ⟨m, 0, none⟩)
      | 45 => v = .agg (bv o).toArray
      | 46 => Wide 32 w' 0 v (rv (kidsT t o))
      | 47 => v = .bool true
      | 48 => v = .bool true
      | 49 => v = .bool true
      | _ => True) (by kernel_rfl) (by kernel_rfl) (Below.refl _ _).drew ?gb ?vb ?steps ?fin
  case gb => exact fun a b h1 h2 => h1.trans (h2.mono h1.size)
  case vb =>
    intro oq v a b h hb
    match oq with
    | 0 => exact h
    | 1 => exact h
    | 2 => exact h
    | 3 => exact h
    | 4 => exact h
    | 5 => exact h
    | 6 => exact h
    | 7 => exact h
    | 8 => exact h
    | 9 => exact h
    | 10 => exact h
    | 11 => exact h
    | 12 => exact h
    | 13 => exact h
    | 14 => exact h
    | 15 => exact h
    | 16 => exact h
    | 17 => exact h
    | 18 => exact h
    | 19 => exact h
    | 20 => exact h
    | 21 => exact h
    | 22 => exact h
    | 23 => exact h
    | 24 => exact h
    | 25 => exact h
    | 26 => exact h
    | 27 => exact h
    | 28 => exact h
    | 29 => exact h
    | 30 => exact h
    | 31 => exact h
    | 32 => exact h
    | 33 => exact h
    | 34 => exact Wide.below h hb
    | 35 => exact h
    | 36 => exact h
    | 37 => exact Wide.below h hb
    | 38 => exact h
    | 39 => exact h
    | 40 => exact h
    | 41 => exact h
    | 42 => exact h
    | 43 => exact Wide.below h hb
    | 44 => exact h
    | 45 => exact h
    | 46 => exact Wide.below h hb
    | 47 => exact h
    | 48 => exact h
    | 49 => exact h
    | _ + 50 => trivial
  case steps =>
    intro vals
    simp only [List.take_succ_cons, List.take_zero, freeSteps, Act.put, List.setIfInBounds_toArray, List.set_cons_zero, List.set_cons_succ, Nat.reduceAdd]
    refine ⟨fun w8 hG hW => ?_, fun w8 hG hW => ?_, fun w8 hG hW => ?_, fun w8 hG hW => ?_, fun w8 hG hW => ?_, fun w8 hG hW => ?_, fun w8 hG hW => ?_, fun w8 hG hW => ?_, fun w8 hG hW => ?_, fun w8 hG hW => ?_, fun w8 hG hW => ?_, fun w8 hG hW => ?_, fun w8 hG hW => ?_, fun w8 hG hW => ?_, fun w8 hG hW => ?_, fun w8 hG hW => ?_, fun w8 hG hW => ?_, fun w8 hG hW => ?_, fun w8 hG hW => ?_, fun w8 hG hW => ?_, fun w8 hG hW => ?_, fun w8 hG hW => ?_, fun w8 hG hW => ?_, fun w8 hG hW => ?_, fun w8 hG hW => ?_, fun w8 hG hW => ?_, fun w8 hG hW => ?_, fun w8 hG hW => ?_, fun w8 hG hW => ?_, fun w8 hG hW => ?_, fun w8 hG hW => ?_, fun w8 hG hW => ?_, fun w8 hG hW => ?_, fun w8 hG hW => ?_, fun w8 hG hW => ?_, fun w8 hG hW => ?_, fun w8 hG hW => ?_, fun w8 hG hW => ?_, fun w8 hG hW => ?_, fun w8 hG hW => ?_, fun w8 hG hW => ?_, fun w8 hG hW => ?_, fun w8 hG hW => ?_, fun w8 hG hW => ?_, fun w8 hG hW => ?_, fun w8 hG hW => ?_, fun w8 hG hW => ?_, fun w8 hG hW => ?_, fun w8 hG hW => ?_, fun w8 hG hW => ?_, trivial⟩
    · clear hW
      refine stepAt_value rfl rfl rfl (.pointer (some ⟨b, 0, none⟩)) w8 ?_ ⟨rfl, Below.refl _ _⟩
      go_simp
    · clear hW
      exact stepAt_load_run rfl rfl rfl _ _ rfl _ _ rfl (run_load_root HXL.out (HPX.out.below hG HPX.out.lt).rootAll) ⟨rfl, Below.refl _ _⟩
    · clear hW
      exact stepAt_load_run rfl rfl rfl _ _ rfl _ _ rfl (run_load_root HYL.out (HPY.out.below hG HPY.out.lt).rootAll) ⟨rfl, Below.refl _ _⟩
    · have q0 := hW 0 (by decide)
      simp only at q0
      have q1 := hW 1 (by decide)
      simp only at q1
      have q2 := hW 2 (by decide)
      simp only at q2
      rw [q0, q1, q2]
      clear hW
      refine stepAt_call rfl rfl rfl 14 #[.pointer (some ⟨b, 0, none⟩), .agg (bv x).toArray, .agg (bv y).toArray] (by go_simp) ((below_any w8 F b t 256 x y (HT.out.below hG) HXL.out HYL.out).mono fun e w' ⟨h1, h2⟩ => ⟨_, h1, by rw [HP1.out], h2⟩)
    · clear hW
      refine stepAt_value rfl rfl rfl (.pointer (some ⟨m, 0, none⟩)) w8 ?_ ⟨rfl, Below.refl _ _⟩
      go_simp
    · clear hW
      exact stepAt_load_run rfl rfl rfl _ _ rfl _ _ rfl (run_load_root HXL.out (HPX.out.below hG HPX.out.lt).rootAll) ⟨rfl, Below.refl _ _⟩
    · clear hW
      exact stepAt_load_run rfl rfl rfl _ _ rfl _ _ rfl (run_load_root HYL.out (HPY.out.below hG HPY.out.lt).rootAll) ⟨rfl, Below.refl _ _⟩
    · have q4 := hW 4 (by decide)
      simp only at q4
      have q5 := hW 5 (by decide)
      simp only at q5
      have q6 := hW 6 (by decide)
      simp only at q6
      rw [q4, q5, q6]
      clear hW
      refine stepAt_call rfl rfl rfl 23 #[.pointer (some ⟨m, 0, none⟩), .agg (bv x).toArray, .agg (bv y).toArray] (by go_simp) ((refbelow_any w8 G m t 256 x y (HM.out.below hG) HXL.out HYL.out).mono fun e w' ⟨h1, h2⟩ => ⟨_, h1, by rw [HP1.out], h2⟩)
    · have q3 := hW 3 (by decide)
      simp only at q3
      have q7 := hW 7 (by decide)
      simp only at q7
      rw [q3, q7]
      clear hW
      refine stepAt_value rfl rfl rfl (.bool true) w8 ?_ ⟨rfl, Below.refl _ _⟩
      go_simp
    · have q8 := hW 8 (by decide)
      simp only at q8
      rw [q8]
      clear hW
      refine stepAt_value rfl rfl rfl (.bool true) w8 ?_ ⟨rfl, Below.refl _ _⟩
      go_simp
    · have q9 := hW 9 (by decide)
      simp only at q9
      rw [q9]
      clear hW
      refine stepAt_value rfl rfl rfl (.pointer (some ⟨b, 0, none⟩)) w8 ?_ ⟨rfl, Below.refl _ _⟩
      go_simp
    · have q9 := hW 9 (by decide)
      simp only at q9
      rw [q9]
      clear hW
      exact stepAt_load_run rfl rfl rfl _ _ rfl _ _ rfl (run_load_root HXL.out (HPX.out.below hG HPX.out.lt).rootAll) ⟨rfl, Below.refl _ _⟩
    · have q9 := hW 9 (by decide)
      simp only at q9
      rw [q9]
      clear hW
      exact stepAt_load_run rfl rfl rfl _ _ rfl _ _ rfl (run_load_root HOL.out (HBO.out.below hG HBO.out.lt).rootAll) ⟨rfl, Below.refl _ _⟩
    · have q9 := hW 9 (by decide)
      simp only at q9
      have q10 := hW 10 (by decide)
      simp only at q10
      have q11 := hW 11 (by decide)
      simp only at q11
      have q12 := hW 12 (by decide)
      simp only at q12
      rw [q9, q10, q11, q12]
      clear hW
      refine stepAt_call rfl rfl rfl 14 #[.pointer (some ⟨b, 0, none⟩), .agg (bv x).toArray, .agg (bv o).toArray] (by go_simp) ((below_any w8 F b t 256 x o (HT.out.below hG) HXL.out HOL.out).mono fun e w' ⟨h1, h2⟩ => ⟨_, h1, by rw [HP2.out], h2⟩)
    · have q9 := hW 9 (by decide)
      simp only at q9
      rw [q9]
      clear hW
      refine stepAt_value rfl rfl rfl (.pointer (some ⟨m, 0, none⟩)) w8 ?_ ⟨rfl, Below.refl _ _⟩
      go_simp
    · have q9 := hW 9 (by decide)
      simp only at q9
      rw [q9]
      clear hW
      exact stepAt_load_run rfl rfl rfl _ _ rfl _ _ rfl (run_load_root HXL.out (HPX.out.below hG HPX.out.lt).rootAll) ⟨rfl, Below.refl _ _⟩
    · have q9 := hW 9 (by decide)
      simp only at q9
      rw [q9]
      clear hW
      exact stepAt_load_run rfl rfl rfl _ _ rfl _ _ rfl (run_load_root HOL.out (HBO.out.below hG HBO.out.lt).rootAll) ⟨rfl, Below.refl _ _⟩
    · have q9 := hW 9 (by decide)
      simp only at q9
      have q14 := hW 14 (by decide)
      simp only at q14
      have q15 := hW 15 (by decide)
      simp only at q15
      have q16 := hW 16 (by decide)
      simp only at q16
      rw [q9, q14, q15, q16]
      clear hW
      refine stepAt_call rfl rfl rfl 23 #[.pointer (some ⟨m, 0, none⟩), .agg (bv x).toArray, .agg (bv o).toArray] (by go_simp) ((refbelow_any w8 G m t 256 x o (HM.out.below hG) HXL.out HOL.out).mono fun e w' ⟨h1, h2⟩ => ⟨_, h1, by rw [HP2.out], h2⟩)
    · have q9 := hW 9 (by decide)
      simp only at q9
      have q13 := hW 13 (by decide)
      simp only at q13
      have q17 := hW 17 (by decide)
      simp only at q17
      rw [q9, q13, q17]
      clear hW
      refine stepAt_value rfl rfl rfl (.bool true) w8 ?_ ⟨rfl, Below.refl _ _⟩
      go_simp
    · have q9 := hW 9 (by decide)
      simp only at q9
      have q18 := hW 18 (by decide)
      simp only at q18
      rw [q9, q18]
      clear hW
      refine stepAt_value rfl rfl rfl (.bool true) w8 ?_ ⟨rfl, Below.refl _ _⟩
      go_simp
    · have q19 := hW 19 (by decide)
      simp only at q19
      rw [q19]
      clear hW
      refine stepAt_value rfl rfl rfl (.bool true) w8 ?_ ⟨rfl, Below.refl _ _⟩
      go_simp
    · have q20 := hW 20 (by decide)
      simp only at q20
      rw [q20]
      clear hW
      refine stepAt_value rfl rfl rfl (.pointer (some ⟨b, 0, none⟩)) w8 ?_ ⟨rfl, Below.refl _ _⟩
      go_simp
    · have q20 := hW 20 (by decide)
      simp only at q20
      rw [q20]
      clear hW
      exact stepAt_load_run rfl rfl rfl _ _ rfl _ _ rfl (run_load_root HOL.out (HBO.out.below hG HBO.out.lt).rootAll) ⟨rfl, Below.refl _ _⟩
    · have q20 := hW 20 (by decide)
      simp only at q20
      rw [q20]
      clear hW
      exact stepAt_load_run rfl rfl rfl _ _ rfl _ _ rfl (run_load_root HXL.out (HPX.out.below hG HPX.out.lt).rootAll) ⟨rfl, Below.refl _ _⟩
    · have q20 := hW 20 (by decide)
      simp only at q20
      have q21 := hW 21 (by decide)
      simp only at q21
      have q22 := hW 22 (by decide)
      simp only at q22
      have q23 := hW 23 (by decide)
      simp only at q23
      rw [q20, q21, q22, q23]
      clear hW
      refine stepAt_call rfl rfl rfl 14 #[.pointer (some ⟨b, 0, none⟩), .agg (bv o).toArray, .agg (bv x).toArray] (by go_simp) ((below_any w8 F b t 256 o x (HT.out.below hG) HOL.out HXL.out).mono fun e w' ⟨h1, h2⟩ => ⟨_, h1, by rw [HP3.out], h2⟩)
    · have q20 := hW 20 (by decide)
      simp only at q20
      rw [q20]
      clear hW
      refine stepAt_value rfl rfl rfl (.pointer (some ⟨m, 0, none⟩)) w8 ?_ ⟨rfl, Below.refl _ _⟩
      go_simp
    · have q20 := hW 20 (by decide)
      simp only at q20
      rw [q20]
      clear hW
      exact stepAt_load_run rfl rfl rfl _ _ rfl _ _ rfl (run_load_root HOL.out (HBO.out.below hG HBO.out.lt).rootAll) ⟨rfl, Below.refl _ _⟩
    · have q20 := hW 20 (by decide)
      simp only at q20
      rw [q20]
      clear hW
      exact stepAt_load_run rfl rfl rfl _ _ rfl _ _ rfl (run_load_root HXL.out (HPX.out.below hG HPX.out.lt).rootAll) ⟨rfl, Below.refl _ _⟩
    · have q20 := hW 20 (by decide)
      simp only at q20
      have q25 := hW 25 (by decide)
      simp only at q25
      have q26 := hW 26 (by decide)
      simp only at q26
      have q27 := hW 27 (by decide)
      simp only at q27
      rw [q20, q25, q26, q27]
      clear hW
      refine stepAt_call rfl rfl rfl 23 #[.pointer (some ⟨m, 0, none⟩), .agg (bv o).toArray, .agg (bv x).toArray] (by go_simp) ((refbelow_any w8 G m t 256 o x (HM.out.below hG) HOL.out HXL.out).mono fun e w' ⟨h1, h2⟩ => ⟨_, h1, by rw [HP3.out], h2⟩)
    · have q20 := hW 20 (by decide)
      simp only at q20
      have q24 := hW 24 (by decide)
      simp only at q24
      have q28 := hW 28 (by decide)
      simp only at q28
      rw [q20, q24, q28]
      clear hW
      refine stepAt_value rfl rfl rfl (.bool true) w8 ?_ ⟨rfl, Below.refl _ _⟩
      go_simp
    · have q20 := hW 20 (by decide)
      simp only at q20
      have q29 := hW 29 (by decide)
      simp only at q29
      rw [q20, q29]
      clear hW
      refine stepAt_value rfl rfl rfl (.bool true) w8 ?_ ⟨rfl, Below.refl _ _⟩
      go_simp
    · have q30 := hW 30 (by decide)
      simp only at q30
      rw [q30]
      clear hW
      refine stepAt_value rfl rfl rfl (.bool true) w8 ?_ ⟨rfl, Below.refl _ _⟩
      go_simp
    · have q31 := hW 31 (by decide)
      simp only at q31
      rw [q31]
      clear hW
      refine stepAt_value rfl rfl rfl (.pointer (some ⟨b, 0, none⟩)) w8 ?_ ⟨rfl, Below.refl _ _⟩
      go_simp
    · have q31 := hW 31 (by decide)
      simp only at q31
      rw [q31]
      clear hW
      exact stepAt_load_run rfl rfl rfl _ _ rfl _ _ rfl (run_load_root HXL.out (HPX.out.below hG HPX.out.lt).rootAll) ⟨rfl, Below.refl _ _⟩
    · have q31 := hW 31 (by decide)
      simp only at q31
      have q32 := hW 32 (by decide)
      simp only at q32
      have q33 := hW 33 (by decide)
      simp only at q33
      rw [q31, q32, q33]
      clear hW
      refine stepAt_call rfl rfl rfl 15 #[.pointer (some ⟨b, 0, none⟩), .agg (bv x).toArray] (by go_simp) ((kids_any w8 F b t 256 x (HT.out.below hG) HXL.out).mono fun e w' ⟨v, h1, h2, h3⟩ => ⟨_, h1, h2.mono (Nat.zero_le _), h3⟩)
    · have q31 := hW 31 (by decide)
      simp only at q31
      rw [q31]
      clear hW
      refine stepAt_value rfl rfl rfl (.pointer (some ⟨m, 0, none⟩)) w8 ?_ ⟨rfl, Below.refl _ _⟩
      go_simp
    · have q31 := hW 31 (by decide)
      simp only at q31
      rw [q31]
      clear hW
      exact stepAt_load_run rfl rfl rfl _ _ rfl _ _ rfl (run_load_root HXL.out (HPX.out.below hG HPX.out.lt).rootAll) ⟨rfl, Below.refl _ _⟩
    · have q31 := hW 31 (by decide)
      simp only at q31
      have q35 := hW 35 (by decide)
      simp only at q35
      have q36 := hW 36 (by decide)
      simp only at q36
      rw [q31, q35, q36]
      clear hW
      refine stepAt_call rfl rfl rfl 25 #[.pointer (some ⟨m, 0, none⟩), .agg (bv x).toArray] (by go_simp) ((refkids_any w8 G m t 256 x (HM.out.below hG) HXL.out).mono fun e w' ⟨v, h1, h2, h3⟩ => ⟨_, h1, h2.mono (Nat.zero_le _), h3⟩)
    · have h34 : Wide 32 w8 0 (vals 34) (rv (kidsT t x)) := hW 34 (by decide)
      have h37 : Wide 32 w8 0 (vals 37) (rv (kidsT t x)) := hW 37 (by decide)
      have q31 := hW 31 (by decide)
      simp only at q31
      rw [q31]
      clear hW
      refine stepAt_call rfl rfl rfl 24 #[vals 34, vals 37] (by go_simp) ((same_names h34 h37 HKX.out HNX.out).mono fun e w' ⟨h1, h2⟩ => ⟨_, h1, rfl, h2⟩)
    · have q31 := hW 31 (by decide)
      simp only at q31
      have q38 := hW 38 (by decide)
      simp only at q38
      rw [q31, q38]
      clear hW
      refine stepAt_value rfl rfl rfl (.bool true) w8 ?_ ⟨rfl, Below.refl _ _⟩
      go_simp
    · have q39 := hW 39 (by decide)
      simp only at q39
      rw [q39]
      clear hW
      refine stepAt_value rfl rfl rfl (.bool true) w8 ?_ ⟨rfl, Below.refl _ _⟩
      go_simp
    · have q40 := hW 40 (by decide)
      simp only at q40
      rw [q40]
      clear hW
      refine stepAt_value rfl rfl rfl (.pointer (some ⟨b, 0, none⟩)) w8 ?_ ⟨rfl, Below.refl _ _⟩
      go_simp
    · have q40 := hW 40 (by decide)
      simp only at q40
      rw [q40]
      clear hW
      exact stepAt_load_run rfl rfl rfl _ _ rfl _ _ rfl (run_load_root HOL.out (HBO.out.below hG HBO.out.lt).rootAll) ⟨rfl, Below.refl _ _⟩
    · have q40 := hW 40 (by decide)
      simp only at q40
      have q41 := hW 41 (by decide)
      simp only at q41
      have q42 := hW 42 (by decide)
      simp only at q42
      rw [q40, q41, q42]
      clear hW
      refine stepAt_call rfl rfl rfl 15 #[.pointer (some ⟨b, 0, none⟩), .agg (bv o).toArray] (by go_simp) ((kids_any w8 F b t 256 o (HT.out.below hG) HOL.out).mono fun e w' ⟨v, h1, h2, h3⟩ => ⟨_, h1, h2.mono (Nat.zero_le _), h3⟩)
    · have q40 := hW 40 (by decide)
      simp only at q40
      rw [q40]
      clear hW
      refine stepAt_value rfl rfl rfl (.pointer (some ⟨m, 0, none⟩)) w8 ?_ ⟨rfl, Below.refl _ _⟩
      go_simp
    · have q40 := hW 40 (by decide)
      simp only at q40
      rw [q40]
      clear hW
      exact stepAt_load_run rfl rfl rfl _ _ rfl _ _ rfl (run_load_root HOL.out (HBO.out.below hG HBO.out.lt).rootAll) ⟨rfl, Below.refl _ _⟩
    · have q40 := hW 40 (by decide)
      simp only at q40
      have q44 := hW 44 (by decide)
      simp only at q44
      have q45 := hW 45 (by decide)
      simp only at q45
      rw [q40, q44, q45]
      clear hW
      refine stepAt_call rfl rfl rfl 25 #[.pointer (some ⟨m, 0, none⟩), .agg (bv o).toArray] (by go_simp) ((refkids_any w8 G m t 256 o (HM.out.below hG) HOL.out).mono fun e w' ⟨v, h1, h2, h3⟩ => ⟨_, h1, h2.mono (Nat.zero_le _), h3⟩)
    · have h43 : Wide 32 w8 0 (vals 43) (rv (kidsT t o)) := hW 43 (by decide)
      have h46 : Wide 32 w8 0 (vals 46) (rv (kidsT t o)) := hW 46 (by decide)
      have q40 := hW 40 (by decide)
      simp only at q40
      rw [q40]
      clear hW
      refine stepAt_call rfl rfl rfl 24 #[vals 43, vals 46] (by go_simp) ((same_names h43 h46 HKO.out HNO.out).mono fun e w' ⟨h1, h2⟩ => ⟨_, h1, rfl, h2⟩)
    · have q40 := hW 40 (by decide)
      simp only at q40
      have q47 := hW 47 (by decide)
      simp only at q47
      rw [q40, q47]
      clear hW
      refine stepAt_value rfl rfl rfl (.bool true) w8 ?_ ⟨rfl, Below.refl _ _⟩
      go_simp
    · have q48 := hW 48 (by decide)
      simp only at q48
      rw [q48]
      clear hW
      refine stepAt_value rfl rfl rfl (.bool true) w8 ?_ ⟨rfl, Below.refl _ _⟩
      go_simp
  case fin =>
    intro vals w10 hG hV
    have q49 : vals 49 = .bool true := hV 49 (by omega)
    simp only [List.take_succ_cons, List.take_zero, List.drop_succ_cons, List.drop_zero, putAll, Act.put, List.setIfInBounds_toArray, List.set_cons_zero, List.set_cons_succ, Nat.reduceAdd]
    rw [q49]
    clear hV q49
    generalize vals 0 = x0
    generalize vals 1 = x1
    generalize vals 2 = x2
    generalize vals 3 = x3
    generalize vals 4 = x4
    generalize vals 5 = x5
    generalize vals 6 = x6
    generalize vals 7 = x7
    generalize vals 8 = x8
    generalize vals 9 = x9
    generalize vals 10 = x10
    generalize vals 11 = x11
    generalize vals 12 = x12
    generalize vals 13 = x13
    generalize vals 14 = x14
    generalize vals 15 = x15
    generalize vals 16 = x16
    generalize vals 17 = x17
    generalize vals 18 = x18
    generalize vals 19 = x19
    generalize vals 20 = x20
    generalize vals 21 = x21
    generalize vals 22 = x22
    generalize vals 23 = x23
    generalize vals 24 = x24
    generalize vals 25 = x25
    generalize vals 26 = x26
    generalize vals 27 = x27
    generalize vals 28 = x28
    generalize vals 29 = x29
    generalize vals 30 = x30
    generalize vals 31 = x31
    generalize vals 32 = x32
    generalize vals 33 = x33
    generalize vals 34 = x34
    generalize vals 35 = x35
    generalize vals 36 = x36
    generalize vals 37 = x37
    generalize vals 38 = x38
    generalize vals 39 = x39
    generalize vals 40 = x40
    generalize vals 41 = x41
    generalize vals 42 = x42
    generalize vals 43 = x43
    generalize vals 44 = x44
    generalize vals 45 = x45
    generalize vals 46 = x46
    generalize vals 47 = x47
    generalize vals 48 = x48
    have HBF := Lib.hid (HB.out.trans (hG.mono HB.out.size))
    clear hG
    go_wp2_with fail
    go_ret
    exact ⟨rfl, HBF.out⟩
end Go.Proofs.Ytmchjmcdlapegaa
