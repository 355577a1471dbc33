/-
  The walk of MacPairs.
-/
import Derived.Test.YtmkdcpnnnlihfaaDoorJoinsWalk
import Derived.Test.YtmkdcpnnnlihfaaDoorFreeKill
namespace Go.Proofs.YtmkdcpnnnlihfaaDoor
open Go.RowKit

def noughts : List UInt8 := tagF fun _ => 0
theorem noughts_length : noughts.length = 16 := rfl
theorem joined_two (a b : List (List UInt8)) : joined [joined a, joined b] = joined (a ++ b) := tagF_ext fun p hp => by
  rw [show [joined a, joined b] = [joined a] ++ [joined b] from rfl, col_append, col_append, col_one, col_one, joined, joined, tagF_getD _ p hp, tagF_getD _ p hp]
theorem joined_self (a : List UInt8) : joined [a, a] = noughts := tagF_ext fun p _ => by
  rw [show [a, a] = [a] ++ [a] from rfl, col_append, UInt8.xor_self]
theorem joined_one (a : List UInt8) (h : a.length = 16) : joined [a] = a := by
  rw [joined]
  have : col [a] = fun p => a.getD p 0 := by funext p; exact col_one a p
  rw [this, tagF_of a h]
theorem Tags.one {a : List UInt8} (h : a.length = 16) : Tags [a] := fun x hx => by simp at hx; rw [hx]; exact h
theorem Tags.two {a b : List UInt8} (h : a.length = 16) (h2 : b.length = 16) : Tags [a, b] := fun x hx => by
  simp at hx
  rcases hx with rfl | rfl
  · exact h
  · exact h2
/-- Tags that were just written out. -/
theorem lies_new (w : World) (ts : List (List UInt8)) : Lies (w.alloc (.cells (tv ts).toArray 24)) (w.alloc (.cells (tv ts).toArray 24)).heap.size (some ⟨w.heap.size, 0, none⟩) w.heap.size 0 (tv ts) := by
  have h := Blk.new w 24 (tv ts).toArray
  exact ⟨fun _ => rfl, fun _ => h.lt, fun j u hj => h.cells j u hj⟩
theorem tv_rows (ts : List (List UInt8)) : (ts.map bv).flatten = tv ts := by rw [tv, List.flatMap_def]

set_option maxRecDepth 100000 in
set_option maxHeartbeats 8000000 in
theorem pairs_in (w : World) (ao bo : Option Addr) (n m cap dap b c off pff : Nat) (ta tb : List (List UInt8)) (hT : Tabs w) (has : Tags ta) (hbs : Tags tb) (hn : ta.length = n) (hm : tb.length = m) (hnn : n ≤ 50) (hmm : m ≤ 50) (hs : Lies w w.heap.size ao b off (tv ta)) (hs2 : Lies w w.heap.size bo c pff (tv tb)) :
    Calls Tryd.prog 6 #[.slice ao n cap, .slice bo m dap] w fun e w' => e = .returned (.bool true) ∧ Below w.heap.size w w' := by
  have c1 : ¬ ((50 : Int) < (n : Int)) := by omega
  have c2 : ¬ ((50 : Int) < (m : Int)) := by omega
  have hzA := (zero_of_info Tryd.zero24).1
  have HS := Lib.hid hs
  have HS2 := Lib.hid hs2
  have HA := Lib.hid has
  have HBB := Lib.hid hbs
  have HN := Lib.hid hn
  have HM := Lib.hid hm
  have HT := Lib.hid hT
  clear hs hs2 has hbs hn hm hT
  go_enter Tryd.func6, Tryd.ntmps6
  go_wp2_with fail
  refine (alive_any w HT.out).mono ?_
  rintro e w1 ⟨rfl, hb1⟩
  have HB1 := Lib.hid hb1
  clear hb1
  go_wp2_with fail
  refine (join_any w1 ao n cap b off ta HA.out HN.out (by omega) ((HS.out.keep HB1.out).more HB1.out.size)).mono ?_
  rintro e w2 ⟨rfl, hb2⟩
  obtain ⟨X, hX⟩ : ∃ J, J = joined ta := ⟨_, rfl⟩
  have hXl : X.length = 16 := by rw [hX]; exact joined_length ta
  rw [← hX]
  have HX := Lib.hid hX
  have HB2 := Lib.hid (HB1.out.trans (hb2.mono HB1.out.size))
  clear hX hb2 HB1
  go_wp2_with fail
  refine (join_any w2 bo m dap c pff tb HBB.out HM.out (by omega) ((HS2.out.keep HB2.out).more HB2.out.size)).mono ?_
  rintro e w3 ⟨rfl, hb3⟩
  obtain ⟨Y, hY⟩ : ∃ J, J = joined tb := ⟨_, rfl⟩
  have hYl : Y.length = 16 := by rw [hY]; exact joined_length tb
  rw [← hY]
  have HY := Lib.hid hY
  have hB3 := HB2.out.trans (hb3.mono HB2.out.size)
  clear hY hb3 HB2
  have h5 := (Blk.new w3 24 (zb 16).toArray).alloc (.cells (zb 16).toArray 24)
  have h6 := Blk.new (w3.alloc (.cells (zb 16).toArray 24)) 24 (zb 16).toArray
  simp only [World.size_alloc] at h6
  have h5' := h5.setRow (bv X)
  have h6' := h6.setRow_other (bv X).toArray (show w3.heap.size + 1 ≠ w3.heap.size by omega)
  have h5F := h5'.setRow_other (bv Y).toArray (show w3.heap.size ≠ w3.heap.size + 1 by omega)
  have h6F := h6'.setRow (bv Y)
  have hsz := hB3.size
  have hBF := below_setRow (below_setRow ((hB3.alloc hB3.size (.cells (zb 16).toArray 24)).alloc (by simp; omega) (.cells (zb 16).toArray 24)) hB3.size (bv X).toArray) (show w.heap.size ≤ w3.heap.size + 1 by omega) (bv Y).toArray
  have H5 := Lib.hid h5
  have H6 := Lib.hid h6'
  have H5F := Lib.hid h5F
  have H6F := Lib.hid h6F
  have HBF := Lib.hid hBF
  have HZX := Lib.hid (show (Tryd.prog.info? 24).map (·.size) = some (bv X).length by rw [bv_length, hXl]; exact Tryd.size24)
  have HZY := Lib.hid (show (Tryd.prog.info? 24).map (·.size) = some (bv Y).length by rw [bv_length, hYl]; exact Tryd.size24)
  have HLX := Lib.hid (show 0 + (bv X).length ≤ (zb 16).toArray.toList.length by rw [bv_length, hXl]; simp [zb_length])
  have HPX := Lib.hid (splice_all (zb 16).toArray.toList (bv X) (by rw [bv_length, hXl]; simp [zb_length]))
  have HLY := Lib.hid (show 0 + (bv Y).length ≤ (zb 16).toArray.toList.length by rw [bv_length, hYl]; simp [zb_length])
  have HPY := Lib.hid (splice_all (zb 16).toArray.toList (bv Y) (by rw [bv_length, hYl]; simp [zb_length]))
  clear h5 h6 h5' h6' h5F h6F hBF hB3
  go_wp2_with (first
    | ((with_reducible refine wpList_store_part ?_ 24 (.tmp 5) (.tmp 18) ?_ w3.heap.size 0 (bv X) ?_ ?_ 24 _ H5.out HZX.out HLX.out (bv_one _) ?_); rfl; rfl; rfl; rfl; rw [HPX.out])
    | ((with_reducible refine wpList_store_part ?_ 24 (.tmp 6) (.tmp 20) ?_ (w3.heap.size + 1) 0 (bv Y) ?_ ?_ 24 _ H6.out HZY.out HLY.out (bv_one _) ?_); rfl; rfl; rfl; rfl; rw [HPY.out]))
  generalize (((w3.alloc (.cells (zb 16).toArray 24)).alloc (.cells (zb 16).toArray 24)).setRow w3.heap.size (bv X).toArray).setRow (w3.heap.size + 1) (bv Y).toArray = w4 at H5F H6F HBF ⊢
  clear H5 H6 HLX HPX HLY HPY hsz
  obtain ⟨i0, hi0, hz0, hz1, hz2⟩ := info_parts Tryd.info24
  have hzc : (Value.agg (zb 16).toArray).cells.size = 16 := by rfl
  have HLA := Lib.hid (show (tv ta).length = n * 16 by rw [tv_length ta HA.out, HN.out])
  have HLB := Lib.hid (show (tv tb).length = m * 16 by rw [tv_length tb HBB.out, HM.out])
  have HSA := Lib.hid (HS.out.keep HBF.out)
  have HSB := Lib.hid (HS2.out.keep HBF.out)
  obtain ⟨Z, hZ⟩ : ∃ Z, Z = joined (ta ++ tb) := ⟨_, rfl⟩
  have hZl : Z.length = 16 := by rw [hZ]; exact joined_length _
  have HZ2 := Lib.hid (show joined [X, Y] = Z by rw [hZ, HX.out, HY.out]; exact joined_two ta tb)
  have HZ := Lib.hid hZ
  have HX1 := Lib.hid (joined_one X hXl)
  have HX2 := Lib.hid (joined_self X)
  have he1 := fun w' => tag_eq w' Z Z hZl hZl
  have he2 := fun w' => tag_eq w' noughts noughts rfl rfl
  have he3 := fun w' => tag_eq w' X X hXl hXl
  simp only [BEq.rfl] at he1 he2 he3
  have HTC := Lib.hid (HA.out.append HBB.out)
  have HNC := Lib.hid (show (ta ++ tb).length = n + m by rw [List.length_append, HN.out, HM.out])
  clear hZ HX HY HS HS2
  simp only [Act.put]
  refine wp_region_freeK (P := Tryd.prog) 27 (fun w' => Below w4.heap.size w4 w') (fun oq v w' => match oq with
      | 0 => v = .agg (bv X).toArray
      | 1 => v = .agg (bv Y).toArray
      | 2 => ∃ g, v = .slice (some ⟨g, 0, none⟩) 2 2 ∧ Lies w' w'.heap.size (some ⟨g, 0, none⟩) g 0 (tv [X, Y])
      | 3 => v = .agg (bv Z).toArray
      | 4 => ∃ g, v = .slice (some ⟨g, 0, none⟩) 0 0 ∧ Wide 16 w' w4.heap.size v []
      | 5 => v = .slice ao n cap
      | 6 => Wide 16 w' w4.heap.size v (tv ta)
      | 7 => v = .slice bo m dap
      | 8 => Wide 16 w' w4.heap.size v (tv (ta ++ tb))
      | 9 => v = .agg (bv Z).toArray
      | 10 => v = .bool true
      | 11 => v = .bool true
      | 12 => v = .agg (bv X).toArray
      | 13 => v = .agg (bv X).toArray
      | 14 => ∃ g, v = .slice (some ⟨g, 0, none⟩) 2 2 ∧ Lies w' w'.heap.size (some ⟨g, 0, none⟩) g 0 (tv [X, X])
      | 15 => v = .agg (bv noughts).toArray
      | 16 => v = .agg (bv noughts).toArray
      | 17 => v = .bool true
      | 18 => v = .bool true
      | 19 => v = .bool true
      | 20 => v = .agg (bv X).toArray
      | 21 => ∃ g, v = .slice (some ⟨g, 0, none⟩) 1 1 ∧ Lies w' w'.heap.size (some ⟨g, 0, none⟩) g 0 (tv [X])
      | 22 => v = .agg (bv X).toArray
      | 23 => v = .agg (bv X).toArray
      | 24 => v = .bool true
      | 25 => v = .bool true
      | 26 => v = .bool true
      | _ => True) (fun hh oq => match oq with
      | 2 => hh 3
      | 4 => hh 6
      | 6 => hh 8
      | 14 => hh 15
      | 21 => hh 22
      | _ => false) [(6, 3), (9, 8), (11, 8), (14, 8), (18, 8), (19, 8), (21, 8)] (by kernel_rfl) (by kernel_rfl) (by kernel_rfl) (Below.refl _ _).drew ?gb ?vb ?db ?steps ?fin
  case gb => exact fun a b h1 h2 => h1.trans (h2.mono h1.size)
  case vb =>
    intro oq v a b h hb
    match oq with
    | 0 => exact h
    | 1 => exact h
    | 2 => obtain ⟨g, h1, h2⟩ := h; exact ⟨g, h1, h2.below hb⟩
    | 3 => exact h
    | 4 => obtain ⟨g, h1, h2⟩ := h; exact ⟨g, h1, h2.below hb⟩
    | 5 => exact h
    | 6 => exact Wide.below h hb
    | 7 => exact h
    | 8 => exact Wide.below h hb
    | 9 => exact h
    | 10 => exact h
    | 11 => exact h
    | 12 => exact h
    | 13 => exact h
    | 14 => obtain ⟨g, h1, h2⟩ := h; exact ⟨g, h1, h2.below hb⟩
    | 15 => exact h
    | 16 => exact h
    | 17 => exact h
    | 18 => exact h
    | 19 => exact h
    | 20 => exact h
    | 21 => obtain ⟨g, h1, h2⟩ := h; exact ⟨g, h1, h2.below hb⟩
    | 22 => exact h
    | 23 => exact h
    | 24 => exact h
    | 25 => exact h
    | 26 => exact h
    | _ + 27 => trivial
  case db =>
    intro hh i oq h
    split at h
    · exact turnOn_of h
    · exact turnOn_of h
    · exact turnOn_of h
    · exact turnOn_of h
    · exact turnOn_of h
    · cases h
  case steps =>
    intro vals
    simp only [List.take_succ_cons, List.take_zero, freeStepsK, Act.put, List.setIfInBounds_toArray, List.set_cons_zero, List.set_cons_succ, Nat.reduceAdd]
    refine ⟨fun hh w8 hi hK hG hW hV => ?_, fun hh w8 hi hK hG hW hV => ?_, fun hh w8 hi hK hG hW hV => ?_, fun hh w8 hi hK hG hW hV => ?_, fun hh w8 hi hK hG hW hV => ?_, fun hh w8 hi hK hG hW hV => ?_, fun hh w8 hi hK hG hW hV => ?_, fun hh w8 hi hK hG hW hV => ?_, fun hh w8 hi hK hG hW hV => ?_, fun hh w8 hi hK hG hW hV => ?_, fun hh w8 hi hK hG hW hV => ?_, fun hh w8 hi hK hG hW hV => ?_, fun hh w8 hi hK hG hW hV => ?_, fun hh w8 hi hK hG hW hV => ?_, fun hh w8 hi hK hG hW hV => ?_, fun hh w8 hi hK hG hW hV => ?_, fun hh w8 hi hK hG hW hV => ?_, fun hh w8 hi hK hG hW hV => ?_, fun hh w8 hi hK hG hW hV => ?_, fun hh w8 hi hK hG hW hV => ?_, fun hh w8 hi hK hG hW hV => ?_, fun hh w8 hi hK hG hW hV => ?_, fun hh w8 hi hK hG hW hV => ?_, fun hh w8 hi hK hG hW hV => ?_, fun hh w8 hi hK hG hW hV => ?_, fun hh w8 hi hK hG hW hV => ?_, fun hh w8 hi hK hG hW hV => ?_, trivial⟩
    · clear hW hV hK hi
      exact stepAt_load_cells rfl rfl rfl 24 (.tmp 5) rfl w3.heap.size 0 (bv X) rfl 16 5 (H5F.out.below hG H5F.out.lt).cells Tryd.underlying24 HZX.out ⟨rfl, .inl (Below.refl _ _)⟩
    · clear hW hV hK hi
      exact stepAt_load_cells rfl rfl rfl 24 (.tmp 6) rfl (w3.heap.size + 1) 0 (bv Y) rfl 16 5 (H6F.out.below hG H6F.out.lt).cells Tryd.underlying24 HZY.out ⟨rfl, .inl (Below.refl _ _)⟩
    · have q0 := hV 0 (hW 0 (by decide)) rfl
      simp only at q0
      have q1 := hV 1 (hW 1 (by decide)) rfl
      simp only at q1
      rw [q0, q1]
      clear hW hV hK hi
      refine stepAt_build_rows rfl rfl rfl 28 24 2 _ rfl i0 (.agg (zb 16).toArray) (s := 16) (by omega) ([X, Y].map bv) (by simp [bv_length, hXl, hYl]) Tryd.underlying28 hi0 hz0 hz1 rfl (by omega) (by omega) rfl ⟨⟨_, rfl, ?_⟩, .inl ((Below.refl _ _).alloc (Nat.le_refl _) _)⟩
      rw [tv_rows]
      exact lies_new w8 [X, Y]
    · obtain ⟨g0, q0, hl0⟩ := hV 2 (hW 2 (by decide)) hi
      rw [q0]
      clear hW hV hK hi
      refine stepAt_call rfl rfl rfl 11 #[.slice (some ⟨g0, 0, none⟩) 2 2] (by go_simp) ((join_any w8 _ 2 2 g0 0 [X, Y] (Tags.two hXl hYl) rfl (by omega) hl0).mono fun e w' ⟨h1, h2⟩ => ⟨_, h1, congrArg (fun l : List UInt8 => Value.agg (bv l).toArray) HZ2.out, .inl h2⟩)
    · clear hW hV hK hi
      refine stepAt_value rfl rfl rfl (.slice (some ⟨w8.heap.size, 0, none⟩) 0 0) (w8.alloc (.cells #[] 24)) (by go_simp) ⟨⟨_, rfl, (wide_empty 16 w8 24 _ (Nat.le_refl _)).mono hG.size⟩, .inl ((Below.refl _ _).alloc (Nat.le_refl _) _)⟩
    · clear hW hV hK hi
      refine stepAt_value rfl rfl rfl (.slice ao n cap) w8 ?_ ⟨rfl, .inl (Below.refl _ _)⟩
      go_simp
    · obtain ⟨g0, q0, hw0⟩ := hV 4 (hW 4 (by decide)) hi
      have q5 := hV 5 (hW 5 (by decide)) rfl
      simp only at q5
      rw [q0, q5]
      clear hW hV hK hi
      refine stepAt_append_wide rfl rfl rfl _ _ 28 28 rfl rfl (by rw [q0] at hw0; exact hw0) (by omega) 24 i0 (.agg (zb 16).toArray) 16 Tryd.underlying28 hi0 hz0 hz1 hz2 hzc _ rfl n (tv ta) ((HSA.out.keep (hG.mono HBF.out.size)).src cap 28 24 Tryd.underlying28 HLA.out (tv_one _) (by omega)) ?_ ?_ hG.size fun v' w' h1 h2 h3 => ⟨by simpa using h1, .inl (h3 ⟨_, _, rfl⟩)⟩
      · unfold maxLen; simp; omega
      · simp; omega
    · clear hW hV hK hi
      refine stepAt_value rfl rfl rfl (.slice bo m dap) w8 ?_ ⟨rfl, .inl (Below.refl _ _)⟩
      go_simp
    · have q7 := hV 7 (hW 7 (by decide)) rfl
      simp only at q7
      rw [q7]
      have hw6 := hV 6 (hW 6 (by decide)) hi
      simp only at hw6
      have h6 := hW 6 (by decide)
      have h3 := hK 6 3 (by decide) h6
      refine stepAt_append_wide rfl rfl rfl _ _ 28 28 rfl rfl hw6 (by omega) 24 i0 (.agg (zb 16).toArray) 16 Tryd.underlying28 hi0 hz0 hz1 hz2 hzc _ rfl m (tv tb) ((HSB.out.keep (hG.mono HBF.out.size)).src dap 28 24 Tryd.underlying28 HLB.out (tv_one _) (by omega)) ?_ ?_ hG.size fun v' w' h1 h2 _ => ⟨by rw [tv_append]; exact h1, .inr ⟨hG.trans (h2.belowW hw6 hG.size), fun j hj hd => ?_⟩⟩
      · unfold maxLen; rw [HLA.out]; omega
      · rw [HLA.out]; omega
      match j, hj, hd with
      | 0, hj, _ => exact hV 0 hj rfl
      | 1, hj, _ => exact hV 1 hj rfl
      | 2, _, hd => simp only [turnOn_ne (show (3 : Nat) ≠ 8 by omega), h3] at hd; cases hd
      | 3, hj, _ => exact hV 3 hj rfl
      | 4, _, hd => simp only [turnOn_ne (show (6 : Nat) ≠ 8 by omega), h6] at hd; cases hd
      | 5, hj, _ => exact hV 5 hj rfl
      | 6, _, hd => simp only [turnOn_self] at hd; cases hd
      | 7, hj, _ => exact hV 7 hj rfl
      | 8, hj, _ => rw [hi] at hj; cases hj
      | 9, hj, _ => exact hV 9 hj rfl
      | 10, hj, _ => exact hV 10 hj rfl
      | 11, hj, _ => exact hV 11 hj rfl
      | 12, hj, _ => exact hV 12 hj rfl
      | 13, hj, _ => exact hV 13 hj rfl
      | 14, hj, _ => have := hK 14 8 (by decide) hj; rw [hi] at this; cases this
      | 15, hj, _ => exact hV 15 hj rfl
      | 16, hj, _ => exact hV 16 hj rfl
      | 17, hj, _ => exact hV 17 hj rfl
      | 18, hj, _ => exact hV 18 hj rfl
      | 19, hj, _ => exact hV 19 hj rfl
      | 20, hj, _ => exact hV 20 hj rfl
      | 21, hj, _ => have := hK 21 8 (by decide) hj; rw [hi] at this; cases this
      | 22, hj, _ => exact hV 22 hj rfl
      | 23, hj, _ => exact hV 23 hj rfl
      | 24, hj, _ => exact hV 24 hj rfl
      | 25, hj, _ => exact hV 25 hj rfl
      | 26, hj, _ => exact hV 26 hj rfl
      | _ + 27, _, _ => trivial
    · have hw8 := hV 8 (hW 8 (by decide)) rfl
      simp only at hw8
      generalize vals 8 = v8 at hw8 ⊢
      obtain ⟨xo, xn, xc, xb, xf, e8, hn8, hl8⟩ := hw8.lies
      rw [tv_length _ HTC.out, HNC.out] at hn8
      have hnx : xn = n + m := by omega
      subst hnx
      rw [e8]
      refine stepAt_call rfl rfl rfl 11 #[.slice xo (n + m) xc] (by go_simp) ((join_any w8 xo (n + m) xc xb xf (ta ++ tb) HTC.out HNC.out (by omega) hl8).mono fun e w' ⟨h1, h2⟩ => ⟨_, h1, congrArg (fun l : List UInt8 => Value.agg (bv l).toArray) HZ.out.symm, .inl h2⟩)
    · have q3 := hV 3 (hW 3 (by decide)) rfl
      simp only at q3
      have q9 := hV 9 (hW 9 (by decide)) rfl
      simp only at q9
      rw [q3, q9]
      clear hW hV hK hi
      refine stepAt_value rfl rfl rfl (.bool true) w8 ?_ ⟨rfl, .inl (Below.refl _ _)⟩
      have he := he1 w8
      go_simp
    · have q10 := hV 10 (hW 10 (by decide)) rfl
      simp only at q10
      rw [q10]
      clear hW hV hK hi
      refine stepAt_value rfl rfl rfl (.bool true) w8 ?_ ⟨rfl, .inl (Below.refl _ _)⟩
      go_simp
    · have q11 := hV 11 (hW 11 (by decide)) rfl
      simp only at q11
      rw [q11]
      clear hW hV hK hi
      exact stepAt_load_cells rfl rfl rfl 24 (.tmp 5) rfl w3.heap.size 0 (bv X) rfl 16 5 (H5F.out.below hG H5F.out.lt).cells Tryd.underlying24 HZX.out ⟨rfl, .inl (Below.refl _ _)⟩
    · have q11 := hV 11 (hW 11 (by decide)) rfl
      simp only at q11
      rw [q11]
      clear hW hV hK hi
      exact stepAt_load_cells rfl rfl rfl 24 (.tmp 5) rfl w3.heap.size 0 (bv X) rfl 16 5 (H5F.out.below hG H5F.out.lt).cells Tryd.underlying24 HZX.out ⟨rfl, .inl (Below.refl _ _)⟩
    · have q11 := hV 11 (hW 11 (by decide)) rfl
      simp only at q11
      have q12 := hV 12 (hW 12 (by decide)) rfl
      simp only at q12
      have q13 := hV 13 (hW 13 (by decide)) rfl
      simp only at q13
      rw [q11, q12, q13]
      clear hW hV hK hi
      refine stepAt_build_rows rfl rfl rfl 28 24 2 _ rfl i0 (.agg (zb 16).toArray) (s := 16) (by omega) ([X, X].map bv) (by simp [bv_length, hXl]) Tryd.underlying28 hi0 hz0 hz1 rfl (by omega) (by omega) rfl ⟨⟨_, rfl, ?_⟩, .inl ((Below.refl _ _).alloc (Nat.le_refl _) _)⟩
      rw [tv_rows]
      exact lies_new w8 [X, X]
    · have q11 := hV 11 (hW 11 (by decide)) rfl
      simp only at q11
      obtain ⟨g0, q0, hl0⟩ := hV 14 (hW 14 (by decide)) hi
      rw [q11, q0]
      clear hW hV hK hi
      refine stepAt_call rfl rfl rfl 11 #[.slice (some ⟨g0, 0, none⟩) 2 2] (by go_simp) ((join_any w8 _ 2 2 g0 0 [X, X] (Tags.two hXl hXl) rfl (by omega) hl0).mono fun e w' ⟨h1, h2⟩ => ⟨_, h1, congrArg (fun l : List UInt8 => Value.agg (bv l).toArray) HX2.out, .inl h2⟩)
    · have q11 := hV 11 (hW 11 (by decide)) rfl
      simp only at q11
      rw [q11]
      clear hW hV hK hi
      refine stepAt_value rfl rfl rfl (.agg (bv noughts).toArray) w8 ?_ ⟨rfl, .inl (Below.refl _ _)⟩
      go_simp
      exact zb_tagF
    · have q11 := hV 11 (hW 11 (by decide)) rfl
      simp only at q11
      have q15 := hV 15 (hW 15 (by decide)) rfl
      simp only at q15
      have q16 := hV 16 (hW 16 (by decide)) rfl
      simp only at q16
      rw [q11, q15, q16]
      clear hW hV hK hi
      refine stepAt_value rfl rfl rfl (.bool true) w8 ?_ ⟨rfl, .inl (Below.refl _ _)⟩
      have he := he2 w8
      go_simp
    · have q11 := hV 11 (hW 11 (by decide)) rfl
      simp only at q11
      have q17 := hV 17 (hW 17 (by decide)) rfl
      simp only at q17
      rw [q11, q17]
      clear hW hV hK hi
      refine stepAt_value rfl rfl rfl (.bool true) w8 ?_ ⟨rfl, .inl (Below.refl _ _)⟩
      go_simp
    · have q18 := hV 18 (hW 18 (by decide)) rfl
      simp only at q18
      rw [q18]
      clear hW hV hK hi
      refine stepAt_value rfl rfl rfl (.bool true) w8 ?_ ⟨rfl, .inl (Below.refl _ _)⟩
      go_simp
    · have q19 := hV 19 (hW 19 (by decide)) rfl
      simp only at q19
      rw [q19]
      clear hW hV hK hi
      exact stepAt_load_cells rfl rfl rfl 24 (.tmp 5) rfl w3.heap.size 0 (bv X) rfl 16 5 (H5F.out.below hG H5F.out.lt).cells Tryd.underlying24 HZX.out ⟨rfl, .inl (Below.refl _ _)⟩
    · have q19 := hV 19 (hW 19 (by decide)) rfl
      simp only at q19
      have q20 := hV 20 (hW 20 (by decide)) rfl
      simp only at q20
      rw [q19, q20]
      clear hW hV hK hi
      refine stepAt_build_rows rfl rfl rfl 28 24 1 _ rfl i0 (.agg (zb 16).toArray) (s := 16) (by omega) ([X].map bv) (by simp [bv_length, hXl]) Tryd.underlying28 hi0 hz0 hz1 rfl (by omega) (by omega) rfl ⟨⟨_, rfl, ?_⟩, .inl ((Below.refl _ _).alloc (Nat.le_refl _) _)⟩
      rw [tv_rows]
      exact lies_new w8 [X]
    · have q19 := hV 19 (hW 19 (by decide)) rfl
      simp only at q19
      obtain ⟨g0, q0, hl0⟩ := hV 21 (hW 21 (by decide)) hi
      rw [q19, q0]
      clear hW hV hK hi
      refine stepAt_call rfl rfl rfl 11 #[.slice (some ⟨g0, 0, none⟩) 1 1] (by go_simp) ((join_any w8 _ 1 1 g0 0 [X] (Tags.one hXl) rfl (by omega) hl0).mono fun e w' ⟨h1, h2⟩ => ⟨_, h1, congrArg (fun l : List UInt8 => Value.agg (bv l).toArray) HX1.out, .inl h2⟩)
    · have q19 := hV 19 (hW 19 (by decide)) rfl
      simp only at q19
      rw [q19]
      clear hW hV hK hi
      exact stepAt_load_cells rfl rfl rfl 24 (.tmp 5) rfl w3.heap.size 0 (bv X) rfl 16 5 (H5F.out.below hG H5F.out.lt).cells Tryd.underlying24 HZX.out ⟨rfl, .inl (Below.refl _ _)⟩
    · have q19 := hV 19 (hW 19 (by decide)) rfl
      simp only at q19
      have q22 := hV 22 (hW 22 (by decide)) rfl
      simp only at q22
      have q23 := hV 23 (hW 23 (by decide)) rfl
      simp only at q23
      rw [q19, q22, q23]
      clear hW hV hK hi
      refine stepAt_value rfl rfl rfl (.bool true) w8 ?_ ⟨rfl, .inl (Below.refl _ _)⟩
      have he := he3 w8
      go_simp
    · have q19 := hV 19 (hW 19 (by decide)) rfl
      simp only at q19
      have q24 := hV 24 (hW 24 (by decide)) rfl
      simp only at q24
      rw [q19, q24]
      clear hW hV hK hi
      refine stepAt_value rfl rfl rfl (.bool true) w8 ?_ ⟨rfl, .inl (Below.refl _ _)⟩
      go_simp
    · have q25 := hV 25 (hW 25 (by decide)) rfl
      simp only at q25
      rw [q25]
      clear hW hV hK hi
      refine stepAt_value rfl rfl rfl (.bool true) w8 ?_ ⟨rfl, .inl (Below.refl _ _)⟩
      go_simp
  case fin =>
    intro hh vals w10 hall hG hV
    have q26 := hV 26 (hall 26 (by omega)) rfl
    simp only at q26
    simp only [List.take_succ_cons, List.take_zero, List.drop_succ_cons, List.drop_zero, putAll, Act.put, List.setIfInBounds_toArray, List.set_cons_zero, List.set_cons_succ, Nat.reduceAdd]
    rw [q26]
    have HB := Lib.hid (HBF.out.trans (hG.mono HBF.out.size))
    clear hV q26
    go_wp2_with fail
    go_ret
    exact ⟨rfl, HB.out⟩
end Go.Proofs.YtmkdcpnnnlihfaaDoor
