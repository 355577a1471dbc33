/-
  The walk of MacJoins.
-/
import Derived.Test.YtmkdcpnnnlihfaaDoorKeysWalk
import Derived.Test.YtmkdcpnnnlihfaaDoorRefJoin
import Derived.Test.YtmkdcpnnnlihfaaDoorBuildRows
import Derived.Deep.DeepCutAuto
namespace Go.Proofs.YtmkdcpnnnlihfaaDoor
open Go.RowKit

theorem Tryd.info24 : (Tryd.prog.info? 24).map (fun i => (i.zero, i.size, i.bytes)) = some (some (.agg (zb 16).toArray), 16, 16) := by kernel_rfl

theorem joined_turned (ts : List (List UInt8)) (i : Nat) : joined (ts.drop i ++ ts.take i) = joined ts := tagF_ext fun p _ => by
  have h : col ts p = col (ts.take i ++ ts.drop i) p := by rw [List.take_append_drop]
  rw [h, col_append, col_append, UInt8.xor_comm]
theorem joined_twice (ts : List (List UInt8)) (t : List UInt8) : joined ([t] ++ ts ++ [t]) = joined ts := tagF_ext fun p _ => by
  rw [col_append, col_append, UInt8.xor_comm (col [t] p), UInt8.xor_assoc, UInt8.xor_self, UInt8.xor_zero]

set_option maxRecDepth 100000 in
set_option maxHeartbeats 4000000 in
theorem joins_in (w : World) (ao : Option Addr) (n cap b off i : Nat) (ts : List (List UInt8)) (t : List UInt8) (hT : Tabs w) (hts : Tags ts) (hn : ts.length = n) (hnn : n ≤ 100) (hcap : n ≤ cap) (hi : i ≤ n) (htl : t.length = 16) (hs : Lies w w.heap.size ao b off (tv ts)) :
    Calls Tryd.prog 4 #[.slice ao n cap, .int .i64 (i : Int), .agg (bv t).toArray] w fun e w' => e = .returned (.bool true) ∧ Below w.heap.size w w' := by
  have c1 : ¬ ((100 : Int) < (n : Int)) := by omega
  have c2 : ¬ ((i : Int) < 0) := by omega
  have c3 : ¬ ((n : Int) < (i : Int)) := by omega
  have hzA := (zero_of_info Tryd.zero24).1
  have h5 := Blk.new w 24 (bv t).toArray
  have hB0 : Below w.heap.size w (w.alloc (.cells (bv t).toArray 24)) := (Below.refl _ _).alloc (Nat.le_refl _) _
  have H5 := Lib.hid h5
  have HB0 := Lib.hid hB0
  have HS := Lib.hid hs
  have HTT := Lib.hid hts
  have HN := Lib.hid hn
  have HT := Lib.hid hT
  clear hs hts hn hT h5 hB0
  go_enter Tryd.func4, Tryd.ntmps4
  go_wp2_with fail
  generalize w.alloc (.cells (bv t).toArray 24) = w1 at H5 HB0 ⊢
  refine (alive_any w1 (HT.out.below HB0.out HT.out.size)).mono ?_
  rintro e w2 ⟨rfl, hb2⟩
  have h5 := H5.out.below hb2 H5.out.lt
  have hB2 := HB0.out.trans (hb2.mono HB0.out.size)
  have H52 := Lib.hid h5
  have HB2 := Lib.hid hB2
  clear hb2 H5 HB0 h5 hB2
  go_wp2_with fail
  refine (refJoin_any w2 ao n cap b off ts HTT.out HN.out (by omega) ((HS.out.keep HB2.out).more HB2.out.size)).mono ?_
  rintro e w3 ⟨rfl, hb3⟩
  obtain ⟨J, hJ⟩ : ∃ J, J = joined ts := ⟨_, rfl⟩
  have hJl : J.length = 16 := by rw [hJ]; exact joined_length ts
  rw [← hJ]
  have HJ := Lib.hid hJ
  have h5 := H52.out.below hb3 H52.out.lt
  have hB3 := HB2.out.trans (hb3.mono HB2.out.size)
  have hlt5 := h5.lt
  have hn3 := Blk.new w3 24 (zb 16).toArray
  have HN3 := Lib.hid hn3
  have H7 := Lib.hid (hn3.setRow (bv J))
  have H53 := Lib.hid ((h5.alloc (.cells (zb 16).toArray 24)).setRow_other (bv J).toArray (show w.heap.size ≠ w3.heap.size by omega))
  have HB3 := Lib.hid (below_setRow (hB3.alloc hB3.size (.cells (zb 16).toArray 24)) hB3.size (bv J).toArray)
  have HZJ := Lib.hid (show (Tryd.prog.info? 24).map (·.size) = some (bv J).length by rw [bv_length, hJl]; exact Tryd.size24)
  have HLL := Lib.hid (show 0 + (bv J).length ≤ (zb 16).toArray.toList.length by rw [bv_length, hJl]; simp [zb_length])
  have HP := Lib.hid (splice_all (zb 16).toArray.toList (bv J) (by rw [bv_length, hJl]; simp [zb_length]))
  clear hJ hb3 h5 hB3 hn3 H52 HB2
  go_wp2_with ((with_reducible refine wpList_store_part ?_ 24 (.tmp 7) (.tmp 26) ?_ w3.heap.size 0 (bv J) ?_ ?_ 24 _ HN3.out HZJ.out HLL.out (bv_one _) ?_); rfl; rfl; rfl; rfl; rw [HP.out])
  generalize (w3.alloc (.cells (zb 16).toArray 24)).setRow w3.heap.size (bv J).toArray = w4 at H7 H53 HB3 ⊢
  clear HN3 HLL HP
  obtain ⟨i0, hi0, hz0, hz1, hz2⟩ := info_parts Tryd.info24
  have hzc : (Value.agg (zb 16).toArray).cells.size = 16 := by rfl
  have hS4 := HS.out.keep HB3.out
  obtain ⟨ao1, e1⟩ : ∃ x, x = (if cap = i then ao else ao.map (·.add (i * 16))) := ⟨_, rfl⟩
  obtain ⟨ao2, e2⟩ : ∃ x, x = (if cap = 0 then ao else ao.map (·.add (0 * 16))) := ⟨_, rfl⟩
  have hsl1 : ∀ w', (Instr.sliceAt 28 (.slice ao n cap) (some (.int .i64 (i : Int))) none none).run Tryd.prog w' = .ok (.slice ao1 (n - i) (cap - i)) w' := fun w' => by
    rw [run_sliceAt_slice _ _ _ _ _ _ (by kernel_rfl), run_slice_l _ _ _ _ _ (by kernel_rfl) .i64 (i : Int) (by omega) (by omega)]
    rw [show Tryd.prog.elem 28 = 24 by kernel_rfl, show (sizeOf 24).run Tryd.prog w' = .ok 16 w' by kernel_rfl]
    simp only [Result.andThen, sliced, Int.toNat_natCast]
    rw [e1]
  have hsl2 : ∀ w', (Instr.sliceAt 28 (.slice ao n cap) none (some (.int .i64 (i : Int))) none).run Tryd.prog w' = .ok (.slice ao2 i cap) w' := fun w' => by
    rw [run_sliceAt_slice _ _ _ _ _ _ (by kernel_rfl), run_slice_h _ _ _ _ _ (by kernel_rfl) .i64 (i : Int) (by omega) (by omega)]
    rw [show Tryd.prog.elem 28 = 24 by kernel_rfl, show (sizeOf 24).run Tryd.prog w' = .ok 16 w' by kernel_rfl]
    simp only [Result.andThen, sliced, Int.toNat_natCast]
    rw [e2]
    rfl
  have hlv : (tv ts).length = n * 16 := by rw [tv_length ts HTT.out, HN.out]
  have hL1 : Lies w4 w.heap.size ao1 b (off + i * 16) (tv (ts.drop i)) := by
    rw [tv_drop ts i HTT.out]
    refine hS4.drop (i * 16) ao1 fun h0 => ?_
    rw [List.length_drop, hlv] at h0
    rw [e1, if_neg (by omega), hS4.addr (by omega)]
    simp [Addr.add]
  have hL2 : Lies w4 w.heap.size ao2 b off (tv (ts.take i)) := by
    rw [tv_take ts i HTT.out]
    have h := hS4.take (i * 16)
    refine ⟨fun h0 => ?_, h.lt, h.cells⟩
    rw [List.length_take, hlv] at h0
    rw [e2, if_neg (by omega), h.addr (by rw [List.length_take, hlv]; omega)]
    simp [Addr.add]
  have HL1 := Lib.hid hL1
  have HL2 := Lib.hid hL2
  have hn1 : (tv (ts.drop i)).length = (n - i) * 16 := by rw [tv_length _ (HTT.out.drop i), List.length_drop, HN.out]
  have hn2 : (tv (ts.take i)).length = i * 16 := by rw [tv_length _ (HTT.out.take i), List.length_take, HN.out, Nat.min_eq_left (by omega)]
  have HN1 := Lib.hid hn1
  have HN2 := Lib.hid hn2
  have HLV := Lib.hid hlv
  clear hL1 hL2 hS4 e1 e2 hn1 hn2 hlv
  simp only [Act.put]
  refine wp_region_free (P := Tryd.prog) 8 (fun w' => Below w4.heap.size w4 w') (fun oq v w' => match oq with
      | 0 => ∃ g, v = .slice (some ⟨g, 0, none⟩) 0 0 ∧ Wide 16 w' w4.heap.size v []
      | 1 => v = .slice ao n cap
      | 2 => v = .int .i64 (i : Int)
      | 3 => v = .slice ao1 (n - i) (cap - i)
      | 4 => Wide 16 w' w4.heap.size v (tv (ts.drop i))
      | 5 => v = .slice ao n cap
      | 6 => v = .int .i64 (i : Int)
      | 7 => v = .slice ao2 i cap
      | _ => True) (by kernel_rfl) (by kernel_rfl) (Below.refl _ _).drew ?gb ?vb ?steps ?fin
  case gb => exact fun a b h1 h2 => h1.trans (h2.mono h1.size)
  case vb =>
    intro oq v a b h hb
    match oq with
    | 0 => obtain ⟨g, h1, h2⟩ := h; exact ⟨g, h1, h2.below hb⟩
    | 1 => exact h
    | 2 => exact h
    | 3 => exact h
    | 4 => exact Wide.below h hb
    | 5 => exact h
    | 6 => exact h
    | 7 => exact h
    | _ + 8 => trivial
  case steps =>
    intro vals
    simp only [List.take_succ_cons, List.take_zero, freeSteps, Act.put, List.setIfInBounds_toArray, List.set_cons_zero, List.set_cons_succ, Nat.reduceAdd]
    refine ⟨fun w8 hG hW => ?_, fun w8 hG hW => ?_, fun w8 hG hW => ?_, fun w8 hG hW => ?_, fun w8 hG hW => ?_, fun w8 hG hW => ?_, fun w8 hG hW => ?_, fun w8 hG hW => ?_, trivial⟩
    · clear hW
      refine stepAt_value rfl rfl rfl (.slice (some ⟨w8.heap.size, 0, none⟩) 0 0) (w8.alloc (.cells #[] 24)) (by go_simp) ⟨⟨_, rfl, (wide_empty 16 w8 24 _ (Nat.le_refl _)).mono hG.size⟩, (Below.refl _ _).alloc (Nat.le_refl _) _⟩
    · clear hW
      refine stepAt_value rfl rfl rfl (.slice ao n cap) w8 ?_ ⟨rfl, Below.refl _ _⟩
      go_simp
    · clear hW
      refine stepAt_value rfl rfl rfl (.int .i64 (i : Int)) w8 ?_ ⟨rfl, Below.refl _ _⟩
      go_simp
    · have q1 := hW 1 (by decide)
      simp only at q1
      have q2 := hW 2 (by decide)
      simp only at q2
      rw [q1, q2]
      clear hW
      refine stepAt_value rfl rfl rfl (.slice ao1 (n - i) (cap - i)) w8 ?_ ⟨rfl, Below.refl _ _⟩
      have h1 := hsl1 w8
      go_simp
    · obtain ⟨g0, q0, hw0⟩ := hW 0 (by decide)
      have q3 := hW 3 (by decide)
      simp only at q3
      rw [q0, q3]
      clear hW
      refine stepAt_append_wide rfl rfl rfl _ _ 28 28 rfl rfl (by rw [q0] at hw0; exact hw0) (by omega) 24 i0 (.agg (zb 16).toArray) 16 Tryd.underlying28 hi0 hz0 hz1 hz2 hzc _ rfl (n - i) (tv (ts.drop i)) ((HL1.out.keep (hG.mono HB3.out.size)).src (cap - i) 28 24 Tryd.underlying28 HN1.out (tv_one _) (by omega)) ?_ ?_ hG.size fun v' w' h1 h2 h3 => ⟨?_, h3 ⟨_, _, rfl⟩⟩
      · unfold maxLen; simp; omega
      · simp; omega
      · simpa using h1
    · clear hW
      refine stepAt_value rfl rfl rfl (.slice ao n cap) w8 ?_ ⟨rfl, Below.refl _ _⟩
      go_simp
    · clear hW
      refine stepAt_value rfl rfl rfl (.int .i64 (i : Int)) w8 ?_ ⟨rfl, Below.refl _ _⟩
      go_simp
    · have q5 := hW 5 (by decide)
      simp only at q5
      have q6 := hW 6 (by decide)
      simp only at q6
      rw [q5, q6]
      clear hW
      refine stepAt_value rfl rfl rfl (.slice ao2 i cap) w8 ?_ ⟨rfl, Below.refl _ _⟩
      have h2 := hsl2 w8
      go_simp
  case fin =>
  intro vals w5 hG hV
  have hw4 := hV 4 (by omega)
  have q7 := hV 7 (by omega)
  simp only at hw4 q7
  simp only [List.take_succ_cons, List.take_zero, List.drop_succ_cons, List.drop_zero, putAll, Act.put, List.setIfInBounds_toArray, List.set_cons_zero, List.set_cons_succ, Nat.reduceAdd]
  rw [q7]
  generalize vals 4 = v4 at hw4 ⊢
  have hB5 := HB3.out.trans (hG.mono HB3.out.size)
  have H54 := Lib.hid (H53.out.below hG H53.out.lt)
  have H74 := Lib.hid (H7.out.below hG H7.out.lt)
  have HW4 := Lib.hid hw4
  have HSrc := Lib.hid ((HL2.out.keep (hG.mono HB3.out.size)).src (P := Tryd.prog) cap 28 24 Tryd.underlying28 HN2.out (tv_one _) (k := 16) (by omega))
  have hsz5 := hG.size
  have HB5 := Lib.hid hB5
  have H5S := Lib.hid (show w.heap.size < w4.heap.size from H53.out.lt)
  have H7S := Lib.hid (show w3.heap.size < w4.heap.size from H7.out.lt)
  generalize vals 0 = x0
  generalize vals 1 = x1
  generalize vals 2 = x2
  generalize vals 3 = x3
  generalize vals 5 = x5
  generalize vals 6 = x6
  clear hV q7 hw4 hB5 hG hsl1 hsl2 H53 H7 HB3 vals
  go_wp2_with (at_builtin; refine wpList_append_wide rfl _ _ 28 28 rfl rfl HW4.out (by omega) 24 i0 (.agg (zb 16).toArray) 16 Tryd.underlying28 hi0 hz0 hz1 hz2 hzc _ rfl i (tv (ts.take i)) HSrc.out ?e2 ?e3 ?e4 ?_)
  case e2 => unfold maxLen; rw [HN1.out]; omega
  case e3 => rw [HN1.out]; omega
  case e4 => exact hsz5
  intro v6 w6 hw6 hg6
  have hb6 : Below w4.heap.size w5 w6 := hg6.belowW HW4.out hsz5
  have hlt7 := H7S.out
  have hlt5' := H5S.out
  have HW6 := Lib.hid (show Wide 16 w6 w4.heap.size v6 (tv (ts.drop i ++ ts.take i)) by rw [tv_append]; exact hw6)
  have H55 := Lib.hid (H54.out.below hb6 hlt5')
  have H75 := Lib.hid (H74.out.below hb6 hlt7)
  have HB6 := Lib.hid (HB5.out.trans (hb6.mono (by omega)))
  have HZT := Lib.hid (show (Tryd.prog.info? 24).map (·.size) = some (bv t).length by rw [bv_length, htl]; exact Tryd.size24)
  have HS6 := Lib.hid (HS.out.keep HB6.out)
  clear hw6 hg6 hb6 H54 H74 HB5 HW4 HSrc hsz5 hlt7 hlt5'
  go_wp2_with fail
  refine wp_region_free (P := Tryd.prog) 6 (fun w' => Below w6.heap.size w6 w') (fun oq v w' => match oq with
      | 0 => v = .agg (bv t).toArray
      | 1 => ∃ g, v = .slice (some ⟨g, 0, none⟩) 1 1 ∧ Wide 16 w' w6.heap.size v (bv t)
      | 2 => v = .slice ao n cap
      | 3 => Wide 16 w' w6.heap.size v (bv t ++ tv ts)
      | 4 => v = .agg (bv t).toArray
      | 5 => ∃ g, v = .slice (some ⟨g, 0, none⟩) 1 1 ∧ Lies w' w'.heap.size (some ⟨g, 0, none⟩) g 0 (bv t)
      | _ => True) (by kernel_rfl) (by kernel_rfl) (Below.refl _ _).drew ?gb ?vb ?steps ?fin
  case gb => exact fun a b h1 h2 => h1.trans (h2.mono h1.size)
  case vb =>
    intro oq v a b h hb
    match oq with
    | 0 => exact h
    | 1 => obtain ⟨g, h1, h2⟩ := h; exact ⟨g, h1, h2.below hb⟩
    | 2 => exact h
    | 3 => exact Wide.below h hb
    | 4 => exact h
    | 5 => obtain ⟨g, h1, h2⟩ := h; exact ⟨g, h1, h2.below hb⟩
    | _ + 6 => trivial
  case steps =>
    intro vals
    simp only [List.take_succ_cons, List.take_zero, freeSteps, Act.put, List.setIfInBounds_toArray, List.set_cons_zero, List.set_cons_succ, Nat.reduceAdd]
    refine ⟨fun w8 hG hW => ?_, fun w8 hG hW => ?_, fun w8 hG hW => ?_, fun w8 hG hW => ?_, fun w8 hG hW => ?_, fun w8 hG hW => ?_, trivial⟩
    · clear hW
      exact stepAt_load_cells rfl rfl rfl 24 (.tmp 5) rfl w.heap.size 0 (bv t) rfl 16 5 (H55.out.below hG H55.out.lt).cells Tryd.underlying24 HZT.out ⟨rfl, Below.refl _ _⟩
    · have q0 := hW 0 (by decide)
      simp only at q0
      rw [q0]
      clear hW
      refine stepAt_build_rows rfl rfl rfl 28 24 1 _ rfl i0 (.agg (zb 16).toArray) (s := 16) (by omega) [bv t] (by simp [bv_length, htl]) Tryd.underlying28 hi0 hz0 hz1 rfl (by omega) (by omega) rfl ⟨⟨_, rfl, ?_⟩, (Below.refl _ _).alloc (Nat.le_refl _) _⟩
      have h := wide_new 16 1 w8 24 (bv t) (by rw [bv_length, htl]) (by unfold maxLen; omega)
      simpa using h.mono hG.size
    · clear hW
      refine stepAt_value rfl rfl rfl (.slice ao n cap) w8 ?_ ⟨rfl, Below.refl _ _⟩
      go_simp
    · obtain ⟨g0, q0, hw0⟩ := hW 1 (by decide)
      have q2 := hW 2 (by decide)
      simp only at q2
      rw [q0, q2]
      clear hW
      refine stepAt_append_wide rfl rfl rfl _ _ 28 28 rfl rfl (by rw [q0] at hw0; exact hw0) (by omega) 24 i0 (.agg (zb 16).toArray) 16 Tryd.underlying28 hi0 hz0 hz1 hz2 hzc _ rfl n (tv ts) ((HS6.out.keep (hG.mono HB6.out.size)).src cap 28 24 Tryd.underlying28 HLV.out (tv_one _) (by omega)) ?_ ?_ hG.size fun v' w' h1 h2 h3 => ⟨h1, h3 ⟨_, _, rfl⟩⟩
      · unfold maxLen; rw [bv_length, htl]; omega
      · rw [bv_length, htl]; omega
    · clear hW
      exact stepAt_load_cells rfl rfl rfl 24 (.tmp 5) rfl w.heap.size 0 (bv t) rfl 16 5 (H55.out.below hG H55.out.lt).cells Tryd.underlying24 HZT.out ⟨rfl, Below.refl _ _⟩
    · have q4 := hW 4 (by decide)
      simp only at q4
      rw [q4]
      clear hW
      refine stepAt_build_rows rfl rfl rfl 28 24 1 _ rfl i0 (.agg (zb 16).toArray) (s := 16) (by omega) [bv t] (by simp [bv_length, htl]) Tryd.underlying28 hi0 hz0 hz1 rfl (by omega) (by omega) rfl ⟨⟨_, rfl, ?_⟩, (Below.refl _ _).alloc (Nat.le_refl _) _⟩
      have h := Blk.new w8 24 (bv t).toArray
      simp only [List.flatten_cons, List.flatten_nil, List.append_nil]
      exact ⟨fun _ => rfl, fun _ => h.lt, fun j u hj => h.cells j u hj⟩
  case fin =>
  intro vals w7 hG hV
  have hw3 := hV 3 (by omega)
  obtain ⟨g5, q5, hl5⟩ := hV 5 (by omega)
  simp only at hw3
  simp only [List.take_succ_cons, List.take_zero, List.drop_succ_cons, List.drop_zero, putAll, Act.put, List.setIfInBounds_toArray, List.set_cons_zero, List.set_cons_succ, Nat.reduceAdd]
  rw [q5]
  generalize vals 3 = v3 at hw3 ⊢
  have H56 := Lib.hid (H55.out.below hG H55.out.lt)
  have H76 := Lib.hid (H75.out.below hG H75.out.lt)
  have H5S := Lib.hid H55.out.lt
  have H7S := Lib.hid H75.out.lt
  have HW3 := Lib.hid hw3
  have HW7 := Lib.hid (HW6.out.below hG)
  have HSrc := Lib.hid (hl5.src (P := Tryd.prog) 1 28 24 Tryd.underlying28 (n := 1) (by rw [bv_length, htl]) (bv_one _) (k := 16) (by omega))
  have hsz7 := hG.size
  have HG7 := Lib.hid hG
  generalize vals 0 = x0
  generalize vals 1 = x1
  generalize vals 2 = x2
  generalize vals 4 = x4
  clear hV q5 hw3 hl5 hG H55 H75 vals HZT
  go_wp2_with (at_builtin; refine wpList_append_wide rfl _ _ 28 28 rfl rfl HW3.out (by omega) 24 i0 (.agg (zb 16).toArray) 16 Tryd.underlying28 hi0 hz0 hz1 hz2 hzc _ rfl 1 (bv t) HSrc.out ?e2 ?e3 ?e4 ?_)
  case e2 => unfold maxLen; rw [List.length_append, bv_length, HLV.out]; omega
  case e3 => rw [List.length_append, bv_length, HLV.out]; omega
  case e4 => exact hsz7
  intro v9 w9 hw9 hg9
  have hb9 : Below w6.heap.size w7 w9 := hg9.belowW HW3.out hsz7
  have HB9 := Lib.hid (HG7.out.trans hb9)
  obtain ⟨ao6, n6, cap6, b6, off6, e6, hn6, hl6⟩ := (HW6.out).lies
  have hl6' := (hl6.keep HB9.out).more HB9.out.size
  obtain ⟨ao9, n9, cap9, b9, off9, e9, hn9, hl9⟩ := hw9.lies
  have hT6 : Tags (ts.drop i ++ ts.take i) := (HTT.out.drop i).append (HTT.out.take i)
  have hT9 : Tags ([t] ++ ts ++ [t]) := (Tags.append (fun x hx => by simp at hx; rw [hx]; exact htl) HTT.out).append (fun x hx => by simp at hx; rw [hx]; exact htl)
  have et : tv ([t] ++ ts ++ [t]) = bv t ++ (tv ts ++ bv t) := by simp [tv]
  rw [← et] at hl9 hn9
  rw [tv_length _ hT6] at hn6
  rw [tv_length _ hT9] at hn9
  have l6 : (ts.drop i ++ ts.take i).length = n6 := by omega
  have l9 : ([t] ++ ts ++ [t]).length = n9 := by omega
  have m6 : n6 = n := by rw [← l6]; simp only [List.length_append, List.length_drop, List.length_take, HN.out]; omega
  have m9 : n9 = n + 2 := by rw [← l9]; simp only [List.length_append, List.length_cons, List.length_nil, HN.out]; omega
  have HJ6 := Lib.hid (show ∀ w', Below w9.heap.size w9 w' → Calls Tryd.prog 11 #[v6] w' fun e w'' => e = .returned (.agg (bv J).toArray) ∧ Below w'.heap.size w' w'' from fun w' hw' => by
    rw [e6, HJ.out, ← joined_turned ts i]
    exact join_any w' ao6 n6 cap6 b6 off6 _ hT6 l6 (by omega) (hl6'.below hw'))
  have HJ9 := Lib.hid (show ∀ w', Below w9.heap.size w9 w' → Calls Tryd.prog 11 #[v9] w' fun e w'' => e = .returned (.agg (bv J).toArray) ∧ Below w'.heap.size w' w'' from fun w' hw' => by
    rw [e9, HJ.out, ← joined_twice ts t]
    exact join_any w' ao9 n9 cap9 b9 off9 _ hT9 l9 (by omega) (hl9.below hw'))
  have HB69 := Lib.hid (HB6.out.trans (HB9.out.mono HB6.out.size))
  have HJ0 := Lib.hid (show ∀ w', Below w9.heap.size w9 w' → Calls Tryd.prog 11 #[.slice ao n cap] w' fun e w'' => e = .returned (.agg (bv J).toArray) ∧ Below w'.heap.size w' w'' from fun w' hw' => by
    rw [HJ.out]
    exact join_any w' ao n cap b off ts HTT.out HN.out (by omega) (((HS.out.keep HB69.out).more HB69.out.size).below hw'))
  have H7F := Lib.hid (show Blk w9 w3.heap.size 24 (bv J) from H76.out.below hb9 H7S.out)
  have heq := fun w' => tag_eq w' J J hJl hJl
  simp only [BEq.rfl] at heq
  clear hw9 hg9 hb9 e6 hn6 hl6 hl6' e9 hn9 hl9 hT6 hT9 et l6 l9 m6 m9 HW3 HW7 HSrc H56 H76 HG7 HW6 HS6 HL1 HL2 HN1 HN2 HLV HS HTT HN hi0 hz0 hz1 hz2 hzc hsz7 H5S H7S HB6 HB9 hcap hi
  go_wp2_with fail
  refine wp_region_free (P := Tryd.prog) 17 (fun w' => Below w9.heap.size w9 w') (fun oq v w' => match oq with
      | 0 => v = .slice ao n cap
      | 1 => v = .agg (bv J).toArray
      | 2 => v = .agg (bv J).toArray
      | 3 => v = .bool true
      | 4 => v = .bool true
      | 5 => v = v6
      | 6 => v = .agg (bv J).toArray
      | 7 => v = .agg (bv J).toArray
      | 8 => v = .bool true
      | 9 => v = .bool true
      | 10 => v = .bool true
      | 11 => v = v9
      | 12 => v = .agg (bv J).toArray
      | 13 => v = .agg (bv J).toArray
      | 14 => v = .bool true
      | 15 => v = .bool true
      | 16 => v = .bool true
      | _ => True) (by kernel_rfl) (by kernel_rfl) (Below.refl _ _).drew ?gb ?vb ?steps ?fin
  case gb => exact fun a b h1 h2 => h1.trans (h2.mono h1.size)
  case vb =>
    intro oq v a b h hb
    match oq with
    | 0 => exact h
    | 1 => exact h
    | 2 => exact h
    | 3 => exact h
    | 4 => exact h
    | 5 => exact h
    | 6 => exact h
    | 7 => exact h
    | 8 => exact h
    | 9 => exact h
    | 10 => exact h
    | 11 => exact h
    | 12 => exact h
    | 13 => exact h
    | 14 => exact h
    | 15 => exact h
    | 16 => exact h
    | _ + 17 => trivial
  case steps =>
    intro vals
    simp only [List.take_succ_cons, List.take_zero, freeSteps, Act.put, List.setIfInBounds_toArray, List.set_cons_zero, List.set_cons_succ, Nat.reduceAdd]
    refine ⟨fun w8 hG hW => ?_, fun w8 hG hW => ?_, fun w8 hG hW => ?_, fun w8 hG hW => ?_, fun w8 hG hW => ?_, fun w8 hG hW => ?_, fun w8 hG hW => ?_, fun w8 hG hW => ?_, fun w8 hG hW => ?_, fun w8 hG hW => ?_, fun w8 hG hW => ?_, fun w8 hG hW => ?_, fun w8 hG hW => ?_, fun w8 hG hW => ?_, fun w8 hG hW => ?_, fun w8 hG hW => ?_, fun w8 hG hW => ?_, trivial⟩
    · clear hW
      refine stepAt_value rfl rfl rfl (.slice ao n cap) w8 ?_ ⟨rfl, Below.refl _ _⟩
      go_simp
    · have q0 := hW 0 (by decide)
      simp only at q0
      rw [q0]
      clear hW
      exact stepAt_call rfl rfl rfl 11 #[.slice ao n cap] (by go_simp) ((HJ0.out w8 hG).mono fun e w' ⟨h1, h2⟩ => ⟨_, h1, rfl, h2⟩)
    · clear hW
      exact stepAt_load_cells rfl rfl rfl 24 (.tmp 7) rfl w3.heap.size 0 (bv J) rfl 16 5 (H7F.out.below hG H7F.out.lt).cells Tryd.underlying24 HZJ.out ⟨rfl, Below.refl _ _⟩
    · have q1 := hW 1 (by decide)
      simp only at q1
      have q2 := hW 2 (by decide)
      simp only at q2
      rw [q1, q2]
      clear hW
      refine stepAt_value rfl rfl rfl (.bool true) w8 ?_ ⟨rfl, Below.refl _ _⟩
      have he := heq w8
      go_simp
    · have q3 := hW 3 (by decide)
      simp only at q3
      rw [q3]
      clear hW
      refine stepAt_value rfl rfl rfl (.bool true) w8 ?_ ⟨rfl, Below.refl _ _⟩
      go_simp
    · have q4 := hW 4 (by decide)
      simp only at q4
      rw [q4]
      clear hW
      refine stepAt_value rfl rfl rfl (v6) w8 ?_ ⟨rfl, Below.refl _ _⟩
      go_simp
    · have q4 := hW 4 (by decide)
      simp only at q4
      have q5 := hW 5 (by decide)
      simp only at q5
      rw [q4, q5]
      clear hW
      exact stepAt_call rfl rfl rfl 11 #[v6] (by go_simp) ((HJ6.out w8 hG).mono fun e w' ⟨h1, h2⟩ => ⟨_, h1, rfl, h2⟩)
    · have q4 := hW 4 (by decide)
      simp only at q4
      rw [q4]
      clear hW
      exact stepAt_load_cells rfl rfl rfl 24 (.tmp 7) rfl w3.heap.size 0 (bv J) rfl 16 5 (H7F.out.below hG H7F.out.lt).cells Tryd.underlying24 HZJ.out ⟨rfl, Below.refl _ _⟩
    · have q4 := hW 4 (by decide)
      simp only at q4
      have q6 := hW 6 (by decide)
      simp only at q6
      have q7 := hW 7 (by decide)
      simp only at q7
      rw [q4, q6, q7]
      clear hW
      refine stepAt_value rfl rfl rfl (.bool true) w8 ?_ ⟨rfl, Below.refl _ _⟩
      have he := heq w8
      go_simp
    · have q4 := hW 4 (by decide)
      simp only at q4
      have q8 := hW 8 (by decide)
      simp only at q8
      rw [q4, q8]
      clear hW
      refine stepAt_value rfl rfl rfl (.bool true) w8 ?_ ⟨rfl, Below.refl _ _⟩
      go_simp
    · have q9 := hW 9 (by decide)
      simp only at q9
      rw [q9]
      clear hW
      refine stepAt_value rfl rfl rfl (.bool true) w8 ?_ ⟨rfl, Below.refl _ _⟩
      go_simp
    · have q10 := hW 10 (by decide)
      simp only at q10
      rw [q10]
      clear hW
      refine stepAt_value rfl rfl rfl (v9) w8 ?_ ⟨rfl, Below.refl _ _⟩
      go_simp
    · have q10 := hW 10 (by decide)
      simp only at q10
      have q11 := hW 11 (by decide)
      simp only at q11
      rw [q10, q11]
      clear hW
      exact stepAt_call rfl rfl rfl 11 #[v9] (by go_simp) ((HJ9.out w8 hG).mono fun e w' ⟨h1, h2⟩ => ⟨_, h1, rfl, h2⟩)
    · have q10 := hW 10 (by decide)
      simp only at q10
      rw [q10]
      clear hW
      exact stepAt_load_cells rfl rfl rfl 24 (.tmp 7) rfl w3.heap.size 0 (bv J) rfl 16 5 (H7F.out.below hG H7F.out.lt).cells Tryd.underlying24 HZJ.out ⟨rfl, Below.refl _ _⟩
    · have q10 := hW 10 (by decide)
      simp only at q10
      have q12 := hW 12 (by decide)
      simp only at q12
      have q13 := hW 13 (by decide)
      simp only at q13
      rw [q10, q12, q13]
      clear hW
      refine stepAt_value rfl rfl rfl (.bool true) w8 ?_ ⟨rfl, Below.refl _ _⟩
      have he := heq w8
      go_simp
    · have q10 := hW 10 (by decide)
      simp only at q10
      have q14 := hW 14 (by decide)
      simp only at q14
      rw [q10, q14]
      clear hW
      refine stepAt_value rfl rfl rfl (.bool true) w8 ?_ ⟨rfl, Below.refl _ _⟩
      go_simp
    · have q15 := hW 15 (by decide)
      simp only at q15
      rw [q15]
      clear hW
      refine stepAt_value rfl rfl rfl (.bool true) w8 ?_ ⟨rfl, Below.refl _ _⟩
      go_simp
  case fin =>
    intro vals w10 hG hV
    have q16 := hV 16 (by omega)
    simp only at q16
    simp only [List.take_succ_cons, List.take_zero, List.drop_succ_cons, List.drop_zero, putAll, Act.put, List.setIfInBounds_toArray, List.set_cons_zero, List.set_cons_succ, Nat.reduceAdd]
    rw [q16]
    have HB := Lib.hid (HB69.out.trans (hG.mono HB69.out.size))
    clear hV q16
    go_wp2_with fail
    go_ret
    exact ⟨rfl, HB.out⟩
end Go.Proofs.YtmkdcpnnnlihfaaDoor
