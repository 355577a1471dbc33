/-
  The calls of a nil tree that range over blocks.
-/
import Derived.Test.YtmchjmcdlapegaaTRows
namespace Go.Proofs.Ytmchjmcdlapegaa
open Go Go.RowKit Go.Shelf
set_option maxRecDepth 10000
attribute [local go_sem] Oper.semAt_some

theorem node_nil (w : World) (i : Int) (hi : i < 0) :
    Calls Try.prog 26 #[.pointer none, .int .i64 i] w fun e w' => e = .returned (.tuple #[.agg (ndv (zero32, 0, -1)).toArray, .bool false]) ∧ Below w.heap.size w w' := by
  have HB := Lib.hid (show Below w.heap.size w (w.alloc (.cells (ndv nd0).toArray 51)) from (Below.refl _ w).alloc (Nat.le_refl _) _)
  have hx := Blk.new w 51 (ndv nd0).toArray
  have HX := Lib.hid (show Blk (w.alloc (.cells (ndv nd0).toArray 51)) w.heap.size 51 (ndv nd0) from hx)
  obtain ⟨X, hX⟩ : ∃ X, X = w.heap.size := ⟨_, rfl⟩
  have HXe := Lib.hid hX
  rw [← hX] at HX
  go_enter Try.func26, Try.ntmps26
  go_upto_region 1 with fail
  rw [← HXe.out]
  rw [zero_cells] at HX HB
  generalize w.alloc (.cells _ 51) = w1 at HX HB ⊢
  rw [← zero_cells] at HX
  clear hX hx
  have HBU := Lib.hid (built_none (-1))
  have HXL := Lib.hid (show nd0.1.length = 32 by simp [nd0, zero32])
  have HNL := Lib.hid (show ((zero32, 0, -1) : Nd).1.length = 32 by simp [zero32])
  go_wp2_with (first
    | ((with_reducible refine wpList_build_any 51 _ ?_ ?_ _ HBU.out ?_); rfl; rfl)
    | ((with_reducible refine wpList_store_node (.tmp 4) (.tmp 14) ?_ ?_ X nd0 (zero32, 0, -1) ?_ ?_ HX.out HXL.out HNL.out ?_); rfl; rfl; rfl; rfl))
  refine ret_node rfl rfl (HX.out.setRow (ndv (zero32, 0, -1))) HNL.out rfl ?_
  exact ⟨rfl, below_row HB.out (by rw [HXe.out]; exact Nat.le_refl _) _⟩

set_option maxHeartbeats 4000000 in
theorem all_gives_nil (LB R : Nat) (w : World) (Bn : Nat) (hBn : w.cell? ⟨Bn, 0, none⟩ = some (.pointer none)) :
    Gives (α := Ndl) Try.prog LB R 33 #[.pointer (some ⟨Bn, 0, none⟩)] (fun x => #[.agg (ndv x.1).toArray]) (fun xs => xs = []) (fun _ => True) 0 w := by
  intro l J Jx W hW hJ hJx hY h0
  have HBN := Lib.hid ((hW.cell (p := ⟨Bn, 0, none⟩) (World.block_lt_of_cell? w _ hBn)).trans hBn)
  have HJ := Lib.hid h0
  clear hW hY hBn h0
  refine callsIn_of_wp Try.func33 rfl trivial ?_ rfl
  simp only [Try.ntmps33, List.size_toArray, List.length_cons, List.length_nil, Nat.reduceAdd, Nat.reduceSub, Array.replicate_succ, Array.replicate_zero, List.push_toArray, List.append_toArray, List.nil_append, List.cons_append]
  have c1 := HBN.out
  have HLE := Lib.hid ((callsIn_wide (n := 8)).2 (len_nil W))
  gi_wp2_with (refine ⟨trivial, ?_⟩; gi_at_call 12; refine HLE.out.mono ?_; rintro e w' ⟨rfl, hw⟩; have hw := hw.symm; subst hw)
  gi_loopw [6] (fun i wr => i = .int .i64 0 ∧ Hid (J [] wr)) (fun _ _ => 0)
  case atStart => exact ⟨rfl, HJ⟩
  case round =>
    obtain ⟨rfl, HJ⟩ := hrel
    gi_wp2_with fail
    go_end0
    exact ⟨⟨_, rfl⟩, .inl ⟨[], rfl, HJ.out⟩⟩

set_option maxHeartbeats 8000000 in
theorem roots_nil (w : World) :
    Calls Try.prog 16 #[.pointer none] w fun e w' => ∃ v, e = .returned v ∧ Wide 32 w' w.heap.size v (rv []) ∧ Below w.heap.size w w' := by
  obtain ⟨i0, hi0, hz0, hz1, hz2⟩ := info_parts Try.infoRootB
  have hzc : (Value.agg (bv zero32).toArray).cells.size = 32 := by simp [Value.cells, bv_length, zero32]
  have HP32 := Lib.hid (show 0 < 32 by omega)
  have HP24 := Lib.hid (show 1 * 32 ≤ 2 ^ 24 by omega)
  have hb1 : Below w.heap.size w (w.alloc (.cells #[.slice none 0 0] 32)) := (Below.refl _ w).alloc (Nat.le_refl _) _
  have HB := Lib.hid hb1
  have HL := Lib.hid (Blk.new w 32 #[.slice none 0 0])
  obtain ⟨LB, hLBe⟩ : ∃ LB, LB = w.heap.size := ⟨_, rfl⟩
  have HLW := Lib.hid (show w.heap.size ≤ LB by omega)
  have HLL := Lib.hid (show LB < (w.alloc (.cells #[.slice none 0 0] 32)).heap.size by simp; omega)
  clear hb1
  refine (callsIn_wide (n := 10)).1 ?_
  refine callsIn_of_wp_marks Try.func16 rfl trivial ?_ rfl
  simp only [Try.ntmps16, List.size_toArray, List.length_cons, List.length_nil, Nat.reduceAdd, Nat.reduceSub, Array.replicate_succ, Array.replicate_zero, List.push_toArray, List.append_toArray, List.nil_append, List.cons_append]
  refine wpIn_wide.2 ?_
  go_upto_region 2 with fail
  rw [← hLBe] at HL ⊢
  generalize w.alloc (.cells #[.slice none 0 0] 32) = w1 at HB HL HLL ⊢
  clear hLBe
  go_wp2_with fail
  refine (all_any w1 none).mono ?_
  rintro e w2 ⟨rfl, hw2⟩
  obtain ⟨Bn, hBn⟩ : ∃ Bn, Bn = w1.heap.size := ⟨_, rfl⟩
  have hb2 : Below w1.heap.size w1 w2 := by rw [hw2]; exact (Below.refl _ w1).alloc (Nat.le_refl _) _
  have HS2 := Lib.hid (show w2.heap.size = w1.heap.size + 1 by rw [hw2]; simp)
  have HBN := Lib.hid (show w2.cell? ⟨Bn, 0, none⟩ = some (.pointer none) by
    rw [hw2, hBn]
    exact (Blk.new w1 26 #[.pointer none]).cell 0)
  have HBB := Lib.hid (show Bn = w1.heap.size from hBn)
  rw [← hBn]
  have HB2 := Lib.hid (HB.out.trans (hb2.mono HB.out.size))
  have HL2 := Lib.hid (HL.out.below hb2 HL.out.lt)
  have HSB := Lib.hid (show SB LB w2 = [LB] by rw [sb_of HL2.out]; rfl)
  clear hw2 hb2 hBn HB HL
  go_wp2_with fail
  have hLB : LB < w2.heap.size := HL2.out.lt
  have hw2 : w.heap.size ≤ w2.heap.size := HB2.out.size
  have HUP := Lib.hid (all_gives_nil LB w2.heap.size w2 Bn HBN.out)
  refine (wpIn_wide (n := 10)).1 (over_func (α := Ndl) rfl (enters_of Try.func33 (by kernel_rfl) rfl) (fun _ => rfl) (LB := LB) HL2.out.lt HUP.out (Below.refl _ _)
    (fun pre W => HoldsR LB w2.heap.size (namesOf pre) W ∧ Big w2.heap.size W ∧ Below w.heap.size w W)
    (fun _ _ => False)
    ⟨holds_new HL2.out, Nat.le_refl _, HB2.out⟩
    (fun s A C row hs hg hr => ⟨hs.1.stays HL2.out.lt hg hr, Nat.le_trans hs.2.1 hg.size, below_stays hs.2.2 HB2.out.size (Nat.le_refl _) hg hr⟩)
    (fun s A C row hs hg hr => hs)
    (fun s A l o o' hs hl h0 hc => ⟨hs.1.minds HL2.out.lt hl h0 hc o', Nat.le_trans hs.2.1 (Nat.le_of_eq (World.putObj_size).symm), below_minds hs.2.2 HB2.out.size hl o'⟩)
    (fun s A l o o' hs hl h0 hc => hs) ?round ?done ?stop)
  case round =>
    rintro l pre n W _ hN
    exact absurd hN (Nat.not_lt_zero _)
  case done =>
    rintro D xs W hD hS ⟨hh, hbig, hbw⟩ hd
    obtain ⟨v, k1, k2, k3⟩ := hh
    have HC := Lib.hid (show D ∉ ownL v from fun hm => by
      obtain ⟨o, q1, q2⟩ := k3 D (mem_ownL.1 hm)
      rw [hd] at q1; cases q1; cases q2)
    obtain ⟨ao, m, cap, bb, off, e, _, _⟩ := k2.lies
    subst e
    have c0 := k1.cell 0
    have HB3 := Lib.hid hbw
    have HD := Lib.hid hd
    have HW3 := Lib.hid k2
    have HA := Lib.hid (show namesOf xs = [] by rw [hS]; rfl)
    clear k1 k2 k3 hbw hd hS hbig
    go_wp2_with fail
    refine leaves_tmp rfl HD.out rfl ⟨_, rfl, ?_, below_minds HB3.out hw2 hD _⟩
    rw [← HA.out]
    exact (HW3.out.kept (kept_put W D _) (fun j hj hm => by
      rw [List.mem_singleton] at hm
      exact HC.out (hm ▸ mem_ownL.2 hj))).mono hw2
  case stop =>
    rintro D pre W hD hS h hd
    exact h.elim

set_option maxHeartbeats 8000000 in
theorem kids_nil (w : World) (r : List UInt8) (hr : r.length = 32) :
    Calls Try.prog 15 #[.pointer none, .agg (bv r).toArray] w fun e w' => ∃ v, e = .returned v ∧ Wide 32 w' w.heap.size v (rv []) ∧ Below w.heap.size w w' := by
  obtain ⟨i0, hi0, hz0, hz1, hz2⟩ := info_parts Try.infoRootB
  have hzc : (Value.agg (bv zero32).toArray).cells.size = 32 := by simp [Value.cells, bv_length, zero32]
  have HP32 := Lib.hid (show 0 < 32 by omega)
  have HP24 := Lib.hid (show 1 * 32 ≤ 2 ^ 24 by omega)
  have hb1 : Below w.heap.size w (w.alloc (.cells (bv r).toArray 23)) := (Below.refl _ w).alloc (Nat.le_refl _) _
  have HB0 := Lib.hid hb1
  have HX := Lib.hid (Blk.new w 23 (bv r).toArray)
  obtain ⟨X, hX⟩ : ∃ X, X = w.heap.size := ⟨_, rfl⟩
  clear hb1
  refine (callsIn_wide (n := 10)).1 ?_
  refine callsIn_of_wp_marks Try.func15 rfl trivial ?_ rfl
  simp only [Try.ntmps15, List.size_toArray, List.length_cons, List.length_nil, Nat.reduceAdd, Nat.reduceSub, Array.replicate_succ, Array.replicate_zero, List.push_toArray, List.append_toArray, List.nil_append, List.cons_append]
  refine wpIn_wide.2 ?_
  go_upto_region 1 with fail
  rw [← hX] at HX ⊢
  generalize w.alloc (.cells (bv r).toArray 23) = w0 at HB0 HX ⊢
  have HXA := Lib.hid HX.out.rootAll
  clear hX
  go_wp2_with ((with_reducible refine wpList_load_name (.tmp 3) ?_ ?_ X 0 r ?_ hr HXA.out ?_); rfl; rfl; rfl)
  refine (place_nil w0 r).mono ?_
  rintro e wa ⟨rfl, hba⟩
  have HBa := Lib.hid (HB0.out.trans (hba.mono HB0.out.size))
  clear HXA HX HB0 hba
  have HBB := Lib.hid (HBa.out.alloc HBa.out.size (.cells #[.int .i64 (-1)] 3))
  go_wp2_with fail
  exact ⟨_, results_tmp rfl _ _ _, _, rfl, wide_nil0 32 _ _, HBB.out⟩
set_option maxHeartbeats 4000000 in
theorem up_gives_nil (LB R : Nat) (w : World) (Bn Yn : Nat) (y : List UInt8) (hBn : w.cell? ⟨Bn, 0, none⟩ = some (.pointer none)) (hYn : Blk w Yn 23 (bv y)) (hR : R ≤ w.heap.size) (hy : y.length = 32) :
    Gives (α := Ndl) Try.prog LB R 32 #[.pointer (some ⟨Bn, 0, none⟩), .pointer (some ⟨Yn, 0, none⟩)] (fun x => #[.agg (ndv x.1).toArray]) (fun xs => xs = []) (fun _ => True) 0 w := by
  intro l J Jx W hW hJ hJx hY h0
  have hBl := World.block_lt_of_cell? w _ hBn
  have HBN := Lib.hid ((hW.cell (p := ⟨Bn, 0, none⟩) hBl).trans hBn)
  have HBL := Lib.hid (show Bn < W.heap.size from Nat.lt_of_lt_of_le hBl hW.size)
  have HYN := Lib.hid (hYn.below hW hYn.lt)
  have HRW := Lib.hid (show R ≤ W.heap.size by have := hW.size; omega)
  have HJS := Lib.hid hJ
  have HJ0 := Lib.hid h0
  clear hW hY hBn hYn hJ hJx h0 hR hBl
  refine callsIn_of_wp Try.func32 rfl trivial ?_ rfl
  simp only [Try.ntmps32, List.size_toArray, List.length_cons, List.length_nil, Nat.reduceAdd, Nat.reduceSub, Array.replicate_succ, Array.replicate_zero, List.push_toArray, List.append_toArray, List.nil_append, List.cons_append]
  obtain ⟨nd, hnd⟩ : ∃ nd : Nd, (zero32, 0, -1) = nd := ⟨_, rfl⟩
  have HND := Lib.hid hnd
  have HNL := Lib.hid (show nd.1.length = 32 by rw [← hnd]; simp [zero32])
  clear hnd
  gi_wp2
  refine wpIn_wide.2 ?_
  obtain ⟨w1, hw1⟩ : ∃ w1, w1 = W := ⟨_, rfl⟩
  subst hw1
  refine wp_region_freeT (P := Try.prog) 10 (fun w' => Below w1.heap.size w1 w') (fun oq v w' => match oq with
      | 0 => v = .pointer none
      | 1 => v = .pointer none
      | 2 => v = .agg (bv y).toArray
      | 3 => v = .int .i64 (-1)
      | 4 => v = .tuple #[.agg (ndv nd).toArray, .bool false]
      | 5 => v = .tuple #[.agg (ndv nd).toArray, .bool false]
      | 6 => v = .agg (ndv nd).toArray
      | 7 => v = .bool false
      | 8 => ∃ g, v = .pointer (some ⟨g, 0, none⟩) ∧ w1.heap.size ≤ g ∧ Blk w' g 51 (ndv nd0)
      | 9 => True
      | _ => True) (fun hh oq => match oq with
      | 8 => hh 9
      | _ => false) [(9, 0), (9, 1), (9, 2), (9, 3), (9, 4), (9, 5), (9, 6), (9, 8)] 9 (by decide) (fun s w' => ∃ g, s 8 = .pointer (some ⟨g, 0, none⟩) ∧ w1.heap.size ≤ g ∧ Blk w' g 51 (ndv nd)) (by kernel_rfl) (by kernel_rfl) (by kernel_rfl) (Below.refl _ _).drew ?gb ?vb ?db ?steps ?fin
  case gb => exact fun a b h1 h2 => h1.trans (h2.mono h1.size)
  case vb =>
    intro oq v a b h hb
    match oq with
    | 0 => exact h
    | 1 => exact h
    | 2 => exact h
    | 3 => exact h
    | 4 => exact h
    | 5 => exact h
    | 6 => exact h
    | 7 => exact h
    | 8 => (obtain ⟨g, h1, h2, h3⟩ := h; exact ⟨g, h1, h2, h3.below hb h3.lt⟩)
    | 9 => trivial
    | _ + 10 => trivial
  case db =>
    intro hh i oq h
    split at h
    · exact turnOn_of h
    · cases h
  case steps =>
    intro vals
    simp only [List.take_succ_cons, List.take_zero, freeStepsT, Act.put, List.setIfInBounds_toArray, List.set_cons_zero, List.set_cons_succ, Nat.reduceAdd]
    refine ⟨fun hh w8 hi hK hG hW hV => ?_, fun hh w8 hi hK hG hW hV => ?_, fun hh w8 hi hK hG hW hV => ?_, fun hh w8 hi hK hG hW hV => ?_, fun hh w8 hi hK hG hW hV => ?_, fun hh w8 hi hK hG hW hV => ?_, fun hh w8 hi hK hG hW hV => ?_, fun hh w8 hi hK hG hW hV => ?_, fun hh w8 hi hK hG hW hV => ?_, fun hh w8 hi hK hG hW hV => ?_, trivial⟩
    · refine stepS_early (by decide) (by decide) hK hi (stepS_of rfl ?_)
      clear hW hV hK hi
      refine stepAt_value rfl rfl rfl (.pointer none) w8 ?_ ⟨rfl, .inl (Below.refl _ _)⟩
      have hh := (hG.cell (p := ⟨Bn, 0, none⟩) HBL.out).trans HBN.out
      go_simp
    · refine stepS_early (by decide) (by decide) hK hi (stepS_of rfl ?_)
      clear hW hV hK hi
      refine stepAt_value rfl rfl rfl (.pointer none) w8 ?_ ⟨rfl, .inl (Below.refl _ _)⟩
      have hh := (hG.cell (p := ⟨Bn, 0, none⟩) HBL.out).trans HBN.out
      go_simp
    · refine stepS_early (by decide) (by decide) hK hi (stepS_of rfl ?_)
      clear hW hV hK hi
      refine stepAt_load_run rfl rfl rfl _ _ rfl _ _ rfl (run_load_root hy (HYN.out.below hG HYN.out.lt).rootAll) ⟨rfl, .inl (Below.refl _ _)⟩
    · refine stepS_early (by decide) (by decide) hK hi (stepS_of rfl ?_)
      have q1 := hV 1 (hW 1 (by decide)) rfl
      simp only at q1
      have q2 := hV 2 (hW 2 (by decide)) rfl
      simp only at q2
      rw [q1, q2]
      clear hW hV hK hi
      refine stepAt_call rfl rfl rfl 11 #[.pointer none, .agg (bv y).toArray] (by go_simp) ((place_nil w8 y).mono fun e w' ⟨h1, h2⟩ => ⟨_, h1, rfl, .inl h2⟩)
    · refine stepS_early (by decide) (by decide) hK hi (stepS_of rfl ?_)
      have q0 := hV 0 (hW 0 (by decide)) rfl
      simp only at q0
      have q3 := hV 3 (hW 3 (by decide)) rfl
      simp only at q3
      rw [q0, q3]
      clear hW hV hK hi
      refine stepAt_call rfl rfl rfl 26 #[.pointer none, .int .i64 (-1)] (by go_simp) ((node_nil w8 (-1) (by omega)).mono fun e w' ⟨h1, h2⟩ => ⟨_, h1, by rw [HND.out]; rfl, .inl h2⟩)
    · refine stepS_early (by decide) (by decide) hK hi (stepS_of rfl ?_)
      have q4 := hV 4 (hW 4 (by decide)) rfl
      simp only at q4
      rw [q4]
      clear hW hV hK hi
      refine stepAt_value rfl rfl rfl (.tuple #[.agg (ndv nd).toArray, .bool false]) w8 ?_ ⟨rfl, .inl (Below.refl _ _)⟩
      go_simp
    · refine stepS_early (by decide) (by decide) hK hi (stepS_of rfl ?_)
      have q5 := hV 5 (hW 5 (by decide)) rfl
      simp only at q5
      rw [q5]
      clear hW hV hK hi
      refine stepAt_value rfl rfl rfl (.agg (ndv nd).toArray) w8 ?_ ⟨rfl, .inl (Below.refl _ _)⟩
      go_simp
    · refine stepS_late (by decide) (fun v ht => by
      obtain ⟨g, h1, h2, h3⟩ := ht
      exact ⟨g, by rw [turnTo_ne (by decide)]; exact h1, h2, h3⟩) (stepS_of rfl ?_)
      have q5 := hV 5 (hW 5 (by decide)) rfl
      simp only at q5
      rw [q5]
      clear hW hV hK hi
      refine stepAt_value rfl rfl rfl (.bool false) w8 ?_ ⟨rfl, rfl⟩
      go_simp
    · refine stepS_early (by decide) (by decide) hK hi (stepS_of rfl ?_)
      clear hW hV hK hi
      refine stepAt_value rfl rfl rfl (.pointer (some ⟨w8.heap.size, 0, none⟩)) (w8.alloc (.cells #[.int .u8 0, .int .u8 0, .int .u8 0, .int .u8 0, .int .u8 0, .int .u8 0, .int .u8 0, .int .u8 0, .int .u8 0, .int .u8 0, .int .u8 0, .int .u8 0, .int .u8 0, .int .u8 0, .int .u8 0, .int .u8 0, .int .u8 0, .int .u8 0, .int .u8 0, .int .u8 0, .int .u8 0, .int .u8 0, .int .u8 0, .int .u8 0, .int .u8 0, .int .u8 0, .int .u8 0, .int .u8 0, .int .u8 0, .int .u8 0, .int .u8 0, .int .u8 0, .int .i64 0, .int .i64 0] 51)) ?_ ⟨⟨_, rfl, hG.size, blk_zero w8⟩, .inl ((Below.refl _ _).alloc (Nat.le_refl _) _)⟩
      go_simp
    · obtain ⟨g, hg, hgb, hblk⟩ := hV 8 (hW 8 (by decide)) hi
      have q6 := hV 6 (hW 6 (by decide)) rfl
      simp only at q6
      rw [hg, q6]
      refine stepS_skip rfl rfl (execs_store rfl rfl rfl (run_store_node hblk nd0_len HNL.out)) ⟨⟨trivial, .inr ⟨below_row hG hgb _, fun j hj hd => ?_⟩⟩, fun _ => ⟨g, by rw [turnTo_ne (by decide)]; exact hg, hgb, hblk.setRow (ndv nd)⟩, fun hm => absurd hm (by rw [hi]; simp)⟩
      match j, hj, hd with
      | 0, hj, _ => exact hV 0 hj rfl
      | 1, hj, _ => exact hV 1 hj rfl
      | 2, hj, _ => exact hV 2 hj rfl
      | 3, hj, _ => exact hV 3 hj rfl
      | 4, hj, _ => exact hV 4 hj rfl
      | 5, hj, _ => exact hV 5 hj rfl
      | 6, hj, _ => exact hV 6 hj rfl
      | 7, hj, _ => exact hV 7 hj rfl
      | 8, _, hd => exact absurd hd (by simp [turnOn])
      | 9, _, _ => trivial
      | _ + 10, _, _ => trivial
  case fin =>
    intro hh vals w8 hall hG hV hTT
    obtain ⟨X, hs8, hx2, hblk⟩ := hTT
    have q7 : vals 7 = .bool false := hV 7 (hall 7 (by omega)) rfl
    simp only [List.take_succ_cons, List.take_zero, List.drop_succ_cons, List.drop_zero, putAll, Act.put, List.setIfInBounds_toArray, List.set_cons_zero, List.set_cons_succ, Nat.reduceAdd]
    rw [hs8, q7]
    clear hV q7 hs8 hall
    generalize vals 0 = x0
    generalize vals 1 = x1
    generalize vals 2 = x2
    generalize vals 3 = x3
    generalize vals 4 = x4
    generalize vals 5 = x5
    generalize vals 6 = x6
    clear vals hh
    have HJ8 := Lib.hid (HJS.out.below hG HJ0.out)
    clear hx2 hblk hG HBN HBL HYN HRW HJ0
    go_wp2_with fail
    gi_wp2_with fail
    gi_loopw [5] (fun v wr => v = .bool false ∧ Hid (J [] wr)) (fun _ _ => 0)
    case atStart => exact ⟨rfl, HJ8⟩
    case round =>
      obtain ⟨rfl, HJ2⟩ := hrel
      gi_wp2_with fail
      refine ⟨fun _ h => (by cases h), ?_⟩
      gi_wp2_with fail
      go_end0
      exact ⟨⟨_, rfl⟩, .inl ⟨[], rfl, HJ2.out⟩⟩

set_option maxHeartbeats 8000000 in
theorem below_nil (w : World) (x y : List UInt8) (hx : x.length = 32) (hy : y.length = 32) :
    Calls Try.prog 14 #[.pointer none, .agg (bv x).toArray, .agg (bv y).toArray] w fun e w' => e = .returned (.bool false) ∧ Below w.heap.size w w' := by
  have hb1 : Below w.heap.size w (((w.alloc (.cells (bv x).toArray 23)).alloc (.cells (bv y).toArray 23)).alloc (.cells #[.bool false] 4)) := (((Below.refl _ w).alloc (Nat.le_refl _) _).alloc (by simp) _).alloc (by simp; omega) _
  have HB := Lib.hid hb1
  have HX := Lib.hid (((Blk.new w 23 (bv x).toArray).alloc (.cells (bv y).toArray 23)).alloc (.cells #[.bool false] 4))
  have HY := Lib.hid ((Blk.newAt (w.alloc (.cells (bv x).toArray 23)) 23 (bv y).toArray (w.heap.size + 1) (by simp)).alloc (.cells #[.bool false] 4))
  have HZ := Lib.hid (Blk.newAt ((w.alloc (.cells (bv x).toArray 23)).alloc (.cells (bv y).toArray 23)) 4 #[.bool false] (w.heap.size + 1 + 1) (by simp))
  have HS := Lib.hid (show (((w.alloc (.cells (bv x).toArray 23)).alloc (.cells (bv y).toArray 23)).alloc (.cells #[.bool false] 4)).heap.size = w.heap.size + 3 by simp)
  obtain ⟨X, hX⟩ : ∃ X, X = w.heap.size := ⟨_, rfl⟩
  obtain ⟨Y, hY⟩ : ∃ Y, Y = w.heap.size + 1 := ⟨_, rfl⟩
  obtain ⟨Z, hZ⟩ : ∃ Z, Z = w.heap.size + 1 + 1 := ⟨_, rfl⟩
  have HXX := Lib.hid (show w.heap.size ≤ X ∧ X < w.heap.size + 3 ∧ X ≠ Z by omega)
  have HZZ := Lib.hid (show w.heap.size ≤ Z ∧ Z < w.heap.size + 3 by omega)
  clear hb1
  refine (callsIn_wide (n := 10)).1 ?_
  refine callsIn_of_wp_marks Try.func14 rfl trivial ?_ rfl
  simp only [Try.ntmps14, List.size_toArray, List.length_cons, List.length_nil, Nat.reduceAdd, Nat.reduceSub, Array.replicate_succ, Array.replicate_zero, List.push_toArray, List.append_toArray, List.nil_append, List.cons_append]
  refine wpIn_wide.2 ?_
  go_upto_region 1 with fail
  rw [← hZ] at HZ ⊢
  rw [← hY] at HY ⊢
  rw [← hX] at HX ⊢
  generalize ((w.alloc (.cells (bv x).toArray 23)).alloc (.cells (bv y).toArray 23)).alloc (.cells #[.bool false] 4) = w1 at HB HX HY HZ HS ⊢
  clear hX hY hZ
  have HYA := Lib.hid HY.out.rootAll
  go_wp2_with ((with_reducible refine wpList_load_name (.tmp 5) ?_ ?_ Y 0 y ?_ hy HYA.out ?_); rfl; rfl; rfl)
  refine (up_any w1 none y).mono ?_
  rintro e w2 ⟨rfl, hw2⟩
  obtain ⟨Bn, hBn⟩ : ∃ Bn, Bn = w1.heap.size := ⟨_, rfl⟩
  obtain ⟨Yn, hYn⟩ : ∃ Yn, Yn = w1.heap.size + 1 := ⟨_, rfl⟩
  have hb2 : Below w1.heap.size w1 w2 := by rw [hw2]; exact ((Below.refl _ w1).alloc (Nat.le_refl _) _).alloc (by simp) _
  have HS2 := Lib.hid (show w2.heap.size = w1.heap.size + 2 by rw [hw2]; simp)
  have HBN := Lib.hid (show w2.cell? ⟨Bn, 0, none⟩ = some (.pointer none) by
    rw [hw2, hBn]
    exact ((Blk.new w1 26 #[.pointer none]).alloc (.cells (bv y).toArray 23)).cell 0)
  have HYN := Lib.hid (show Blk w2 Yn 23 (bv y) by
    rw [hw2, hYn]
    exact Blk.newAt (w1.alloc (.cells #[.pointer none] 26)) 23 (bv y).toArray _ (by simp))
  have HBB := Lib.hid (show Bn = w1.heap.size from hBn)
  rw [← hYn, ← hBn]
  have HB2 := Lib.hid (HB.out.trans (hb2.mono HB.out.size))
  have HX2 := Lib.hid (HX.out.below hb2 HX.out.lt)
  have HZ2 := Lib.hid (HZ.out.below hb2 HZ.out.lt)
  have hSB : SB Z w2 = [Z] := by
    unfold SB
    rw [HZ2.out.cell 0]
    rfl
  have HSB := Lib.hid hSB
  clear hw2 hb2 hBn hYn HB HX HY HZ HYA hSB
  go_wp2_with fail
  have hz2 : Z < w2.heap.size := HZ2.out.lt
  have hx2 : X < w2.heap.size := HX2.out.lt
  have hw2 : w.heap.size ≤ w2.heap.size := HB2.out.size
  have HUP := Lib.hid (up_gives_nil Z w2.heap.size w2 Bn Yn y HBN.out HYN.out (Nat.le_refl _) hy)
  have HXN := Lib.hid hx
  refine (wpIn_wide (n := 10)).1 (over_func (α := Ndl) rfl (enters_of Try.func32 (by kernel_rfl) rfl) (fun _ => rfl) (LB := Z) hz2 HUP.out (Below.refl _ _)
    (fun pre W => NoneIs x pre ∧ Blk W Z 4 [.bool false] ∧ Blk W X 23 (bv x) ∧ Below w.heap.size w W)
    (fun _ _ => False)
    ⟨(fun n hn => (by cases hn)), HZ2.out, HX2.out, HB2.out⟩
    (fun s A C row hs hg hr => ⟨hs.1, blk_stays hs.2.1 hz2 hg hr, blk_stays hs.2.2.1 hx2 hg hr, below_stays hs.2.2.2 hw2 (Nat.le_refl _) hg hr⟩)
    (fun s A C row hs hg hr => hs)
    (fun s A l o o' hs hl h0 hc => ⟨hs.1, blk_minds hs.2.1 hz2 hl o', blk_minds hs.2.2.1 hx2 hl o', below_minds hs.2.2.2 hw2 hl o'⟩)
    (fun s A l o o' hs hl h0 hc => hs) ?round ?done ?stop)
  case round =>
    rintro l pre n W _ hN
    exact absurd hN (Nat.not_lt_zero _)
  case done =>
    rintro D xs W hD hS ⟨h1, h2, h3, h4⟩ hd
    have HB3 := Lib.hid h4
    have HZ3 := Lib.hid h2
    have HD := Lib.hid hd
    have f0 := h2.free 0
    have c0 := h2.cell 0
    clear hS h1 h2 h3 h4 hd
    go_wp2_with fail
    have hz := HZ3.out.set 0 (.bool false)
    have hne : D ≠ Z := by omega
    refine leaves_cell rfl (D := D) ((Below.heap_setCell W ⟨Z, 0, none⟩ _ D (by simpa using hne)).trans HD.out) (g := Z) rfl (v := .bool false) ?_ ⟨rfl, below_minds (HB3.out.setCell (by exact HZZ.out.1) _) hw2 hD _⟩
    exact load_bool (blk_minds (R := w2.heap.size) hz hz2 hD _)
  case stop =>
    rintro D pre W hD hS h hd
    exact h.elim
end Go.Proofs.Ytmchjmcdlapegaa
