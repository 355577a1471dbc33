/-
  The program's Roots and Kids: rows of names that they collect, block by block.
-/
import Derived.Test.YtmchjmcdlapegaaTNames
namespace Go.Proofs.Ytmchjmcdlapegaa
open Go Go.RowKit Go.Shelf
set_option maxRecDepth 10000
attribute [local go_sem] Oper.semAt_some

/-- The function's end behind a loop over a function; its answer lies in a slot. -/
theorem leaves_tmp {P : Program} {fn : Func} {p : Tmp} (hf : fn.results = #[.tmp p]) {tmps : Array Value} {R : Ending → World → Prop} {D : Nat} {W : World} (hD : W.heap[D]? = some (.deferred (some []))) {v : Value} (hp : tmps.getD p undef = v)
    (hR : R (.returned v) (W.putObj D (.deferred none))) : LeavesInM Fence.wide 10 P fn tmps R [{ target := .collected D, args := #[] }] .returning W := by
  refine ⟨by simp, .inl ⟨_, _, rfl, run_takeDeferred hD, ?_⟩⟩
  exact ⟨_, results_tmp hf _ _ _, by rw [hp]; exact hR⟩

theorem kept_put (W : World) (l : Nat) (o : Obj) : Kept [l] W (W.putObj l o) := ⟨rfl, rfl, rfl, Nat.le_of_eq (World.putObj_size).symm, fun k _ hk => World.putObj_heap_other (by simpa using hk)⟩
theorem rs_all {l : List Ndl} {t : List Nd} (h : l.map (·.1) = t) : l.map (·.1.1) = rs t := by rw [← h]; simp [rs]
def Big (R : Nat) (W : World) : Prop := R ≤ W.heap.size
def namesOf (l : List Ndl) : List (List UInt8) := l.map (·.1.1)
theorem namesOf_snoc (l : List Ndl) (n : Ndl) : namesOf (l ++ [n]) = namesOf l ++ [n.1.1] := by simp [namesOf]
theorem namesOf_length (l : List Ndl) : (namesOf l).length = l.length := by simp [namesOf]
theorem namesOf_rts (l : List Ndl) : Rts (namesOf l) := fun r hr => by
  obtain ⟨n, _, rfl⟩ := List.mem_map.1 hr
  exact n.2
/-- Those whose parent stands at p. -/
def kidsOf (p : Int) (l : List Ndl) : List (List UInt8) := (l.filter fun n => n.1.2.2 == p).map (·.1.1)
theorem kidsOf_hit {p : Int} (l : List Ndl) {n : Ndl} (h : n.1.2.2 = p) : kidsOf p (l ++ [n]) = kidsOf p l ++ [n.1.1] := by simp [kidsOf, h]
theorem kidsOf_miss {p : Int} (l : List Ndl) {n : Ndl} (h : ¬ n.1.2.2 = p) : kidsOf p (l ++ [n]) = kidsOf p l := by simp [kidsOf, h]
theorem kidsOf_length (p : Int) (l : List Ndl) : (kidsOf p l).length ≤ l.length := by simp [kidsOf]; exact List.length_filter_le _ _
theorem kidsOf_rts (p : Int) (l : List Ndl) : Rts (kidsOf p l) := fun r hr => by
  obtain ⟨n, _, rfl⟩ := List.mem_map.1 hr
  exact n.2
theorem kidsOf_all {p : Int} {l : List Ndl} {t : List Nd} (h : l.map (·.1) = t) : kidsOf p l = rs (t.filter fun n => n.2.2 == p) := by
  subst h
  simp [kidsOf, rs, List.filter_map, Function.comp_def]

set_option maxHeartbeats 8000000 in
theorem roots_any (w : World) (F : List Nat) (b : Nat) (t : List Nd) (most : Int) (h : Tre w F b t most) :
    Calls Try.prog 16 #[.pointer (some ⟨b, 0, none⟩)] w fun e w' => ∃ v, e = .returned v ∧ Wide 32 w' w.heap.size v (rv (rs t)) ∧ Below w.heap.size w w' := by
  obtain ⟨i0, hi0, hz0, hz1, hz2⟩ := info_parts Try.infoRootB
  have hzc : (Value.agg (bv zero32).toArray).cells.size = 32 := by simp [Value.cells, bv_length, zero32]
  have HP32 := Lib.hid (show 0 < 32 by omega)
  have HP24 := Lib.hid (show 1 * 32 ≤ 2 ^ 24 by omega)
  have hb1 : Below w.heap.size w (w.alloc (.cells #[.slice none 0 0] 32)) := (Below.refl _ w).alloc (Nat.le_refl _) _
  have HB := Lib.hid hb1
  have HL := Lib.hid (Blk.new w 32 #[.slice none 0 0])
  have H1 := Lib.hid (h.below hb1)
  have HLow := Lib.hid h.low
  obtain ⟨LB, hLBe⟩ : ∃ LB, LB = w.heap.size := ⟨_, rfl⟩
  have HLW := Lib.hid (show w.heap.size ≤ LB by omega)
  have HLL := Lib.hid (show LB < (w.alloc (.cells #[.slice none 0 0] 32)).heap.size by simp; omega)
  clear hb1 h
  refine (callsIn_wide (n := 10)).1 ?_
  refine callsIn_of_wp_marks Try.func16 rfl trivial ?_ rfl
  simp only [Try.ntmps16, List.size_toArray, List.length_cons, List.length_nil, Nat.reduceAdd, Nat.reduceSub, Array.replicate_succ, Array.replicate_zero, List.push_toArray, List.append_toArray, List.nil_append, List.cons_append]
  refine wpIn_wide.2 ?_
  go_upto_region 2 with fail
  rw [← hLBe] at HL ⊢
  generalize w.alloc (.cells #[.slice none 0 0] 32) = w1 at HB HL H1 HLL ⊢
  clear hLBe
  go_wp2_with fail
  refine (all_any w1 (some ⟨b, 0, none⟩)).mono ?_
  rintro e w2 ⟨rfl, hw2⟩
  obtain ⟨Bn, hBn⟩ : ∃ Bn, Bn = w1.heap.size := ⟨_, rfl⟩
  have hb2 : Below w1.heap.size w1 w2 := by rw [hw2]; exact (Below.refl _ w1).alloc (Nat.le_refl _) _
  have HS2 := Lib.hid (show w2.heap.size = w1.heap.size + 1 by rw [hw2]; simp)
  have HBN := Lib.hid (show w2.cell? ⟨Bn, 0, none⟩ = some (.pointer (some ⟨b, 0, none⟩)) by
    rw [hw2, hBn]
    exact (Blk.new w1 26 #[.pointer (some ⟨b, 0, none⟩)]).cell 0)
  have HBB := Lib.hid (show Bn = w1.heap.size from hBn)
  rw [← hBn]
  have H2 := Lib.hid (H1.out.below hb2)
  have HB2 := Lib.hid (HB.out.trans (hb2.mono HB.out.size))
  have HL2 := Lib.hid (HL.out.below hb2 HL.out.lt)
  have HSB := Lib.hid (show SB LB w2 = [LB] by rw [sb_of HL2.out]; rfl)
  clear hw2 hb2 hBn H1 HB HL
  go_wp2_with fail
  have hLB : LB < w2.heap.size := HL2.out.lt
  have hw2 : w.heap.size ≤ w2.heap.size := HB2.out.size
  have HLR := Lib.hid (show (ndl t H2.out.1.nds).length ≤ 256 by rw [ndl_length]; have h1 := H2.out.1.room; have h2 := H2.out.1.most256; omega)
  have HUP := Lib.hid (all_gives LB w2.heap.size w2 F b Bn t most H2.out HBN.out (Nat.le_refl _) hLB (fun k hk => H2.out.low k hk) (by rw [HBB.out, HS2.out]; omega)
    (by rw [HSB.out]; exact fun k hk hm => by simp at hm; have h1 := HLow.out k hk; have h2 := HLW.out; omega)
    (by rw [HSB.out]; intro hm; simp at hm; have h1 := HBB.out; have h3 := HLL.out; omega))
  refine (wpIn_wide (n := 10)).1 (over_func (α := Ndl) rfl (enters_of Try.func33 (by kernel_rfl) rfl) (fun _ => rfl) (LB := LB) HL2.out.lt HUP.out (Below.refl _ _)
    (fun pre W => HoldsR LB w2.heap.size (namesOf pre) W ∧ Big w2.heap.size W ∧ Below w.heap.size w W)
    (fun _ _ => False)
    ⟨holds_new HL2.out, Nat.le_refl _, HB2.out⟩
    (fun s A C row hs hg hr => ⟨hs.1.stays HL2.out.lt hg hr, Nat.le_trans hs.2.1 hg.size, below_stays hs.2.2 HB2.out.size (Nat.le_refl _) hg hr⟩)
    (fun s A C row hs hg hr => hs)
    (fun s A l o o' hs hl h0 hc => ⟨hs.1.minds HL2.out.lt hl h0 hc o', Nat.le_trans hs.2.1 (Nat.le_of_eq (World.putObj_size).symm), below_minds hs.2.2 HB2.out.size hl o'⟩)
    (fun s A l o o' hs hl h0 hc => hs) ?round ?done ?stop)
  case round =>
    rintro l pre n W ⟨hh, hbig, hbw⟩ hN
    obtain ⟨v, h1, h2, h3⟩ := hh
    obtain ⟨r1, r2, r3, r4⟩ := laid_round (LB := LB) (R := w2.heap.size) W n.1 h1.lt
    have HZB := Lib.hid (blk_zero W)
    have HR := Lib.hid r3
    have HK1 := Lib.hid r1
    have HK2 := Lib.hid r2
    have HHW := Lib.hid (HoldsR.below (show HoldsR LB w2.heap.size (namesOf pre) W from ⟨v, h1, h2, h3⟩) r4)
    have HBW := Lib.hid (hbw.trans (r4.mono hbw.size))
    have HNL := Lib.hid n.2
    have HNN := Lib.hid hN
    have HRW := Lib.hid (show w2.heap.size ≤ ((W.alloc (.cells #[.int .u8 0, .int .u8 0, .int .u8 0, .int .u8 0, .int .u8 0, .int .u8 0, .int .u8 0, .int .u8 0, .int .u8 0, .int .u8 0, .int .u8 0, .int .u8 0, .int .u8 0, .int .u8 0, .int .u8 0, .int .u8 0, .int .u8 0, .int .u8 0, .int .u8 0, .int .u8 0, .int .u8 0, .int .u8 0, .int .u8 0, .int .u8 0, .int .u8 0, .int .u8 0, .int .u8 0, .int .u8 0, .int .u8 0, .int .u8 0, .int .u8 0, .int .u8 0, .int .i64 0, .int .i64 0] 51)).setRow W.heap.size (ndv n.1).toArray).heap.size from Nat.le_trans hbig r4.size)
    obtain ⟨V, hV⟩ : ∃ V, V = W.heap.size := ⟨_, rfl⟩
    clear r1 r2 r3 r4 h1 h2 h3 hbw hbig hN
    gi_wp2_with ((with_reducible refine wpListIn_lay l HZB.out nd0_len HNL.out (.tmp 4) (.tmp 7) ?_ ?_ ?_ ?_ ?_); rfl; rfl; rfl; rfl)
    refine ⟨HK1.out, HK2.out, ?_⟩
    rw [← hV] at HR HHW HBW HRW ⊢
    clear HZB HK1 HK2
    generalize (W.alloc (.cells _ 51)).setRow _ (ndv n.1).toArray = W1 at HR HHW HBW HRW ⊢
    intro W3 ht
    have HRA := Lib.hid (ht.blk HR.out).nodeName
    have HH3 := Lib.hid (show HoldsR LB w2.heap.size (namesOf pre) W3 by
      obtain ⟨q, o, o', q1, q2, q3, q4⟩ := ht
      rw [q4]
      exact HHW.out.minds hLB q1 q2 q3 o')
    have HB3 := Lib.hid (ht.below HBW.out hw2)
    have HRS := Lib.hid (show w2.heap.size ≤ W3.heap.size by rw [ht.size]; exact HRW.out)
    clear HR HHW HBW HRW ht hV
    obtain ⟨v, k1, k2, k3⟩ := HH3.out
    obtain ⟨ao, m, cap, bb, off, e, _, _⟩ := k2.lies
    subst e
    have HL3 := Lib.hid k1
    have HH := Lib.hid k2
    have HC3 := Lib.hid k3
    clear k1 k2 k3
    have HSrc := Lib.hid (src_rowT W3 32 (by omega) 32 23 Try.underlying32 (bv n.1.1) (by rw [bv_length, HNL.out]) (bv_one _) (P := Try.prog))
    have HB32 := Lib.hid (show (bv n.1.1).length = 32 by rw [bv_length, HNL.out])
    have HWA := Lib.hid (HH.out.alloc (.cells (bv n.1.1).toArray 23))
    have HLN := Lib.hid (show (rv (namesOf pre)).length = (namesOf pre).length * 32 from rv_length _ (namesOf_rts pre))
    have HFL := Lib.hid (show (namesOf pre).length ≤ 256 from by rw [namesOf_length]; have h1 := HNN.out; have h2 := HLR.out; rw [ndl_length] at h2; omega)
    have c0 := HL3.out.cell 0
    have hsz : w2.heap.size ≤ (W3.alloc (.cells (bv n.1.1).toArray 23)).heap.size := by have := HRS.out; simp; omega
    have HSZ := Lib.hid hsz
    clear hsz
    gi_wp2_with (first
      | ((with_reducible refine wpListIn_load (round_fn l) 23 (.tmp 9) ?_ ?_ _ _ ?_ (run_load_root HNL.out HRA.out) ?_); rfl; rfl; rfl)
      | ((with_reducible refine wpListIn_build_row (round_fn l) ?_ 32 23 (.tmp 10) ?_ (bv n.1.1) ?_ i0 (.agg (bv zero32).toArray) (s := 32) HP32.out HB32.out Try.underlying32 hi0 hz0 hz1 HP24.out ?_); rfl; rfl; rfl)
      | ((with_reducible refine wpListIn_append_wide (round_fn l) ?_ (.tmp 8) (.tmp 11) 32 32 ?_ ?_ HWA.out HP32.out 23 i0 (.agg (bv zero32).toArray) 32 Try.underlying32 hi0 hz0 hz1 hz2 hzc _ ?_ 1 (bv n.1.1) HSrc.out ?e2 ?e3 HSZ.out ?_); rfl; rfl; rfl; rfl; (case e2 => rw [HLN.out]; have := HFL.out; unfold maxLen; omega); (case e3 => rw [HLN.out]; have := HFL.out; omega); intro v' W4 hw4 hg4; obtain ⟨k1, k2, k3, k4, k5, _⟩ := HoldsR.collected HL3.out HC3.out hLB HH.out hw4 hg4 HNL.out; obtain ⟨ao', n', cap', b', off', e', _, _⟩ := hw4.lies; subst e'; have f1 := k4.free 0; have c1 := k4.cell 0; have HK1 := Lib.hid k1; have HK2 := Lib.hid k2; have HK3 := Lib.hid k3; have HK5 := Lib.hid k5; clear hw4 hg4 k1 k2 k3 k4 k5))
    exact ⟨HK2.out, .inl ⟨rfl, HK3.out, by rw [namesOf_snoc]; exact HK1.out, Nat.le_trans HRS.out HK3.out.size, HB3.out.trans (HK5.out w.heap.size HLW.out)⟩⟩
  case done =>
    rintro D xs W hD hS ⟨hh, hbig, hbw⟩ hd
    obtain ⟨v, k1, k2, k3⟩ := hh
    have HC := Lib.hid (show D ∉ ownL v from fun hm => by
      obtain ⟨o, q1, q2⟩ := k3 D (mem_ownL.1 hm)
      rw [hd] at q1; cases q1; cases q2)
    obtain ⟨ao, m, cap, bb, off, e, _, _⟩ := k2.lies
    subst e
    have c0 := k1.cell 0
    have HB3 := Lib.hid hbw
    have HD := Lib.hid hd
    have HW3 := Lib.hid k2
    have HA := Lib.hid (show namesOf xs = rs t from rs_all hS)
    clear k1 k2 k3 hbw hd hS hbig
    go_wp2_with fail
    refine leaves_tmp rfl HD.out rfl ⟨_, rfl, ?_, below_minds HB3.out hw2 hD _⟩
    rw [← HA.out]
    exact (HW3.out.kept (kept_put W D _) (fun j hj hm => by
      rw [List.mem_singleton] at hm
      exact HC.out (hm ▸ mem_ownL.2 hj))).mono hw2
  case stop =>
    rintro D pre W hD hS h hd
    exact h.elim

set_option maxHeartbeats 8000000 in
theorem kids_any (w : World) (F : List Nat) (b : Nat) (t : List Nd) (most : Int) (r : List UInt8) (h : Tre w F b t most) (hr : r.length = 32) :
    Calls Try.prog 15 #[.pointer (some ⟨b, 0, none⟩), .agg (bv r).toArray] w fun e w' => ∃ v, e = .returned v ∧ Wide 32 w' w.heap.size v (rv (kidsT t r)) ∧ Below w.heap.size w w' := by
  obtain ⟨i0, hi0, hz0, hz1, hz2⟩ := info_parts Try.infoRootB
  have hzc : (Value.agg (bv zero32).toArray).cells.size = 32 := by simp [Value.cells, bv_length, zero32]
  have HP32 := Lib.hid (show 0 < 32 by omega)
  have HP24 := Lib.hid (show 1 * 32 ≤ 2 ^ 24 by omega)
  have hb1 : Below w.heap.size w (w.alloc (.cells (bv r).toArray 23)) := (Below.refl _ w).alloc (Nat.le_refl _) _
  have HB0 := Lib.hid hb1
  have HX := Lib.hid (Blk.new w 23 (bv r).toArray)
  have H0 := Lib.hid (h.below hb1)
  have HLow := Lib.hid h.low
  obtain ⟨X, hX⟩ : ∃ X, X = w.heap.size := ⟨_, rfl⟩
  clear hb1 h
  refine (callsIn_wide (n := 10)).1 ?_
  refine callsIn_of_wp_marks Try.func15 rfl trivial ?_ rfl
  simp only [Try.ntmps15, List.size_toArray, List.length_cons, List.length_nil, Nat.reduceAdd, Nat.reduceSub, Array.replicate_succ, Array.replicate_zero, List.push_toArray, List.append_toArray, List.nil_append, List.cons_append]
  refine wpIn_wide.2 ?_
  go_upto_region 1 with fail
  rw [← hX] at HX ⊢
  generalize w.alloc (.cells (bv r).toArray 23) = w0 at HB0 HX H0 ⊢
  have HXA := Lib.hid HX.out.rootAll
  have HPL := Lib.hid (place_any w0 F b t most r H0.out hr)
  obtain ⟨p, hp⟩ : ∃ p, plc t r = p := ⟨_, rfl⟩
  have HPP := Lib.hid hp
  rw [hp] at HPL
  clear hp hX
  go_wp2_with ((with_reducible refine wpList_load_name (.tmp 3) ?_ ?_ X 0 r ?_ hr HXA.out ?_); rfl; rfl; rfl)
  refine HPL.out.mono ?_
  rintro e wa ⟨rfl, hba⟩
  have HBa := Lib.hid (HB0.out.trans (hba.mono HB0.out.size))
  have Ha := Lib.hid (H0.out.below hba)
  clear HPL HXA HX HB0 H0 hba
  obtain ⟨PB, hPB⟩ : ∃ PB, PB = wa.heap.size := ⟨_, rfl⟩
  obtain ⟨LB, hLBe⟩ : ∃ LB, LB = wa.heap.size + 1 := ⟨_, rfl⟩
  by_cases hneg : p = -1
  · have HK0 := Lib.hid (show kidsT t r = [] by rw [kidsT, HPP.out, if_neg (by omega)])
    subst hneg
    have hbb : Below w.heap.size w (wa.alloc (.cells #[.int .i64 (-1)] 3)) := HBa.out.alloc HBa.out.size _
    have HBB := Lib.hid hbb
    clear hbb hPB hLBe
    go_wp2_with fail
    exact ⟨_, results_tmp rfl _ _ _, _, rfl, by rw [HK0.out]; exact wide_nil0 32 _ _, HBB.out⟩
  have HBL0 := Lib.hid (Blk.new wa 3 #[.int .i64 p])
  have hbb : Below wa.heap.size wa ((wa.alloc (.cells #[.int .i64 p] 3)).alloc (.cells #[.slice none 0 0] 32)) := ((Below.refl _ wa).alloc (Nat.le_refl _) _).alloc (by simp) _
  have HB := Lib.hid (HBa.out.trans (hbb.mono HBa.out.size))
  have H1 := Lib.hid (Ha.out.below hbb)
  have HPB := Lib.hid (HBL0.out.alloc (.cells #[.slice none 0 0] 32))
  have HL := Lib.hid (Blk.newAt (wa.alloc (.cells #[.int .i64 p] 3)) 32 #[.slice none 0 0] (wa.heap.size + 1) (by simp))
  have HLW := Lib.hid (show w.heap.size ≤ LB by have := HBa.out.size; omega)
  have HLL := Lib.hid (show LB < ((wa.alloc (.cells #[.int .i64 p] 3)).alloc (.cells #[.slice none 0 0] 32)).heap.size by simp; omega)
  have HPBL := Lib.hid (show PB < LB by omega)
  clear hbb HBa Ha HBL0
  go_upto_region 5 with fail
  rw [← hLBe] at HL ⊢
  rw [← hPB] at HPB ⊢
  generalize (wa.alloc (.cells #[.int .i64 p] 3)).alloc (.cells #[.slice none 0 0] 32) = w1 at HB HL H1 HLL HPB ⊢
  clear hLBe hPB
  go_wp2_with fail
  refine (all_any w1 (some ⟨b, 0, none⟩)).mono ?_
  rintro e w2 ⟨rfl, hw2⟩
  obtain ⟨Bn, hBn⟩ : ∃ Bn, Bn = w1.heap.size := ⟨_, rfl⟩
  have hb2 : Below w1.heap.size w1 w2 := by rw [hw2]; exact (Below.refl _ w1).alloc (Nat.le_refl _) _
  have HS2 := Lib.hid (show w2.heap.size = w1.heap.size + 1 by rw [hw2]; simp)
  have HBN := Lib.hid (show w2.cell? ⟨Bn, 0, none⟩ = some (.pointer (some ⟨b, 0, none⟩)) by
    rw [hw2, hBn]
    exact (Blk.new w1 26 #[.pointer (some ⟨b, 0, none⟩)]).cell 0)
  have HBB := Lib.hid (show Bn = w1.heap.size from hBn)
  rw [← hBn]
  have H2 := Lib.hid (H1.out.below hb2)
  have HB2 := Lib.hid (HB.out.trans (hb2.mono HB.out.size))
  have HL2 := Lib.hid (HL.out.below hb2 HL.out.lt)
  have HPB2 := Lib.hid (HPB.out.below hb2 HPB.out.lt)
  have HSB := Lib.hid (show SB LB w2 = [LB] by rw [sb_of HL2.out]; rfl)
  clear hw2 hb2 hBn H1 HB HL
  go_wp2_with fail
  have hLB : LB < w2.heap.size := HL2.out.lt
  have hw2 : w.heap.size ≤ w2.heap.size := HB2.out.size
  have HLR := Lib.hid (show (ndl t H2.out.1.nds).length ≤ 256 by rw [ndl_length]; have h1 := H2.out.1.room; have h2 := H2.out.1.most256; omega)
  have HUP := Lib.hid (all_gives LB w2.heap.size w2 F b Bn t most H2.out HBN.out (Nat.le_refl _) hLB (fun k hk => H2.out.low k hk) (by rw [HBB.out, HS2.out]; omega)
    (by rw [HSB.out]; exact fun k hk hm => by simp at hm; have h1 := HLow.out k hk; have h2 := HLW.out; omega)
    (by rw [HSB.out]; intro hm; simp at hm; have h1 := HBB.out; have h3 := HLL.out; omega))
  refine (wpIn_wide (n := 10)).1 (over_func (α := Ndl) rfl (enters_of Try.func33 (by kernel_rfl) rfl) (fun _ => rfl) (LB := LB) HL2.out.lt HUP.out (Below.refl _ _)
    (fun pre W => HoldsR LB w2.heap.size (kidsOf p pre) W ∧ Blk W PB 3 [.int .i64 p] ∧ Big w2.heap.size W ∧ Below w.heap.size w W)
    (fun _ _ => False)
    ⟨holds_new HL2.out, HPB2.out, Nat.le_refl _, HB2.out⟩
    (fun s A C row hs hg hr => ⟨hs.1.stays HL2.out.lt hg hr, blk_stays hs.2.1 HPB2.out.lt hg hr, Nat.le_trans hs.2.2.1 hg.size, below_stays hs.2.2.2 HB2.out.size (Nat.le_refl _) hg hr⟩)
    (fun s A C row hs hg hr => hs)
    (fun s A l o o' hs hl h0 hc => ⟨hs.1.minds HL2.out.lt hl h0 hc o', blk_minds hs.2.1 HPB2.out.lt hl o', Nat.le_trans hs.2.2.1 (Nat.le_of_eq (World.putObj_size).symm), below_minds hs.2.2.2 HB2.out.size hl o'⟩)
    (fun s A l o o' hs hl h0 hc => hs) ?round ?done ?stop)
  case round =>
    rintro l pre n W ⟨hh, hpb, hbig, hbw⟩ hN
    obtain ⟨v, h1, h2, h3⟩ := hh
    obtain ⟨r1, r2, r3, r4⟩ := laid_round (LB := LB) (R := w2.heap.size) W n.1 h1.lt
    have HZB := Lib.hid (blk_zero W)
    have HR := Lib.hid r3
    have HK1 := Lib.hid r1
    have HK2 := Lib.hid r2
    have HHW := Lib.hid (HoldsR.below (show HoldsR LB w2.heap.size (kidsOf p pre) W from ⟨v, h1, h2, h3⟩) r4)
    have HPW := Lib.hid (hpb.below r4 hpb.lt)
    have HBW := Lib.hid (hbw.trans (r4.mono hbw.size))
    have HNL := Lib.hid n.2
    have HNN := Lib.hid hN
    have HRW := Lib.hid (show w2.heap.size ≤ ((W.alloc (.cells #[.int .u8 0, .int .u8 0, .int .u8 0, .int .u8 0, .int .u8 0, .int .u8 0, .int .u8 0, .int .u8 0, .int .u8 0, .int .u8 0, .int .u8 0, .int .u8 0, .int .u8 0, .int .u8 0, .int .u8 0, .int .u8 0, .int .u8 0, .int .u8 0, .int .u8 0, .int .u8 0, .int .u8 0, .int .u8 0, .int .u8 0, .int .u8 0, .int .u8 0, .int .u8 0, .int .u8 0, .int .u8 0, .int .u8 0, .int .u8 0, .int .u8 0, .int .u8 0, .int .i64 0, .int .i64 0] 51)).setRow W.heap.size (ndv n.1).toArray).heap.size from Nat.le_trans hbig r4.size)
    obtain ⟨V, hV⟩ : ∃ V, V = W.heap.size := ⟨_, rfl⟩
    clear r1 r2 r3 r4 h1 h2 h3 hbw hbig hN
    gi_wp2_with ((with_reducible refine wpListIn_lay l HZB.out nd0_len HNL.out (.tmp 7) (.tmp 15) ?_ ?_ ?_ ?_ ?_); rfl; rfl; rfl; rfl)
    refine ⟨HK1.out, HK2.out, ?_⟩
    rw [← hV] at HR HHW HPW HBW HRW ⊢
    clear HZB HK1 HK2
    generalize (W.alloc (.cells _ 51)).setRow _ (ndv n.1).toArray = W1 at HR HHW HPW HBW HRW ⊢
    intro W3 ht
    have HRA := Lib.hid (ht.blk HR.out).nodeName
    have c33 := (ht.blk HR.out).nodeParent HNL.out
    have HH3 := Lib.hid (show HoldsR LB w2.heap.size (kidsOf p pre) W3 by
      obtain ⟨q, o, o', q1, q2, q3, q4⟩ := ht
      rw [q4]
      exact HHW.out.minds hLB q1 q2 q3 o')
    have HP3 := Lib.hid (ht.blk HPW.out)
    have HB3 := Lib.hid (ht.below HBW.out hw2)
    have HRS := Lib.hid (show w2.heap.size ≤ W3.heap.size by rw [ht.size]; exact HRW.out)
    clear HR HHW HPW HBW HRW ht hV
    obtain ⟨v, k1, k2, k3⟩ := HH3.out
    obtain ⟨ao, m, cap, bb, off, e, _, _⟩ := k2.lies
    subst e
    have HL3 := Lib.hid k1
    have HH := Lib.hid k2
    have HC3 := Lib.hid k3
    clear k1 k2 k3
    have c5 := HP3.out.cell 0
    have HPN := Lib.hid (show PB ∉ LB :: ownL (.slice ao m cap) by
      intro hm
      rcases List.mem_cons.1 hm with h5 | h5
      · have := HPBL.out; omega
      · have h6 := HH.out.own PB (mem_ownL.1 h5); have h7 := HPBL.out; omega)
    by_cases hq : n.1.2.2 = p
    · have HQ := Lib.hid hq
      have HSrc := Lib.hid (src_rowT W3 32 (by omega) 32 23 Try.underlying32 (bv n.1.1) (by rw [bv_length, HNL.out]) (bv_one _) (P := Try.prog))
      have HB32 := Lib.hid (show (bv n.1.1).length = 32 by rw [bv_length, HNL.out])
      have HWA := Lib.hid (HH.out.alloc (.cells (bv n.1.1).toArray 23))
      have HLN := Lib.hid (show (rv (kidsOf p pre)).length = (kidsOf p pre).length * 32 from rv_length _ (kidsOf_rts p pre))
      have HFL := Lib.hid (show (kidsOf p pre).length ≤ 256 from by have h0 := kidsOf_length p pre; have h1 := HNN.out; have h2 := HLR.out; rw [ndl_length] at h2; omega)
      have c0 := HL3.out.cell 0
      have hsz : w2.heap.size ≤ (W3.alloc (.cells (bv n.1.1).toArray 23)).heap.size := by have := HRS.out; simp; omega
      have HSZ := Lib.hid hsz
      clear hsz
      gi_wp2_with (first
        | ((with_reducible refine wpListIn_load (round_fn l) 23 (.tmp 21) ?_ ?_ _ _ ?_ (run_load_root HNL.out HRA.out) ?_); rfl; rfl; rfl)
        | ((with_reducible refine wpListIn_build_row (round_fn l) ?_ 32 23 (.tmp 22) ?_ (bv n.1.1) ?_ i0 (.agg (bv zero32).toArray) (s := 32) HP32.out HB32.out Try.underlying32 hi0 hz0 hz1 HP24.out ?_); rfl; rfl; rfl)
        | ((with_reducible refine wpListIn_append_wide (round_fn l) ?_ (.tmp 20) (.tmp 23) 32 32 ?_ ?_ HWA.out HP32.out 23 i0 (.agg (bv zero32).toArray) 32 Try.underlying32 hi0 hz0 hz1 hz2 hzc _ ?_ 1 (bv n.1.1) HSrc.out ?e2 ?e3 HSZ.out ?_); rfl; rfl; rfl; rfl; (case e2 => rw [HLN.out]; have := HFL.out; unfold maxLen; omega); (case e3 => rw [HLN.out]; have := HFL.out; omega); intro v' W4 hw4 hg4; obtain ⟨k1, k2, k3, k4, k5, k6⟩ := HoldsR.collected HL3.out HC3.out hLB HH.out hw4 hg4 HNL.out; obtain ⟨ao', n', cap', b', off', e', _, _⟩ := hw4.lies; subst e'; have f1 := k4.free 0; have c1 := k4.cell 0; have HK1 := Lib.hid k1; have HK2 := Lib.hid k2; have HK3 := Lib.hid k3; have HK5 := Lib.hid k5; have HPK := Lib.hid (HP3.out.kept k6 (HPN.out));  clear hw4 hg4 k1 k2 k3 k4 k5 k6))
      exact ⟨HK2.out, .inl ⟨rfl, HK3.out, by rw [kidsOf_hit pre HQ.out]; exact HK1.out, HPK.out, Nat.le_trans HRS.out HK3.out.size, HB3.out.trans (HK5.out w.heap.size HLW.out)⟩⟩
    · have HQ := Lib.hid hq
      gi_wp2_with fail
      exact ⟨(KeepsOthers.refl _).from _, .inl ⟨rfl, KpB.of_below (Below.refl _ _) HL3.out.lt, by rw [kidsOf_miss pre HQ.out]; exact ⟨_, HL3.out, HH.out, HC3.out⟩, HP3.out, HRS.out, HB3.out⟩⟩
  case done =>
    rintro D xs W hD hS ⟨hh, hpb, hbig, hbw⟩ hd
    obtain ⟨v, k1, k2, k3⟩ := hh
    have HC := Lib.hid (show D ∉ ownL v from fun hm => by
      obtain ⟨o, q1, q2⟩ := k3 D (mem_ownL.1 hm)
      rw [hd] at q1; cases q1; cases q2)
    obtain ⟨ao, m, cap, bb, off, e, _, _⟩ := k2.lies
    subst e
    have c0 := k1.cell 0
    have HB3 := Lib.hid hbw
    have HD := Lib.hid hd
    have HW3 := Lib.hid k2
    have HA := Lib.hid (show kidsOf p xs = kidsT t r by rw [kidsT, HPP.out, if_pos (by have := plc_ge t r; rw [HPP.out] at this; omega)]; exact kidsOf_all hS)
    clear k1 k2 k3 hbw hd hS hbig hpb
    go_wp2_with fail
    refine leaves_tmp rfl HD.out rfl ⟨_, rfl, ?_, below_minds HB3.out hw2 hD _⟩
    rw [← HA.out]
    exact (HW3.out.kept (kept_put W D _) (fun j hj hm => by
      rw [List.mem_singleton] at hm
      exact HC.out (hm ▸ mem_ownL.2 hj))).mono hw2
  case stop =>
    rintro D pre W hD hS h hd
    exact h.elim

end Go.Proofs.Ytmchjmcdlapegaa
