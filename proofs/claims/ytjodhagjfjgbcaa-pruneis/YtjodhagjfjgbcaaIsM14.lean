/-
  The texts WChg, WLearn, one behind the other.
-/
import Derived.Test.YtjodhagjfjgbcaaIsM11
import Derived.Test.YtjodhagjfjgbcaaIsM13
import Derived.Test.YtjodhagjfjgbcaaIsM6
import Derived.Test.YtjodhagjfjgbcaaIsM1
import Derived.Test.YtjodhagjfjgbcaaIsM4
import Derived.Test.YtjodhagjfjgbcaaCFreeApp
/-
  changed: what own weights would be behind all deltas.
-/
namespace Go.Proofs.Ytjodhagjfjgbcaa
open Go Go.RowKit
set_option maxRecDepth 10000

/-- A slice of numbers that a call has made: one of them is set. -/
theorem Wide.setZ {w : World} {base n cap : Nat} {ao : Option Addr} {l : List Int} (h : Wide 1 w base (.slice ao n cap) (zv l)) {j : Nat} {y : Int} (hy : l[j]? = some y) :
    ∃ g off, ao = some ⟨g, off, none⟩ ∧ n = l.length ∧ w.cell? ⟨g, off + j, none⟩ = some (.int .i64 y) ∧ w.frozen? ⟨g, off + j, none⟩ = false ∧ base ≤ g ∧ ∀ x : Int, Wide 1 (w.setCell ⟨g, off + j, none⟩ (.int .i64 x)) base (.slice ao n cap) (zv (l.set j x)) := by
  obtain ⟨n', cap', g, off, ao', e, hw⟩ := h
  injection e with e1 e2 e3
  subst e1; subst e2; subst e3
  have hj := (List.getElem?_eq_some_iff.1 hy).1
  have hlen := hw.len
  rw [zv_length] at hlen
  have hc : 0 < cap := by have := hw.le; omega
  have ha := hw.addr hc
  refine ⟨g, off, ha, by omega, hw.cells j _ (zv_at hy), hw.free j (by have := hw.le; omega), hw.own _ ha, fun x => ?_⟩
  have := hw.set j (by rw [zv_length]; exact hj) (.int .i64 x)
  rw [zv_set] at this
  exact ⟨_, _, _, _, _, rfl, this⟩
theorem drop_at {α : Type} {l : List α} {k : Nat} {d : α} (h : l[k]? = some d) : l.drop k = d :: l.drop (k + 1) := by
  obtain ⟨hk, rfl⟩ := List.getElem?_eq_some_iff.1 h
  exact List.drop_eq_getElem_cons hk
theorem chgW_at {t : List Nd} {cur : List Int} {l : List Dl} {k : Nat} {d : Dl} (h : l[k]? = some d) : chgW t cur (l.drop k) = if plc t d.1 < 0 then (7, cur) else if d.2 ≤ -4611686018427387904 ∨ 4611686018427387904 ≤ d.2 then (1, cur) else if okZ (owZ cur (plc t d.1).toNat + d.2) then chgW t (cur.set (plc t d.1).toNat (owZ cur (plc t d.1).toNat + d.2)) (l.drop (k + 1)) else (1, cur) := by
  rw [drop_at h]
  rfl

structure ChRel (w : World) (t : List Nd) (own : List Int) (ds : List Dl) (ao : Option Addr) (n cap : Nat) (k : Nat) (cur : List Int) (wr : World) : Prop where
  len : cur.length = own.length
  ok : AllOk cur
  eq : chgW t cur (ds.drop k) = chgW t own ds
  wide : Wide 1 wr w.heap.size (.slice ao n cap) (zv cur)
  below : Below w.heap.size w wr

set_option maxHeartbeats 8000000 in
theorem changed_any (w : World) (G : List Nat) (tb : Nat) (t : List Nd) (most : Int) (F : List Nat) (b : Nat) (own s0 b0 : List Int) (ds : List Dl) (dao : Option Addr) (dcap dg doff : Nat) (hT : Tre w G tb t most) (h : Wgt w F b tb own s0 b0) (hl : own.length = t.length) (hO : OwnG own)
    (hD : Dls ds) (hdl : ds.length ≤ 1000) (hL : Lies w w.heap.size dao dg doff (dvs ds)) :
    Calls Try.prog 52 #[.pointer (some ⟨b, 0, none⟩), .slice dao ds.length dcap] w fun e w' => ∃ v, e = .returned (.tuple #[v, .int .i64 (endW own (chgW t own ds)).1]) ∧ (∃ ao n cap, v = .slice ao n cap) ∧ ((endW own (chgW t own ds)).1 = 0 → Wide 1 w' w.heap.size v (zv (endW own (chgW t own ds)).2)) ∧ Below w.heap.size w w' := by
  have htl : t.length ≤ 256 := by have := hT.1.room; have := hT.1.most256; omega
  have htp := hT.1.pos
  have h0 : 0 < own.length := by omega
  have hle : own.length ≤ 1000 := by omega
  have HT := Lib.hid hT
  have HOG := Lib.hid hO
  have HD := Lib.hid hD
  have HL := Lib.hid hL
  have HW := Lib.hid h
  obtain ⟨a1, a2, a3, c1, c2, c3, g1, g2, g3, o1, o2, o3, h⟩ := h.open
  have k1 := h.cell1
  have HH := Lib.hid h
  have HLEN := Lib.hid hl
  clear hT h hO hD hL hl
  go_enter Try.func52, Try.ntmps52
  go_wp2_with fail
  refine (clone_ints w a1 c1 g1 o1 own h0 hle HH.out.l1).mono ?_
  rintro e w1 ⟨v1, rfl, hv1, hb1⟩
  obtain ⟨ao1, n1, cap1, e1⟩ : ∃ ao n cap, v1 = .slice ao n cap := by
    obtain ⟨n', cap', g', off', ao', hu, _⟩ := hv1
    exact ⟨_, _, _, hu⟩
  subst e1
  have HR := Lib.hid (show ChRel w t own ds ao1 n1 cap1 0 own w1 from ⟨rfl, HOG.out.allOk, by rw [List.drop_zero], hv1, hb1⟩)
  clear hv1 hb1 k1 HH
  go_wp2_with fail
  go_loopw [17] (fun i wr => ∃ (k : Nat) (cur : List Int), k ≤ ds.length ∧ i = .int .i64 k ∧ Hid (ChRel w t own ds ao1 n1 cap1 k cur wr)) (fun i _ => ds.length - (intOf i).toNat)
  case atStart => exact ⟨0, own, Nat.zero_le _, rfl, HR⟩
  case round =>
    clear HR
    obtain ⟨k, cur, hk, rfl, HR⟩ := hrel
    by_cases hlt : k < ds.length
    · obtain ⟨d, hd⟩ : ∃ d, ds[k]? = some d := ⟨_, List.getElem?_eq_getElem hlt⟩
      have HDL := Lib.hid (HD.out d (List.mem_of_getElem? hd))
      have HLr := Lib.hid (HL.out.keep HR.out.below)
      have hda := HLr.out.dl_addr HD.out hd
      subst hda
      have HLD := Lib.hid (HLr.out.dl HD.out hd)
      have HST := Lib.hid (show chgW t own ds = _ from HR.out.eq.symm.trans (chgW_at hd))
      have HWR := Lib.hid (show wrap64 ((k : Int) + 1) = ((k + 1 : Nat) : Int) by unfold wrap64; omega)
      obtain ⟨X, hX⟩ : ∃ X, X = wr.heap.size := ⟨_, rfl⟩
      have HX0 := Lib.hid (show Blk (wr.alloc (.cells #[.int .u8 0, .int .u8 0, .int .u8 0, .int .u8 0, .int .u8 0, .int .u8 0, .int .u8 0, .int .u8 0, .int .u8 0, .int .u8 0, .int .u8 0, .int .u8 0, .int .u8 0, .int .u8 0, .int .u8 0, .int .u8 0, .int .u8 0, .int .u8 0, .int .u8 0, .int .u8 0, .int .u8 0, .int .u8 0, .int .u8 0, .int .u8 0, .int .u8 0, .int .u8 0, .int .u8 0, .int .u8 0, .int .u8 0, .int .u8 0, .int .u8 0, .int .u8 0, .int .i64 0] 73)) wr.heap.size 73 (dlv dl0) from Blk.new wr 73 (dlv dl0).toArray)
      have hbx : Below wr.heap.size wr ((wr.alloc (.cells #[.int .u8 0, .int .u8 0, .int .u8 0, .int .u8 0, .int .u8 0, .int .u8 0, .int .u8 0, .int .u8 0, .int .u8 0, .int .u8 0, .int .u8 0, .int .u8 0, .int .u8 0, .int .u8 0, .int .u8 0, .int .u8 0, .int .u8 0, .int .u8 0, .int .u8 0, .int .u8 0, .int .u8 0, .int .u8 0, .int .u8 0, .int .u8 0, .int .u8 0, .int .u8 0, .int .u8 0, .int .u8 0, .int .u8 0, .int .u8 0, .int .u8 0, .int .u8 0, .int .i64 0] 73)).setRow wr.heap.size (dlv d).toArray) := below_row ((Below.refl _ wr).alloc (Nat.le_refl _) _) (Nat.le_refl _) _
      have HX1 := Lib.hid (HX0.out.setRow (dlv d))
      have HWI := Lib.hid (HR.out.wide.below hbx)
      have HBE := Lib.hid (HR.out.below.trans (hbx.mono HR.out.below.size))
      have HCL := Lib.hid HR.out.len
      have HCO := Lib.hid HR.out.ok
      clear hbx HR
      go_upto_region 5 with (first
        | ((with_reducible refine wpList_load_dl (.tmp 19) ?_ ?_ dg (doff + k * 33) d ?_ HDL.out HLD.out ?_); rfl; rfl; rfl)
        | ((with_reducible refine wpList_store_dl (.tmp 8) (.tmp 20) ?_ ?_ wr.heap.size dl0 d ?_ ?_ HX0.out dl0_len HDL.out ?_); rfl; rfl; rfl; rfl))
      simp only [Act.put]
      rw [← hX] at HX1 HWI HBE ⊢
      generalize (wr.alloc (.cells #[.int .u8 0, .int .u8 0, .int .u8 0, .int .u8 0, .int .u8 0, .int .u8 0, .int .u8 0, .int .u8 0, .int .u8 0, .int .u8 0, .int .u8 0, .int .u8 0, .int .u8 0, .int .u8 0, .int .u8 0, .int .u8 0, .int .u8 0, .int .u8 0, .int .u8 0, .int .u8 0, .int .u8 0, .int .u8 0, .int .u8 0, .int .u8 0, .int .u8 0, .int .u8 0, .int .u8 0, .int .u8 0, .int .u8 0, .int .u8 0, .int .u8 0, .int .u8 0, .int .i64 0] 73)).setRow X (dlv d).toArray = w2 at HX1 HWI HBE ⊢
      clear hX HX0 HLD HLr
      have HT2 := Lib.hid (HT.out.keep (Kept.of_below (w' := w2) [] HBE.out) (fun _ _ hx => by cases hx))
      obtain ⟨e1', e2', e3', e4', e5', e6', e7', e8', e9', f1', f2', f3', hs2⟩ := (HW.out.below HBE.out).open
      have k0 := hs2.cell0
      have HQ := Lib.hid (show ∀ w', (∃ nq, w' = w2.drewN nq) → ∀ j v, (bv d.1)[j]? = some v → w'.cell? ⟨X, 0 + j, none⟩ = some v by
        rintro w' ⟨nq, rfl⟩
        exact (HX1.out.drewN nq).dlName)
      clear hs2
      refine wp_region_draws_tail 6 (by kernel_rfl) (by kernel_rfl) ?_
      simp only [List.take_succ_cons, List.take_zero, List.drop_succ_cons, List.drop_zero]
      repeat (first | ((with_reducible refine wpQuiet_load_name (.tmp 25) ?_ ?_ X 0 d.1 ?_ HDL.out HQ.out ?_); rfl; rfl; rfl; simp only [Act.put, List.setIfInBounds_toArray, List.set_cons_zero, List.set_cons_succ]) | go_big_quiet_step (fail))
      refine wpQuiet_nil ?_
      rintro _ ⟨nq, rfl⟩
      have HX3 := Lib.hid (HX1.out.drewN nq)
      have HWI3 := Lib.hid (HWI.out.below (below_dN (Below.refl _ _) nq))
      have HBE3 := Lib.hid (below_dN HBE.out nq)
      have HT3 := Lib.hid (HT2.out.below (below_dN (Below.refl _ _) nq))
      generalize w2.drewN nq = w3 at HX3 HWI3 HBE3 HT3 ⊢
      clear HX1 HWI HBE HT2 HQ k0
      go_wp2_with fail
      refine (place_any w3 G tb t most d.1 HT3.out HDL.out).mono ?_
      rintro e w4 ⟨rfl, hb4⟩
      have HX4 := Lib.hid (HX3.out.below hb4 HX3.out.lt)
      have HWI4 := Lib.hid (HWI3.out.below hb4)
      have HBE4 := Lib.hid (HBE3.out.trans (hb4.mono HBE3.out.size))
      clear hb4 HX3 HWI3 HBE3 HT3
      rcases plc_cases t d.1 with ⟨j, nd, hnd, _, hpl, _⟩ | ⟨_, hpl⟩
      · rw [hpl]
        have hjl : j < t.length := (List.getElem?_eq_some_iff.1 hnd).1
        have HPL := Lib.hid hpl
        have hjc : j < cur.length := by have := HCL.out; have := HLEN.out; omega
        clear hnd hpl
        obtain ⟨y, hy⟩ : ∃ y, cur[j]? = some y := ⟨_, List.getElem?_eq_getElem hjc⟩
        have HOY := Lib.hid (show owZ cur j = y from owZ_at hy)
        have HYO := Lib.hid (HCO.out y (List.mem_of_getElem? hy))
        obtain ⟨gc, oc, hao, hnl, q1, q2, q3, q4⟩ := HWI4.out.setZ hy
        subst hao; subst hnl
        have kd := HX4.out.dlNum HDL.out
        have d1 : ¬ ((j : Int) = -1) := by omega
        have d2 : ((j : Int) == -1) = false := by simp [d1]
        have d3 : (0 : Int) ≤ (j : Int) := by omega
        have d4 : (j : Int) < (cur.length : Int) := by omega
        have HQ4 := Lib.hid q4
        have HQ3 := Lib.hid q3
        clear hy q3 q4
        by_cases hA : d.2 ≤ -4611686018427387904
        · have HRES := Lib.hid (show chgW t own ds = (1, cur) by rw [HST.out, HPL.out, if_neg (by omega), if_pos (.inl hA)])
          have hdA : decide (d.2 ≤ -4611686018427387904) = true := decide_eq_true hA
          clear q1 q2 HQ4 HQ3
          go_upto_region 8 with fail
          go_quiet (fail)
          have HBF := Lib.hid (below_dN HBE4.out nq)
          go_wp2_with fail
          go_ret2
          refine ⟨_, by rw [HRES.out, endW, if_neg (show ¬ ((1 : Int), cur).1 = 0 by simp)]; rfl, ⟨_, _, _, rfl⟩, fun hh => ?_, HBF.out⟩
          rw [HRES.out, endW, if_neg (show ¬ ((1 : Int), cur).1 = 0 by simp)] at hh
          cases hh
        have hA0 : decide (d.2 ≤ -4611686018427387904) = false := decide_eq_false hA
        by_cases hB : 4611686018427387904 ≤ d.2
        · have HRES := Lib.hid (show chgW t own ds = (1, cur) by rw [HST.out, HPL.out, if_neg (by omega), if_pos (.inr hB)])
          have hB0 : decide (4611686018427387904 ≤ d.2) = true := decide_eq_true hB
          clear q1 q2 HQ4 HQ3
          go_upto_region 8 with fail
          go_quiet (fail)
          have HBF := Lib.hid (below_dN HBE4.out nq)
          go_wp2_with fail
          go_ret2
          refine ⟨_, by rw [HRES.out, endW, if_neg (show ¬ ((1 : Int), cur).1 = 0 by simp)]; rfl, ⟨_, _, _, rfl⟩, fun hh => ?_, HBF.out⟩
          rw [HRES.out, endW, if_neg (show ¬ ((1 : Int), cur).1 = 0 by simp)] at hh
          cases hh
        have hB0 : decide (4611686018427387904 ≤ d.2) = false := decide_eq_false hB
        have hadd : wrap64 (y + d.2) = y + d.2 := by unfold wrap64; have := HYO.out.1; have := HYO.out.2; omega
        have HDR := Lib.hid (show ¬ (d.2 ≤ -4611686018427387904 ∨ 4611686018427387904 ≤ d.2) by omega)
        by_cases hC : okZ (y + d.2)
        · have HRES := Lib.hid (show chgW t own ds = chgW t (cur.set j (y + d.2)) (ds.drop (k + 1)) by rw [HST.out, HPL.out, if_neg (by omega), if_neg HDR.out, Int.toNat_natCast, HOY.out, if_pos hC])
          have HGO := Lib.hid (show ∀ W, Calls Try.prog 61 #[.int .i64 (y + d.2)] W fun e w' => e = .returned (.bool true) ∧ w' = W from fun W => (good_wt W (y + d.2)).mono fun e w' ⟨h1, h2⟩ => ⟨by rw [h1, decide_eq_true hC], h2⟩)
          have HC := Lib.hid hC
          clear hC
          go_upto_region 8 with fail
          go_quiet ((go_at_call 61; refine Calls.quiet_of_same (HGO.out _)))
          have q1' : (w4.drewN nq).cell? ⟨gc, oc + j, none⟩ = some (.int .i64 y) := q1
          have kd' : (w4.drewN nq).cell? ⟨X, 32, none⟩ = some (.int .i64 d.2) := kd
          have q2' : (w4.drewN nq).frozen? ⟨gc, oc + j, none⟩ = false := q2
          have HQ4' := Lib.hid (show ∀ x : Int, Wide 1 ((w4.drewN nq).setCell ⟨gc, oc + j, none⟩ (.int .i64 x)) w.heap.size (.slice (some ⟨gc, oc, none⟩) cur.length cap1) (zv (cur.set j x)) from fun x => (HQ4.out x).below ⟨rfl, rfl, rfl, Nat.le_refl _, fun _ _ => rfl⟩)
          have HBE5 := Lib.hid (below_dN HBE4.out nq)
          generalize w4.drewN nq = w5 at q1' kd' q2' HQ4' HBE5 ⊢
          clear q1 q2 kd HQ4 HX4 HWI4 HBE4
          go_upto_region 10 with fail
          refine wp_region_draws_tail 8 (by kernel_rfl) (by kernel_rfl) ?_
          simp only [List.take_succ_cons, List.take_zero, List.drop_succ_cons, List.drop_zero]
          repeat (go_big_quiet_step (fail))
          refine wpQuiet_nil ?_
          rintro _ ⟨nq2, rfl⟩
          have q1 : (w5.drewN nq2).cell? ⟨gc, oc + j, none⟩ = some (.int .i64 y) := q1'
          have q2 : (w5.drewN nq2).frozen? ⟨gc, oc + j, none⟩ = false := q2'
          have HW6 := Lib.hid (show Wide 1 ((w5.drewN nq2).setCell ⟨gc, oc + j, none⟩ (.int .i64 (y + d.2))) w.heap.size (.slice (some ⟨gc, oc, none⟩) cur.length cap1) (zv (cur.set j (y + d.2))) from (HQ4'.out (y + d.2)).below ⟨rfl, rfl, rfl, Nat.le_refl _, fun _ _ => rfl⟩)
          have HB6 := Lib.hid (show Below w.heap.size w ((w5.drewN nq2).setCell ⟨gc, oc + j, none⟩ (.int .i64 (y + d.2))) from (below_dN HBE5.out nq2).setCell HQ3.out _)
          clear q1' q2' kd' HQ4' HBE5
          go_wp2_with fail
          go_roundw
          case rel => exact ⟨k + 1, cur.set j (y + d.2), by omega, by first | rw [HWR.out] | rw [Int.natCast_succ], Lib.hid ⟨by rw [List.length_set]; exact HCL.out, HCO.out.set j HC.out, HRES.out.symm, HW6.out, HB6.out⟩⟩
          case measure => exact measK ds.length k 1 _ (by first | exact HWR.out | rw [Int.natCast_succ]) hlt (by omega)
        · have HRES := Lib.hid (show chgW t own ds = (1, cur) by rw [HST.out, HPL.out, if_neg (by omega), if_neg HDR.out, Int.toNat_natCast, HOY.out, if_neg hC])
          have HGO := Lib.hid (show ∀ W, Calls Try.prog 61 #[.int .i64 (y + d.2)] W fun e w' => e = .returned (.bool false) ∧ w' = W from fun W => (good_wt W (y + d.2)).mono fun e w' ⟨h1, h2⟩ => ⟨by rw [h1, decide_eq_false hC], h2⟩)
          clear hC HQ4 HQ3 q2
          go_upto_region 8 with fail
          go_quiet ((go_at_call 61; refine Calls.quiet_of_same (HGO.out _)))
          have HBF := Lib.hid (below_dN HBE4.out nq)
          go_wp2_with fail
          go_ret2
          refine ⟨_, by rw [HRES.out, endW, if_neg (show ¬ ((1 : Int), cur).1 = 0 by simp)]; rfl, ⟨_, _, _, rfl⟩, fun hh => ?_, HBF.out⟩
          rw [HRES.out, endW, if_neg (show ¬ ((1 : Int), cur).1 = 0 by simp)] at hh
          cases hh
      · rw [hpl]
        have HRES := Lib.hid (show chgW t own ds = (7, cur) by rw [HST.out, hpl, if_pos (by omega)])
        clear hpl
        have HBF := HBE4
        go_wp2_with fail
        go_ret2
        refine ⟨_, by rw [HRES.out, endW, if_neg (show ¬ ((7 : Int), cur).1 = 0 by simp)]; rfl, ⟨_, _, _, rfl⟩, fun hh => ?_, HBF.out⟩
        rw [HRES.out, endW, if_neg (show ¬ ((7 : Int), cur).1 = 0 by simp)] at hh
        cases hh
    · obtain rfl : k = ds.length := by omega
      have HCH := Lib.hid (show chgW t own ds = (0, cur) from HR.out.eq.symm.trans (by rw [List.drop_length]; rfl))
      obtain ⟨ao2, n2, cap2, gg, oo, e2, hn2, hl2⟩ := HR.out.wide.lies
      injection e2 with e21 e22 e23
      subst e21; subst e22; subst e23
      rw [zv_length, Nat.mul_one] at hn2
      obtain rfl : cur.length = n1 := hn2
      have HLL := Lib.hid hl2
      have HCL := Lib.hid (show cur.length ≤ 1000 by have := HR.out.len; omega)
      clear hl2
      go_wp2_with fail
      refine (together_wt wr ao1 cap1 gg oo cur HR.out.ok HCL.out HLL.out).mono ?_
      rintro e w9 ⟨rfl, hw9⟩
      have hw9 := hw9.symm
      subst hw9
      have HBF := Lib.hid HR.out.below
      by_cases hC : totW cur < 4611686018427387904
      · rw [decide_eq_true hC]
        have HRES := Lib.hid (show endW own (chgW t own ds) = (0, cur) by rw [HCH.out, endW, if_pos rfl, if_pos hC])
        go_wp2_with fail
        go_ret2
        exact ⟨_, by rw [HRES.out]; rfl, ⟨_, _, _, rfl⟩, fun _ => by rw [HRES.out]; exact HR.out.wide, HBF.out⟩
      · rw [decide_eq_false hC]
        have HRES := Lib.hid (show endW own (chgW t own ds) = (1, own) by rw [HCH.out, endW, if_pos rfl, if_neg hC])
        go_wp2_with fail
        go_ret2
        refine ⟨_, by rw [HRES.out]; rfl, ⟨_, _, _, rfl⟩, fun hh => ?_, HBF.out⟩
        rw [HRES.out] at hh
        cases hh
end Go.Proofs.Ytjodhagjfjgbcaa

/-
  learn: all blocks of the tree are known, those that came since weigh nothing.
-/
namespace Go.Proofs.Ytjodhagjfjgbcaa
open Go Go.RowKit
set_option maxRecDepth 10000

set_option maxHeartbeats 4000000 in
theorem learn_any (w : World) (G : List Nat) (tb : Nat) (t : List Nd) (most : Int) (F : List Nat) (b : Nat) (own sums best : List Int) (hT : Tre w G tb t most) (h : Wgt w F b tb own sums best) (hA : Away G F) (hl : own.length ≤ t.length) :
    Calls Try.prog 50 #[.pointer (some ⟨b, 0, none⟩)] w fun e w' => e = .returned (.tuple #[]) ∧ ∃ F', Wgt w' F' b tb (padW t own) sums best ∧ Kept F w w' ∧ NewF w F F' := by
  obtain ⟨i0, hi0, hz0, hz1, hz2⟩ := info_parts Try.info3
  obtain ⟨a1, a2, a3, c1, c2, c3, g1, g2, g3, o1, o2, o3, h⟩ := h.open
  have htp := hT.1.pos
  have htl : t.length ≤ 256 := by have := hT.1.room; have := hT.1.most256; omega
  have HR := Lib.hid (show ∀ w', (Below w.heap.size w w' ∨ ∃ u, Wide 1 w' 0 u (zv (padW t own)) ∧ Kept (ownL (.slice a1 own.length c1)) w w' ∧ (u.ownBlock = (Value.slice a1 own.length c1).ownBlock ∨ ∃ j, u.ownBlock = some j ∧ w.heap.size ≤ j)) → Kept (ownL (.slice a1 own.length c1)) w w' from fun w' hh => by
    rcases hh with hh | ⟨u, _, hh, _⟩
    · exact Kept.of_below _ hh
    · exact hh)
  have HBK := Lib.hid (show ∀ w', (Below w.heap.size w w' ∨ ∃ u, Wide 1 w' 0 u (zv (padW t own)) ∧ Kept (ownL (.slice a1 own.length c1)) w w' ∧ (u.ownBlock = (Value.slice a1 own.length c1).ownBlock ∨ ∃ j, u.ownBlock = some j ∧ w.heap.size ≤ j)) → Blk w' b 89 [.pointer (some ⟨tb, 0, none⟩), .slice a1 own.length c1, .slice a2 sums.length c2, .slice a3 best.length c3] from fun w' hh => h.blk.kept (HR.out w' hh) h.nb1)
  have HLN := Lib.hid (show ∀ w', (Below w.heap.size w w' ∨ ∃ u, Wide 1 w' 0 u (zv (padW t own)) ∧ Kept (ownL (.slice a1 own.length c1)) w w' ∧ (u.ownBlock = (Value.slice a1 own.length c1).ownBlock ∨ ∃ j, u.ownBlock = some j ∧ w.heap.size ≤ j)) → Calls Try.prog 27 #[.pointer (some ⟨tb, 0, none⟩)] w' fun e w9 => e = .returned (.int .i64 (t.length : Int)) ∧ w9 = w' from fun w' hh => len_any w' G tb t most (hT.keep (HR.out w' hh) (fun x hx hm => hA x hx (h.inF1 x hm))))
  have HSB := Lib.hid (show IntKind.i64.wrap ((t.length : Int) - (own.length : Int)) = ((t.length - own.length : Nat) : Int) by rw [IntKind.wrap_i64]; omega)
  have HH := Lib.hid h
  have HPL := Lib.hid (show 0 < (padW t own).length by rw [padW_length hl]; exact htp)
  clear hT h HR
  go_enter Try.func50, Try.ntmps50
  go_upto_region 0 with fail
  refine wp_region_freeA (P := Try.prog) 17 16 (by decide) w (fun oq => match oq with
      | 0 => .pointer (some ⟨b, 0, none⟩)
      | 1 => .pointer (some ⟨b, 0, none⟩)
      | 2 => .pointer (some ⟨b, 0, none⟩)
      | 3 => .pointer (some ⟨b, 1, none⟩)
      | 4 => .slice a1 own.length c1
      | 5 => .pointer (some ⟨b, 0, none⟩)
      | 6 => .pointer (some ⟨b, 0, none⟩)
      | 7 => .pointer (some ⟨b, 0, none⟩)
      | 8 => .pointer (some ⟨tb, 0, none⟩)
      | 9 => .int .i64 (t.length : Int)
      | 10 => .pointer (some ⟨b, 0, none⟩)
      | 11 => .pointer (some ⟨b, 0, none⟩)
      | 12 => .pointer (some ⟨b, 1, none⟩)
      | 13 => .slice a1 own.length c1
      | 14 => .int .i64 (own.length : Int)
      | 15 => .int .i64 ((t.length - own.length : Nat) : Int)
      | _ => undef) (fun u w' => Wide 1 w' 0 u (zv (padW t own)) ∧ Kept (ownL (.slice a1 own.length c1)) w w' ∧ (u.ownBlock = (Value.slice a1 own.length c1).ownBlock ∨ ∃ j, u.ownBlock = some j ∧ w.heap.size ≤ j)) (by kernel_rfl) (by kernel_rfl) ?self ?bl ?pb ?steps ?fin
  case self => intro i o ho hi; subst hi; simp only [List.getElem?_cons_succ, List.getElem?_cons_zero, Option.some.injEq] at ho; subst ho; decide
  case bl => exact (Below.refl _ _).drew
  case pb => exact fun u a c ⟨h1, h2, h3⟩ hb => ⟨h1.below hb, h2.then hb, h3⟩
  case steps =>
    intro vals
    simp only [List.take_succ_cons, List.take_zero, freeStepsA, Act.put, List.setIfInBounds_toArray, List.set_cons_zero, List.set_cons_succ, Nat.reduceAdd, Nat.reduceEqDiff, reduceIte]
    refine ⟨?_, ?_, ?_, ?_, ?_, ?_, ?_, ?_, ?_, ?_, ?_, ?_, ?_, ?_, ?_, ?_, fun w8 hG hW => ?_, trivial⟩
    · refine ⟨by decide, fun w8 hG hW => ?_⟩
      clear hW
      refine stepAt_value rfl rfl rfl (.pointer (some ⟨b, 0, none⟩)) w8 ?_ ⟨rfl, Below.refl _ _⟩
      go_simp
    · refine ⟨by decide, fun w8 hG hW => ?_⟩
      clear hW
      refine stepAt_value rfl rfl rfl (.pointer (some ⟨b, 0, none⟩)) w8 ?_ ⟨rfl, Below.refl _ _⟩
      go_simp
    · refine ⟨by decide, fun w8 hG hW => ?_⟩
      have q1 := hW 1 (by decide)
      simp only at q1
      rw [q1]
      clear hW
      refine stepAt_value rfl rfl rfl (.pointer (some ⟨b, 0, none⟩)) w8 ?_ ⟨rfl, Below.refl _ _⟩
      go_simp
    · refine ⟨by decide, fun w8 hG hW => ?_⟩
      have q2 := hW 2 (by decide)
      simp only at q2
      rw [q2]
      clear hW
      refine stepAt_value rfl rfl rfl (.pointer (some ⟨b, 1, none⟩)) w8 ?_ ⟨rfl, Below.refl _ _⟩
      go_simp
    · refine ⟨by decide, fun w8 hG hW => ?_⟩
      have q3 := hW 3 (by decide)
      simp only at q3
      rw [q3]
      clear hW
      have cc := (HBK.out w8 hG).cell 1
      simp only [List.getElem?_cons_succ, List.getElem?_cons_zero] at cc
      refine stepAt_value rfl rfl rfl (.slice a1 own.length c1) w8 ?_ ⟨rfl, Below.refl _ _⟩
      go_simp
    · refine ⟨by decide, fun w8 hG hW => ?_⟩
      clear hW
      refine stepAt_value rfl rfl rfl (.pointer (some ⟨b, 0, none⟩)) w8 ?_ ⟨rfl, Below.refl _ _⟩
      go_simp
    · refine ⟨by decide, fun w8 hG hW => ?_⟩
      have q5 := hW 5 (by decide)
      simp only at q5
      rw [q5]
      clear hW
      refine stepAt_value rfl rfl rfl (.pointer (some ⟨b, 0, none⟩)) w8 ?_ ⟨rfl, Below.refl _ _⟩
      go_simp
    · refine ⟨by decide, fun w8 hG hW => ?_⟩
      have q6 := hW 6 (by decide)
      simp only at q6
      rw [q6]
      clear hW
      refine stepAt_value rfl rfl rfl (.pointer (some ⟨b, 0, none⟩)) w8 ?_ ⟨rfl, Below.refl _ _⟩
      go_simp
    · refine ⟨by decide, fun w8 hG hW => ?_⟩
      have q7 := hW 7 (by decide)
      simp only at q7
      rw [q7]
      clear hW
      have cc := (HBK.out w8 hG).cell 0
      simp only [List.getElem?_cons_zero] at cc
      refine stepAt_value rfl rfl rfl (.pointer (some ⟨tb, 0, none⟩)) w8 ?_ ⟨rfl, Below.refl _ _⟩
      go_simp
    · refine ⟨by decide, fun w8 hG hW => ?_⟩
      have q8 := hW 8 (by decide)
      simp only at q8
      rw [q8]
      clear hW
      refine stepAt_call rfl rfl rfl 27 #[.pointer (some ⟨tb, 0, none⟩)] (by go_simp) ((HLN.out w8 hG).mono fun e w' ⟨h1, h2⟩ => ⟨_, h1, rfl, by rw [h2]; exact Below.refl _ _⟩)
    · refine ⟨by decide, fun w8 hG hW => ?_⟩
      clear hW
      refine stepAt_value rfl rfl rfl (.pointer (some ⟨b, 0, none⟩)) w8 ?_ ⟨rfl, Below.refl _ _⟩
      go_simp
    · refine ⟨by decide, fun w8 hG hW => ?_⟩
      have q10 := hW 10 (by decide)
      simp only at q10
      rw [q10]
      clear hW
      refine stepAt_value rfl rfl rfl (.pointer (some ⟨b, 0, none⟩)) w8 ?_ ⟨rfl, Below.refl _ _⟩
      go_simp
    · refine ⟨by decide, fun w8 hG hW => ?_⟩
      have q11 := hW 11 (by decide)
      simp only at q11
      rw [q11]
      clear hW
      refine stepAt_value rfl rfl rfl (.pointer (some ⟨b, 1, none⟩)) w8 ?_ ⟨rfl, Below.refl _ _⟩
      go_simp
    · refine ⟨by decide, fun w8 hG hW => ?_⟩
      have q12 := hW 12 (by decide)
      simp only at q12
      rw [q12]
      clear hW
      have cc := (HBK.out w8 hG).cell 1
      simp only [List.getElem?_cons_succ, List.getElem?_cons_zero] at cc
      refine stepAt_value rfl rfl rfl (.slice a1 own.length c1) w8 ?_ ⟨rfl, Below.refl _ _⟩
      go_simp
    · refine ⟨by decide, fun w8 hG hW => ?_⟩
      have q13 := hW 13 (by decide)
      simp only at q13
      rw [q13]
      clear hW
      refine stepAt_value rfl rfl rfl (.int .i64 (own.length : Int)) w8 ?_ ⟨rfl, Below.refl _ _⟩
      go_simp
    · refine ⟨by decide, fun w8 hG hW => ?_⟩
      have q9 := hW 9 (by decide)
      simp only at q9
      have q14 := hW 14 (by decide)
      simp only at q14
      rw [q9, q14]
      clear hW
      refine stepAt_value rfl rfl rfl (.int .i64 ((t.length - own.length : Nat) : Int)) w8 ?_ ⟨rfl, Below.refl _ _⟩
      have hs := HSB.out
      go_simp
    · have q4 := hW 4 (by decide)
      simp only at q4
      have q15 := hW 15 (by decide)
      simp only at q15
      rw [q4, q15]
      clear hW
      refine stepAt_append_zeros rfl rfl rfl (.tmp 6) (.tmp 17) 42 3 rfl rfl ((HH.out.below hG).wide1) 3 i0 (.int .i64 0) Try.underlying42 Try.underlying3 hi0 hz0 rfl hz1 hz2 rfl (t.length - own.length) rfl (by rw [zv_length]; omega) (by omega) (by rw [zv_length]; omega) (Nat.zero_le _) ?_
      intro u w9 hu hg
      refine ⟨by rw [padW, zv_append, show zv (List.replicate (t.length - own.length) 0) = List.replicate (t.length - own.length) (.int .i64 0) by simp [zv]]; exact hu, (Kept.of_below _ hG).trans (Kept.of_grown _ hg.grown (fun k hk => mem_ownL.2 hk)) (NewF.refl _ _), ?_⟩
      rcases hg.own with h1 | ⟨j, h1, h2⟩
      · exact .inl h1
      · exact .inr ⟨j, h1, Nat.le_trans hG.size h2⟩
  case fin =>
    intro vals w9 hV ⟨hw9, hk9, ho9⟩
    have q0 := hV 0 (by omega) (by decide)
    simp only at q0
    simp only [List.take_succ_cons, List.take_zero, List.drop_succ_cons, List.drop_zero, putAll, Act.put, List.setIfInBounds_toArray, List.set_cons_zero, List.set_cons_succ, Nat.reduceAdd]
    rw [q0]
    clear hV q0
    generalize vals 1 = y1
    generalize vals 2 = y2
    generalize vals 3 = y3
    generalize vals 4 = y4
    generalize vals 5 = y5
    generalize vals 6 = y6
    generalize vals 7 = y7
    generalize vals 8 = y8
    generalize vals 9 = y9
    generalize vals 10 = y10
    generalize vals 11 = y11
    generalize vals 12 = y12
    generalize vals 13 = y13
    generalize vals 14 = y14
    generalize vals 15 = y15
    have hbk := HH.out.blk.kept hk9 HH.out.nb1
    have c1' := hbk.cell 1
    have f1' := hbk.free 1
    simp only [List.getElem?_cons_succ, List.getElem?_cons_zero] at c1'
    have hst := HH.out.own1 hk9 hw9 HPL.out ho9
    obtain ⟨ao', n', cap', hu⟩ : ∃ ao n cap, vals 16 = .slice ao n cap := by
      obtain ⟨n', cap', g', off', ao', hu, _⟩ := hw9
      exact ⟨_, _, _, hu⟩
    rw [hu] at hst ⊢
    have HST := Lib.hid hst
    clear hst hu hw9 hk9 ho9 HBK HLN HSB HH HPL
    go_wp2_with fail
    go_end0
    exact ⟨rfl, _, HST.out⟩
end Go.Proofs.Ytjodhagjfjgbcaa
