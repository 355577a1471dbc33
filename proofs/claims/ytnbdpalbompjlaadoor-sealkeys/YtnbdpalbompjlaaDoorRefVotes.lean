/-
  What the reference's Votes answers.
-/
import Derived.Test.YtnbdpalbompjlaaDoorRefSpk
import Derived.Test.YtnbdpalbompjlaaDoorM15
import Derived.Test.YtnbdpalbompjlaaDoorM10
namespace Go.Proofs.YtnbdpalbompjlaaDoor
open Go.RowKit
set_option maxRecDepth 100000

set_option maxHeartbeats 8000000 in
theorem refvotes_any (w : World) {cs : List Value} {C : Nat} {vs : List (Int × ByteArray)} (hc : CfgOk w cs C vs) (M : Msg) (sl : Value) (hf : M.Fits) (hr : BRow w w.heap.size sl M.l) (hbl : M.l.length ≤ 1000) :
    Calls Tryd.prog 20 #[.agg cs.toArray, .agg (mc M sl).toArray] w fun e w' => ∃ v, e = .returned v ∧ Wide 34 w' w.heap.size v (vv (votesM (comm M.s vs.length C) M)) ∧ Below w.heap.size w w' := by
  obtain ⟨i0, hi0, hz0, hz1, hz2⟩ := info_parts Tryd.infoVote
  have hzc : (Value.agg vzero.toArray).cells.size = 34 := by rfl
  have HF := Lib.hid hf
  have HC0 := Lib.hid ((Blk.new w 24 cs.toArray).alloc (.cells (mc M sl).toArray 32))
  have HM0 := Lib.hid (Blk.newAt (w.alloc (.cells cs.toArray 24)) 32 (mc M sl).toArray (w.heap.size + 1) (by simp))
  have hb0 : Below w.heap.size w ((w.alloc (.cells cs.toArray 24)).alloc (.cells (mc M sl).toArray 32)) := ((Below.refl w.heap.size w).alloc (Nat.le_refl _) _).alloc (by simp) _
  have HR0 := Lib.hid (hr.bits hb0)
  have HCF0 := Lib.hid (hc.below hb0)
  have HB0 := Lib.hid hb0
  obtain ⟨K, hK⟩ : ∃ K, K = comm M.s vs.length C := ⟨_, rfl⟩
  have HK := Lib.hid hK.symm
  have HKL := Lib.hid (show K.length ≤ 1000 by have h1 := comm_le M.s vs.length C; have h2 := hc.vals; rw [hK]; omega)
  rw [← hK]
  obtain ⟨L, hL⟩ : ∃ L, (spk K M).getD [] = L := ⟨_, rfl⟩
  obtain ⟨Y, hY⟩ : ∃ Y, (spk K M).isSome = Y := ⟨_, rfl⟩
  have HLL := Lib.hid hL
  have HYY := Lib.hid hY
  have HV1 := Lib.hid (show M.k = 1 → votesM K M = [] by intro k; rw [votesM, if_pos k])
  have HV2 := Lib.hid (show M.k ≠ 1 → votesM K M = L.map fun i => (i, M.s, M.T) by intro k; rw [votesM, if_neg k, hL])
  have HV3 := Lib.hid (show Y = false → votesM K M = [] by
    intro y
    rw [y] at hY
    have h : spk K M = none := by simpa using hY
    rw [votesM, h]
    simp)
  have hLl : L.length ≤ 1000 := by
    rw [← hL]
    cases h : spk K M with
    | none => simp
    | some l => exact spk_len h HKL.out
  clear hK hb0 hr hc hf  hL hY
  obtain ⟨G, hG⟩ : ∃ G, G = w.heap.size + 1 := ⟨_, rfl⟩
  obtain ⟨D, hD⟩ : ∃ D, D = w.heap.size := ⟨_, rfl⟩
  have hDl : w.heap.size ≤ D := by omega
  have HDl := Lib.hid hDl
  go_enter Tryd.func20, Tryd.ntmps20
  go_upto_region 1 with fail
  generalize (w.alloc (.cells cs.toArray 24)).alloc (.cells (mc M sl).toArray 32) = w0 at HB0 HC0 HM0 HR0 HCF0 ⊢
  rw [← hG] at HM0 ⊢
  rw [← hD] at HC0 ⊢
  clear hG hD hDl
  have HSP := Lib.hid (refspk_any w0 HCF0.out M sl HF.out HR0.out hbl)
  go_wp2_with (first
    | ((with_reducible refine wpList_load_msgG (.tmp 3) ?_ ?_ G M sl ?_ HM0.out HF.out ?_); rfl; rfl; rfl)
    | ((with_reducible refine wpList_load_cfg (.tmp 2) ?_ ?_ D cs ?_ HC0.out HCF0.out.len ?_); rfl; rfl; rfl))
  refine HSP.out.mono ?_
  rintro e w1 ⟨v, rfl, hh, hb1⟩
  rw [HK.out, HLL.out] at hh
  rw [HK.out, HYY.out]
  have HM1 := Lib.hid (HM0.out.below hb1 HM0.out.lt)
  have HB1 := Lib.hid (HB0.out.trans (hb1.mono HB0.out.size))
  obtain ⟨ao, cap, b, off, rfl, hl⟩ := hh.lies
  rw [iv_length]
  have HL := Lib.hid hl
  obtain ⟨n, hn⟩ : ∃ n, n = L.length := ⟨_, rfl⟩
  have HN0 := Lib.hid hn.symm
  rw [← hn] at hLl ⊢
  clear hb1 HC0 HM0 HR0 HCF0 HB0 hh hl hn HSP
  cases Y with
  | false =>
    have HV := Lib.hid (HV3.out rfl)
    go_wp2_with fail
    go_ret
    exact ⟨.slice none 0 0, rfl, by rw [HV.out]; exact wide_nil _ _ _, HB1.out⟩
  | true =>
    obtain ⟨c0, _, _, _, _⟩ := HM1.out.msg HF.out
    by_cases k : M.k = 1
    · have HV := Lib.hid (HV1.out k)
      rw [k] at c0
      clear k
      go_wp2_with fail
      go_ret
      exact ⟨.slice none 0 0, rfl, by rw [HV.out]; exact wide_nil _ _ _, HB1.out⟩
    · have HK1 := Lib.hid k
      have hk : (M.k == 1) = false := by simpa using k
      clear k
      go_wp2_with fail
      clear hk c0
      go_loopw [5, 25] (fun v i wr => ∃ (j : Nat), j ≤ n ∧ i = .int .i64 j ∧ Hid (Wide 34 wr w1.heap.size v (vv ((L.take j).map fun i => (i, M.s, M.T)))) ∧ Hid (Below w1.heap.size w1 wr)) (fun _ i _ => n - (intOf i).toNat)
      case atStart => exact ⟨0, Nat.zero_le _, rfl, Lib.hid (wide_nil 34 w1 w1.heap.size), Lib.hid (Below.refl _ _)⟩
      case round =>
        obtain ⟨j, hj, rfl, HWD, HBel⟩ := hrel
        have HMr := Lib.hid (HM1.out.below HBel.out HM1.out.lt)
        have HBr := Lib.hid (HB1.out.trans (HBel.out.mono HB1.out.size))
        by_cases hlt : j < n
        · obtain ⟨x, hx⟩ : ∃ x, L[j]? = some x := ⟨_, List.getElem?_eq_getElem (by rw [HN0.out]; exact hlt)⟩
          obtain ⟨ha, c0⟩ := HL.out.int HBel.out hx
          subst ha
          obtain ⟨_, c1, _, _, _⟩ := HMr.out.msg HF.out
          have HTake := Lib.hid (show vv ((L.take (j + 1)).map fun i => (i, M.s, M.T)) = vv ((L.take j).map fun i => (i, M.s, M.T)) ++ vcell (x, M.s, M.T) by rw [List.take_add_one, hx, List.map_append, vv_append]; simp [vv])
          have HMT := Lib.hid (fun j v hj => (HMr.out.cell (2 + j)).trans (mc_T sl j v hj))
          have HW2 := Lib.hid (HWD.out.alloc (.cells (vcell (x, M.s, M.T)).toArray 51))
          have HSrc := Lib.hid (src_row wr 34 (by omega) 42 51 Tryd.underlying42 (vcell (x, M.s, M.T)) (vcell_length HF.out.T) (vcell_one _) (P := Tryd.prog))
          have HB3 := Lib.hid (HBel.out.alloc HBel.out.size (.cells (vcell (x, M.s, M.T)).toArray 51))
          have HVL := Lib.hid (show (vv ((L.take j).map fun i => (i, M.s, M.T))).length ≤ 34000 by
            rw [vv_length _ (by intro y hy; obtain ⟨i, _, rfl⟩ := List.mem_map.1 hy; exact HF.out.T), List.length_map, List.length_take]
            have := HN0.out
            omega)
          have HVC := Lib.hid (vcell_length (x := (x, M.s, M.T)) HF.out.T)
          have hsz := HBel.out.size
          clear hx
          go_wp2_with (first
            | ((with_reducible refine wpList_load_root (.tmp 33) ?_ ?_ G 2 M.T ?_ HF.out.T HMT.out ?_); rfl; rfl; rfl)
            | ((with_reducible refine wpList_build_msg ?_ 51 #[(0, .tmp 30), (1, .tmp 32), (2, .tmp 34)] ?_ (vcell (x, M.s, M.T)).toArray ?_ ?_); rfl; rfl; (simp only [List.map_toArray, List.map_cons, List.map_nil]; exact built_avote x M.s M.T HF.out.T))
            | ((with_reducible refine wpList_build_rows ?_ 42 51 1 #[(0, .tmp 35)] ?_ i0 (.agg vzero.toArray) (s := 34) (by omega) [vcell (x, M.s, M.T)] (by intro r hr; rw [List.mem_singleton] at hr; rw [hr]; exact HVC.out) Tryd.underlying42 hi0 hz0 hz1 ?_ (by omega) (by omega) ?_ ?_); rfl; rfl; rfl; rfl; rw [List.flatten_singleton])
            | (at_builtin; refine wpList_append_wide rfl _ _ 42 42 rfl rfl HW2.out (by omega) 51 i0 (.agg vzero.toArray) 48 Tryd.underlying42 hi0 hz0 hz1 hz2 hzc _ rfl 1 (vcell (x, M.s, M.T)) HSrc.out ?e2 ?e3 ?e4 ?_))
          case e2 => have := HVL.out; unfold maxLen; omega
          case e3 => have := HVL.out; omega
          case e4 => (try rw [World.size_alloc]); omega
          intro v2 w3 hh hg
          have HB4 := Lib.hid (show Below w1.heap.size w1 w3 from HB3.out.trans (hg.belowW HW2.out HB3.out.size))
          have HH4 := Lib.hid (show Wide 34 w3 w1.heap.size v2 (vv ((L.take (j + 1)).map fun i => (i, M.s, M.T))) by rw [HTake.out, List.map_take]; exact hh)
          clear hh hg HSrc HW2 HB3 c0 c1
          go_wp2_with fail
          go_roundw
          case rel => exact ⟨j + 1, by omega, by go_num, HH4, HB4⟩
          case measure => simp [intOf]; omega
        · have HFin := Lib.hid (show Wide 34 wr w1.heap.size u5 (vv (votesM K M)) by
            have h := HWD.out
            rw [List.take_of_length_le (by rw [HN0.out]; omega), ← HV2.out HK1.out] at h
            exact h)
          go_wp2_with fail
          go_ret
          exact ⟨u5, rfl, HFin.out.mono HB1.out.size, HBr.out⟩
end Go.Proofs.YtnbdpalbompjlaaDoor
