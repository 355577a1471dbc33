/-
  The walk of SealIs.
-/
import Derived.Test.YtnbdpalbompjlaaDoorM22
import Derived.Test.YtnbdpalbompjlaaDoorM19
import Derived.Test.YtnbdpalbompjlaaDoorM23
import Derived.Test.YtnbdpalbompjlaaDoorRowOf
namespace Go.Proofs.YtnbdpalbompjlaaDoor
open Go.RowKit
set_option maxRecDepth 100000

set_option maxHeartbeats 16000000 in
theorem sealIs_any (w : World) (hT : Tabs w) (cs : List Value) (vs : List (Int × ByteArray)) (hc : CfgIn w cs vs) (M : Msg) (sl : Value) (hf : M.Fits) (hr : BRow w w.heap.size sl M.l) :
    Calls Tryd.prog 3 #[.agg cs.toArray, .agg (mc M sl).toArray] w fun e w' => e = .returned (.bool true) ∧ Below w.heap.size w w' := by
  have HT := Lib.hid hT
  have HF := Lib.hid hf
  have HR := Lib.hid hr
  have HCI := Lib.hid hc
  have HCL := Lib.hid hc.len
  have HC := Lib.hid (show Blk _ w.heap.size _ cs from (Blk.new w 24 cs.toArray).alloc (.cells (mc M sl).toArray 32))
  have HM := Lib.hid (show Blk _ (w.heap.size + 1) _ (mc M sl) from Blk.newAt (w.alloc (.cells cs.toArray 24)) 32 (mc M sl).toArray (w.heap.size + 1) (by simp))
  have HB := Lib.hid (show Below w.heap.size w ((w.alloc (.cells cs.toArray 24)).alloc (.cells (mc M sl).toArray 32)) from ((Below.refl w.heap.size w).alloc (Nat.le_refl _) _).alloc (by simp) _)
  clear hT hf hr hc
  obtain ⟨G, hG⟩ : ∃ G, G = w.heap.size + 1 := ⟨_, rfl⟩
  obtain ⟨D, hD⟩ : ∃ D, D = w.heap.size := ⟨_, rfl⟩
  have HDl := Lib.hid (show w.heap.size ≤ D by omega)
  go_enter Tryd.func3, Tryd.ntmps3
  go_upto_region 1 with fail
  generalize (w.alloc (.cells cs.toArray 24)).alloc (.cells (mc M sl).toArray 32) = w0 at HB HC HM ⊢
  (try simp only [Nat.add_assoc, Nat.reduceAdd])
  rw [← hG] at HM ⊢
  rw [← hD] at HC ⊢
  clear hD hG
  go_wp2_with fail
  refine (alive_any w0 (HT.out.below HB.out HT.out.size)).mono ?_
  rintro e w1 ⟨rfl, hb⟩
  replace HC := Lib.hid (HC.out.below hb HC.out.lt)
  replace HM := Lib.hid (HM.out.below hb HM.out.lt)
  replace HB := Lib.hid (HB.out.trans (hb.mono HB.out.size))
  clear hb
  have HG8 := Lib.hid (great8_any w1 (HCI.out.below HB.out) M sl HF.out ((HR.out.keep HB.out).more HB.out.size))
  go_wp2_with (first
    | ((with_reducible refine wpList_load_msgG (.tmp 3) ?_ ?_ G M sl ?_ HM.out HF.out ?_); rfl; rfl; rfl)
    | ((with_reducible refine wpList_load_cfg (.tmp 2) ?_ ?_ D cs ?_ HC.out HCL.out ?_); rfl; rfl; rfl))
  refine HG8.out.mono ?_
  rintro e w2 ⟨yg, rfl, hyg, hb⟩
  replace HC := Lib.hid (HC.out.below hb HC.out.lt)
  replace HM := Lib.hid (HM.out.below hb HM.out.lt)
  replace HB := Lib.hid (HB.out.trans (hb.mono HB.out.size))
  clear hb
  clear HG8
  cases yg with
  | true =>
    clear hyg
    go_wp2_with fail
    go_ret
    exact ⟨rfl, HB.out⟩
  | false =>
  obtain ⟨⟨C, hok⟩, hbl⟩ := hyg rfl
  have HOK := Lib.hid hok
  have HBL := Lib.hid hbl
  clear hyg hok hbl
  obtain ⟨K, hK⟩ : ∃ K, comm M.s vs.length C = K := ⟨_, rfl⟩
  obtain ⟨ST, hST⟩ : ∃ ST, sealT vs K M = ST := ⟨_, rfl⟩
  obtain ⟨Y, hY⟩ : ∃ Y, (spk K M).isSome = Y := ⟨_, rfl⟩
  obtain ⟨L, hL⟩ : ∃ L, (spk K M).getD [] = L := ⟨_, rfl⟩
  obtain ⟨VL, hVL⟩ : ∃ VL, votesM K M = VL := ⟨_, rfl⟩
  obtain ⟨CK, hCK⟩ : ∃ CK, sealC vs K M = CK := ⟨_, rfl⟩
  have HSL := Lib.hid (show ST.length = 16 by rw [← hST]; exact sealT_length vs K M)
  have HSP := fun (W : World) (hT : Tabs W) (hc : CfgOk W cs C vs) (hr : BRow W W.heap.size sl M.l) => speakers_any W hT hc M sl HF.out hr
  have HSR := fun (W : World) (hc : CfgOk W cs C vs) (hr : BRow W W.heap.size sl M.l) => refspk_any W hc M sl HF.out hr (Nat.le_trans HBL.out (by omega))
  have HTG := fun (W : World) (hT : Tabs W) (hc : CfgOk W cs C vs) (hr : BRow W W.heap.size sl M.l) => sealTag_any W hT hc M sl HF.out hr
  have HTR := fun (W : World) (hc : CfgOk W cs C vs) (hr : BRow W W.heap.size sl M.l) => rsealTag_any W hc M sl HF.out hr (Nat.le_trans HBL.out (by omega))
  have HCK := fun (W : World) (hT : Tabs W) (hc : CfgOk W cs C vs) (hr : BRow W W.heap.size sl M.l) => check_any W hT hc M sl HF.out hr
  have HCR := fun (W : World) (hc : CfgOk W cs C vs) (hr : BRow W W.heap.size sl M.l) => refcheck_any W hc M sl HF.out hr (Nat.le_trans HBL.out (by omega))
  have HVT := fun (W : World) (hT : Tabs W) (hc : CfgOk W cs C vs) (hr : BRow W W.heap.size sl M.l) => votes_any W hT hc M sl HF.out hr
  have HVR := fun (W : World) (hc : CfgOk W cs C vs) (hr : BRow W W.heap.size sl M.l) => refvotes_any W hc M sl HF.out hr (Nat.le_trans HBL.out (by omega))
  simp only [hK, hST, hY, hL, hVL, hCK] at HSP HSR HTG HTR HCK HCR HVT HVR
  replace HSP := Lib.hid HSP
  replace HSR := Lib.hid HSR
  replace HTG := Lib.hid HTG
  replace HTR := Lib.hid HTR
  replace HCK := Lib.hid HCK
  replace HCR := Lib.hid HCR
  replace HVT := Lib.hid HVT
  replace HVR := Lib.hid HVR
  have HLL := Lib.hid (show L.length ≤ 100000 by
    rw [← hL]
    cases h : spk K M with
    | none => simp
    | some l => have := spk_len h (by rw [← hK]; have := comm_le M.s vs.length C; have := (HOK.out _ (HCI.out.below HB.out)).vals; omega); simpa using by omega)
  have HVV := Lib.hid (show Vots VL by
    rw [← hVL, votesM]
    intro x hx
    split at hx
    · cases hx
    · obtain ⟨i, _, rfl⟩ := List.mem_map.1 hx
      exact HF.out.T)
  have HVZ := Lib.hid (show VL.length ≤ 100000 by
    have h := HLL.out
    rw [← hVL, votesM]
    split
    · simp
    · rw [List.length_map, hL]; exact h)
  clear hK hST hY hL hVL hCK
  go_wp2_with (first
    | ((with_reducible refine wpList_load_msgG (.tmp 3) ?_ ?_ G M sl ?_ HM.out HF.out ?_); rfl; rfl; rfl)
    | ((with_reducible refine wpList_load_cfg (.tmp 2) ?_ ?_ D cs ?_ HC.out HCL.out ?_); rfl; rfl; rfl))
  refine (HSP.out w2 (HT.out.below HB.out HT.out.size) (HOK.out _ (HCI.out.below HB.out)) ((HR.out.keep HB.out).more HB.out.size)).mono ?_
  rintro e w3 ⟨va, rfl, hh, hb⟩
  replace HC := Lib.hid (HC.out.below hb HC.out.lt)
  replace HM := Lib.hid (HM.out.below hb HM.out.lt)
  replace HB := Lib.hid (HB.out.trans (hb.mono HB.out.size))
  clear hb
  have RA := Lib.hid (show Row _ va L from hh.row)
  clear hh
  go_wp2_with (first
    | ((with_reducible refine wpList_load_msgG (.tmp 3) ?_ ?_ G M sl ?_ HM.out HF.out ?_); rfl; rfl; rfl)
    | ((with_reducible refine wpList_load_cfg (.tmp 2) ?_ ?_ D cs ?_ HC.out HCL.out ?_); rfl; rfl; rfl))
  refine (HSR.out w3 (HOK.out _ (HCI.out.below HB.out)) ((HR.out.keep HB.out).more HB.out.size)).mono ?_
  rintro e w4 ⟨vb, rfl, hh, hb⟩
  replace HC := Lib.hid (HC.out.below hb HC.out.lt)
  replace HM := Lib.hid (HM.out.below hb HM.out.lt)
  replace RA := Lib.hid (RA.out.keep hb)
  replace HB := Lib.hid (HB.out.trans (hb.mono HB.out.size))
  clear hb
  have RB := Lib.hid (show Row _ vb L from hh.row)
  clear hh
  go_wp2_with (first
    | ((with_reducible refine wpList_load_msgG (.tmp 3) ?_ ?_ G M sl ?_ HM.out HF.out ?_); rfl; rfl; rfl)
    | ((with_reducible refine wpList_load_cfg (.tmp 2) ?_ ?_ D cs ?_ HC.out HCL.out ?_); rfl; rfl; rfl))
  refine (HTG.out w4 (HT.out.below HB.out HT.out.size) (HOK.out _ (HCI.out.below HB.out)) ((HR.out.keep HB.out).more HB.out.size)).mono ?_
  rintro e w5 ⟨rfl, hb⟩
  replace HC := Lib.hid (HC.out.below hb HC.out.lt)
  replace HM := Lib.hid (HM.out.below hb HM.out.lt)
  replace RA := Lib.hid (RA.out.keep hb)
  replace RB := Lib.hid (RB.out.keep hb)
  replace HB := Lib.hid (HB.out.trans (hb.mono HB.out.size))
  clear hb
  have hz := z16_blk w5
  have hbt := below_setRow ((Below.refl w5.heap.size w5).alloc (Nat.le_refl _) (.cells z16 30)) (Nat.le_refl w5.heap.size) (bv ST).toArray
  have HZ := Lib.hid hz
  have ht3 := hz.setRow (bv ST)
  obtain ⟨wy8, hwy8⟩ : ∃ x, (w5.alloc (.cells z16 30)).setRow w5.heap.size (bv ST).toArray = x := ⟨_, rfl⟩
  rw [hwy8] at hbt ht3
  have HWX := Lib.hid hwy8
  have HTA := Lib.hid ht3
  clear hwy8 ht3 hz
  go_upto_region 8 with ((with_reducible refine wpList_store_tag (.tmp 9) (.tmp 34) ?_ ?_ w5.heap.size (List.replicate 16 0) ST ?_ ?_ ?_ zeros16 HSL.out ?_); rfl; rfl; rfl; rfl; exact HZ.out)
  rw [z16_lit, HWX.out]
  replace HC := Lib.hid (HC.out.below hbt HC.out.lt)
  replace HM := Lib.hid (HM.out.below hbt HM.out.lt)
  replace RA := Lib.hid (RA.out.keep hbt)
  replace RB := Lib.hid (RB.out.keep hbt)
  replace HB := Lib.hid (HB.out.trans (hbt.mono HB.out.size))
  clear hbt HZ HWX
  generalize w5.heap.size = TA at HTA ⊢
  go_wp2_with (first
    | ((with_reducible refine wpList_load_msgG (.tmp 3) ?_ ?_ G M sl ?_ HM.out HF.out ?_); rfl; rfl; rfl)
    | ((with_reducible refine wpList_load_cfg (.tmp 2) ?_ ?_ D cs ?_ HC.out HCL.out ?_); rfl; rfl; rfl))
  refine (HTR.out wy8 (HOK.out _ (HCI.out.below HB.out)) ((HR.out.keep HB.out).more HB.out.size)).mono ?_
  rintro e w6 ⟨rfl, hb⟩
  replace HC := Lib.hid (HC.out.below hb HC.out.lt)
  replace HM := Lib.hid (HM.out.below hb HM.out.lt)
  replace HTA := Lib.hid (HTA.out.below hb HTA.out.lt)
  replace RA := Lib.hid (RA.out.keep hb)
  replace RB := Lib.hid (RB.out.keep hb)
  replace HB := Lib.hid (HB.out.trans (hb.mono HB.out.size))
  clear hb
  have hz := z16_blk w6
  have hbt := below_setRow ((Below.refl w6.heap.size w6).alloc (Nat.le_refl _) (.cells z16 30)) (Nat.le_refl w6.heap.size) (bv ST).toArray
  have HZ := Lib.hid hz
  have ht3 := hz.setRow (bv ST)
  obtain ⟨wy9, hwy9⟩ : ∃ x, (w6.alloc (.cells z16 30)).setRow w6.heap.size (bv ST).toArray = x := ⟨_, rfl⟩
  rw [hwy9] at hbt ht3
  have HWX := Lib.hid hwy9
  have HTB := Lib.hid ht3
  clear hwy9 ht3 hz
  go_upto_region 9 with ((with_reducible refine wpList_store_tag (.tmp 11) (.tmp 40) ?_ ?_ w6.heap.size (List.replicate 16 0) ST ?_ ?_ ?_ zeros16 HSL.out ?_); rfl; rfl; rfl; rfl; exact HZ.out)
  rw [z16_lit, HWX.out]
  replace HC := Lib.hid (HC.out.below hbt HC.out.lt)
  replace HM := Lib.hid (HM.out.below hbt HM.out.lt)
  replace HTA := Lib.hid (HTA.out.below hbt HTA.out.lt)
  replace RA := Lib.hid (RA.out.keep hbt)
  replace RB := Lib.hid (RB.out.keep hbt)
  replace HB := Lib.hid (HB.out.trans (hbt.mono HB.out.size))
  clear hbt HZ HWX
  generalize w6.heap.size = TB at HTB ⊢
  have hyy : (Y == Y) = true := beq_self_eq_true Y
  have hck : (CK == CK) = true := beq_self_eq_true CK
  refine wp_region_free (P := Tryd.prog) 36 (fun w' => Below wy9.heap.size wy9 w') (fun oq v w' => match oq with
      | 0 => v = .bool Y
      | 1 => v = .bool Y
      | 2 => v = .bool true
      | 3 => v = .bool true
      | 4 => v = va
      | 5 => v = vb
      | 6 => v = .bool true
      | 7 => v = .bool true
      | 8 => v = .bool true
      | 9 => v = .agg (bv ST).toArray
      | 10 => v = .agg (bv ST).toArray
      | 11 => v = .bool true
      | 12 => v = .bool true
      | 13 => v = .bool true
      | 14 => v = .bool Y
      | 15 => v = .bool Y
      | 16 => v = .bool true
      | 17 => v = .bool true
      | 18 => v = .bool true
      | 19 => v = .agg cs.toArray
      | 20 => v = .agg (mc M sl).toArray
      | 21 => v = .bool CK
      | 22 => v = .agg cs.toArray
      | 23 => v = .agg (mc M sl).toArray
      | 24 => v = .bool CK
      | 25 => v = .bool true
      | 26 => v = .bool true
      | 27 => v = .bool true
      | 28 => v = .agg cs.toArray
      | 29 => v = .agg (mc M sl).toArray
      | 30 => VRow w' v VL
      | 31 => v = .agg cs.toArray
      | 32 => v = .agg (mc M sl).toArray
      | 33 => VRow w' v VL
      | 34 => v = .bool true
      | 35 => v = .bool true
      | _ => True) (by kernel_rfl) (by kernel_rfl) (Below.refl _ _).drew ?gb ?vb ?steps ?fin
  case gb => exact fun a b h1 h2 => h1.trans (h2.mono h1.size)
  case vb =>
    intro oq v a b h hb
    match oq with
    | 0 => exact h
    | 1 => exact h
    | 2 => exact h
    | 3 => exact h
    | 4 => exact h
    | 5 => exact h
    | 6 => exact h
    | 7 => exact h
    | 8 => exact h
    | 9 => exact h
    | 10 => exact h
    | 11 => exact h
    | 12 => exact h
    | 13 => exact h
    | 14 => exact h
    | 15 => exact h
    | 16 => exact h
    | 17 => exact h
    | 18 => exact h
    | 19 => exact h
    | 20 => exact h
    | 21 => exact h
    | 22 => exact h
    | 23 => exact h
    | 24 => exact h
    | 25 => exact h
    | 26 => exact h
    | 27 => exact h
    | 28 => exact h
    | 29 => exact h
    | 30 => exact h.keep hb
    | 31 => exact h
    | 32 => exact h
    | 33 => exact h.keep hb
    | 34 => exact h
    | 35 => exact h
    | _ + 36 => trivial
  case steps =>
    intro vals
    simp only [List.take_succ_cons, List.take_zero, freeSteps, Act.put, List.setIfInBounds_toArray, List.set_cons_zero, List.set_cons_succ, Nat.reduceAdd]
    refine ⟨fun w8 hG hW => ?_, fun w8 hG hW => ?_, fun w8 hG hW => ?_, fun w8 hG hW => ?_, fun w8 hG hW => ?_, fun w8 hG hW => ?_, fun w8 hG hW => ?_, fun w8 hG hW => ?_, fun w8 hG hW => ?_, fun w8 hG hW => ?_, fun w8 hG hW => ?_, fun w8 hG hW => ?_, fun w8 hG hW => ?_, fun w8 hG hW => ?_, fun w8 hG hW => ?_, fun w8 hG hW => ?_, fun w8 hG hW => ?_, fun w8 hG hW => ?_, fun w8 hG hW => ?_, fun w8 hG hW => ?_, fun w8 hG hW => ?_, fun w8 hG hW => ?_, fun w8 hG hW => ?_, fun w8 hG hW => ?_, fun w8 hG hW => ?_, fun w8 hG hW => ?_, fun w8 hG hW => ?_, fun w8 hG hW => ?_, fun w8 hG hW => ?_, fun w8 hG hW => ?_, fun w8 hG hW => ?_, fun w8 hG hW => ?_, fun w8 hG hW => ?_, fun w8 hG hW => ?_, fun w8 hG hW => ?_, fun w8 hG hW => ?_, trivial⟩
    · clear hW
      refine stepAt_value rfl rfl rfl (.bool Y) w8 ?_ ⟨rfl, Below.refl _ _⟩
      go_simp
    · clear hW
      refine stepAt_value rfl rfl rfl (.bool Y) w8 ?_ ⟨rfl, Below.refl _ _⟩
      go_simp
    · have q0 := hW 0 (by decide)
      simp only at q0
      have q1 := hW 1 (by decide)
      simp only at q1
      rw [q0, q1]
      clear hW
      refine stepAt_value rfl rfl rfl (.bool true) w8 ?_ ⟨rfl, Below.refl _ _⟩
      go_simp
    · have q2 := hW 2 (by decide)
      simp only at q2
      rw [q2]
      clear hW
      refine stepAt_value rfl rfl rfl (.bool true) w8 ?_ ⟨rfl, Below.refl _ _⟩
      go_simp
    · have q3 := hW 3 (by decide)
      simp only at q3
      rw [q3]
      clear hW
      refine stepAt_value rfl rfl rfl (va) w8 ?_ ⟨rfl, Below.refl _ _⟩
      go_simp
    · have q3 := hW 3 (by decide)
      simp only at q3
      rw [q3]
      clear hW
      refine stepAt_value rfl rfl rfl (vb) w8 ?_ ⟨rfl, Below.refl _ _⟩
      go_simp
    · have q3 := hW 3 (by decide)
      simp only at q3
      have q4 := hW 4 (by decide)
      simp only at q4
      have q5 := hW 5 (by decide)
      simp only at q5
      rw [q3, q4, q5]
      clear hW
      refine stepAt_call rfl rfl rfl 15 #[va, vb] (by go_simp) ((same_row (RA.out.keep hG) (RB.out.keep hG) HLL.out).mono fun e w' ⟨h1, h2⟩ => ⟨_, h1, by simp, h2⟩)
    · have q3 := hW 3 (by decide)
      simp only at q3
      have q6 := hW 6 (by decide)
      simp only at q6
      rw [q3, q6]
      clear hW
      refine stepAt_value rfl rfl rfl (.bool true) w8 ?_ ⟨rfl, Below.refl _ _⟩
      go_simp
    · have q7 := hW 7 (by decide)
      simp only at q7
      rw [q7]
      clear hW
      refine stepAt_value rfl rfl rfl (.bool true) w8 ?_ ⟨rfl, Below.refl _ _⟩
      go_simp
    · have q8 := hW 8 (by decide)
      simp only at q8
      rw [q8]
      clear hW
      exact stepAt_load_cells rfl rfl rfl 30 (.tmp 9) rfl TA 0 (bv ST) rfl 16 5 (fun j v hj => by rw [Nat.zero_add]; exact ((HTA.out.below hG HTA.out.lt).cell j).trans (by simpa using hj)) Tryd.underlying30 (tag_size HSL.out) ⟨rfl, Below.refl _ _⟩
    · have q8 := hW 8 (by decide)
      simp only at q8
      rw [q8]
      clear hW
      exact stepAt_load_cells rfl rfl rfl 30 (.tmp 11) rfl TB 0 (bv ST) rfl 16 5 (fun j v hj => by rw [Nat.zero_add]; exact ((HTB.out.below hG HTB.out.lt).cell j).trans (by simpa using hj)) Tryd.underlying30 (tag_size HSL.out) ⟨rfl, Below.refl _ _⟩
    · have q8 := hW 8 (by decide)
      simp only at q8
      have q9 := hW 9 (by decide)
      simp only at q9
      have q10 := hW 10 (by decide)
      simp only at q10
      rw [q8, q9, q10]
      clear hW
      refine stepAt_value rfl rfl rfl (.bool true) w8 ?_ ⟨rfl, Below.refl _ _⟩
      have hh := tag_eq w8 ST ST HSL.out HSL.out
      rw [beq_self_eq_true] at hh
      go_simp
    · have q8 := hW 8 (by decide)
      simp only at q8
      have q11 := hW 11 (by decide)
      simp only at q11
      rw [q8, q11]
      clear hW
      refine stepAt_value rfl rfl rfl (.bool true) w8 ?_ ⟨rfl, Below.refl _ _⟩
      go_simp
    · have q12 := hW 12 (by decide)
      simp only at q12
      rw [q12]
      clear hW
      refine stepAt_value rfl rfl rfl (.bool true) w8 ?_ ⟨rfl, Below.refl _ _⟩
      go_simp
    · have q13 := hW 13 (by decide)
      simp only at q13
      rw [q13]
      clear hW
      refine stepAt_value rfl rfl rfl (.bool Y) w8 ?_ ⟨rfl, Below.refl _ _⟩
      go_simp
    · have q13 := hW 13 (by decide)
      simp only at q13
      rw [q13]
      clear hW
      refine stepAt_value rfl rfl rfl (.bool Y) w8 ?_ ⟨rfl, Below.refl _ _⟩
      go_simp
    · have q13 := hW 13 (by decide)
      simp only at q13
      have q14 := hW 14 (by decide)
      simp only at q14
      have q15 := hW 15 (by decide)
      simp only at q15
      rw [q13, q14, q15]
      clear hW
      refine stepAt_value rfl rfl rfl (.bool true) w8 ?_ ⟨rfl, Below.refl _ _⟩
      go_simp
    · have q13 := hW 13 (by decide)
      simp only at q13
      have q16 := hW 16 (by decide)
      simp only at q16
      rw [q13, q16]
      clear hW
      refine stepAt_value rfl rfl rfl (.bool true) w8 ?_ ⟨rfl, Below.refl _ _⟩
      go_simp
    · have q17 := hW 17 (by decide)
      simp only at q17
      rw [q17]
      clear hW
      refine stepAt_value rfl rfl rfl (.bool true) w8 ?_ ⟨rfl, Below.refl _ _⟩
      go_simp
    · have q18 := hW 18 (by decide)
      simp only at q18
      rw [q18]
      clear hW
      exact stepAt_load_cfg rfl rfl rfl (.tmp 2) rfl D cs rfl (HC.out.below hG HC.out.lt) HCL.out ⟨rfl, Below.refl _ _⟩
    · have q18 := hW 18 (by decide)
      simp only at q18
      rw [q18]
      clear hW
      exact stepAt_load_msg rfl rfl rfl (.tmp 3) rfl G M sl rfl (HM.out.below hG HM.out.lt) HF.out ⟨rfl, Below.refl _ _⟩
    · have q18 := hW 18 (by decide)
      simp only at q18
      have q19 := hW 19 (by decide)
      simp only at q19
      have q20 := hW 20 (by decide)
      simp only at q20
      rw [q18, q19, q20]
      clear hW
      refine stepAt_call rfl rfl rfl 16 #[.agg cs.toArray, .agg (mc M sl).toArray] (by go_simp) ((HCK.out w8 (HT.out.below (HB.out.trans (hG.mono HB.out.size)) HT.out.size) (HOK.out _ (HCI.out.below (HB.out.trans (hG.mono HB.out.size)))) ((HR.out.keep (HB.out.trans (hG.mono HB.out.size))).more (HB.out.trans (hG.mono HB.out.size)).size)).mono fun e w' ⟨h1, h2⟩ => ⟨_, h1, rfl, h2⟩)
    · have q18 := hW 18 (by decide)
      simp only at q18
      rw [q18]
      clear hW
      exact stepAt_load_cfg rfl rfl rfl (.tmp 2) rfl D cs rfl (HC.out.below hG HC.out.lt) HCL.out ⟨rfl, Below.refl _ _⟩
    · have q18 := hW 18 (by decide)
      simp only at q18
      rw [q18]
      clear hW
      exact stepAt_load_msg rfl rfl rfl (.tmp 3) rfl G M sl rfl (HM.out.below hG HM.out.lt) HF.out ⟨rfl, Below.refl _ _⟩
    · have q18 := hW 18 (by decide)
      simp only at q18
      have q22 := hW 22 (by decide)
      simp only at q22
      have q23 := hW 23 (by decide)
      simp only at q23
      rw [q18, q22, q23]
      clear hW
      refine stepAt_call rfl rfl rfl 17 #[.agg cs.toArray, .agg (mc M sl).toArray] (by go_simp) ((HCR.out w8 (HOK.out _ (HCI.out.below (HB.out.trans (hG.mono HB.out.size)))) ((HR.out.keep (HB.out.trans (hG.mono HB.out.size))).more (HB.out.trans (hG.mono HB.out.size)).size)).mono fun e w' ⟨h1, h2⟩ => ⟨_, h1, rfl, h2⟩)
    · have q18 := hW 18 (by decide)
      simp only at q18
      have q21 := hW 21 (by decide)
      simp only at q21
      have q24 := hW 24 (by decide)
      simp only at q24
      rw [q18, q21, q24]
      clear hW
      refine stepAt_value rfl rfl rfl (.bool true) w8 ?_ ⟨rfl, Below.refl _ _⟩
      go_simp
    · have q18 := hW 18 (by decide)
      simp only at q18
      have q25 := hW 25 (by decide)
      simp only at q25
      rw [q18, q25]
      clear hW
      refine stepAt_value rfl rfl rfl (.bool true) w8 ?_ ⟨rfl, Below.refl _ _⟩
      go_simp
    · have q26 := hW 26 (by decide)
      simp only at q26
      rw [q26]
      clear hW
      refine stepAt_value rfl rfl rfl (.bool true) w8 ?_ ⟨rfl, Below.refl _ _⟩
      go_simp
    · have q27 := hW 27 (by decide)
      simp only at q27
      rw [q27]
      clear hW
      exact stepAt_load_cfg rfl rfl rfl (.tmp 2) rfl D cs rfl (HC.out.below hG HC.out.lt) HCL.out ⟨rfl, Below.refl _ _⟩
    · have q27 := hW 27 (by decide)
      simp only at q27
      rw [q27]
      clear hW
      exact stepAt_load_msg rfl rfl rfl (.tmp 3) rfl G M sl rfl (HM.out.below hG HM.out.lt) HF.out ⟨rfl, Below.refl _ _⟩
    · have q27 := hW 27 (by decide)
      simp only at q27
      have q28 := hW 28 (by decide)
      simp only at q28
      have q29 := hW 29 (by decide)
      simp only at q29
      rw [q27, q28, q29]
      clear hW
      refine stepAt_call rfl rfl rfl 19 #[.agg cs.toArray, .agg (mc M sl).toArray] (by go_simp) ((HVT.out w8 (HT.out.below (HB.out.trans (hG.mono HB.out.size)) HT.out.size) (HOK.out _ (HCI.out.below (HB.out.trans (hG.mono HB.out.size)))) ((HR.out.keep (HB.out.trans (hG.mono HB.out.size))).more (HB.out.trans (hG.mono HB.out.size)).size)).mono fun e w' ⟨v, h1, h2, h3⟩ => ⟨_, h1, h2.vrow HVV.out, h3⟩)
    · have q27 := hW 27 (by decide)
      simp only at q27
      rw [q27]
      clear hW
      exact stepAt_load_cfg rfl rfl rfl (.tmp 2) rfl D cs rfl (HC.out.below hG HC.out.lt) HCL.out ⟨rfl, Below.refl _ _⟩
    · have q27 := hW 27 (by decide)
      simp only at q27
      rw [q27]
      clear hW
      exact stepAt_load_msg rfl rfl rfl (.tmp 3) rfl G M sl rfl (HM.out.below hG HM.out.lt) HF.out ⟨rfl, Below.refl _ _⟩
    · have q27 := hW 27 (by decide)
      simp only at q27
      have q31 := hW 31 (by decide)
      simp only at q31
      have q32 := hW 32 (by decide)
      simp only at q32
      rw [q27, q31, q32]
      clear hW
      refine stepAt_call rfl rfl rfl 20 #[.agg cs.toArray, .agg (mc M sl).toArray] (by go_simp) ((HVR.out w8 (HOK.out _ (HCI.out.below (HB.out.trans (hG.mono HB.out.size)))) ((HR.out.keep (HB.out.trans (hG.mono HB.out.size))).more (HB.out.trans (hG.mono HB.out.size)).size)).mono fun e w' ⟨v, h1, h2, h3⟩ => ⟨_, h1, h2.vrow HVV.out, h3⟩)
    · have h30 : VRow w8 (vals 30) VL := hW 30 (by decide)
      have h33 : VRow w8 (vals 33) VL := hW 33 (by decide)
      have q27 := hW 27 (by decide)
      simp only at q27
      rw [q27]
      clear hW
      refine stepAt_call rfl rfl rfl 18 #[vals 30, vals 33] (by go_simp) ((vsame_row h30 h33 HVZ.out).mono fun e w' ⟨h1, h2⟩ => ⟨_, h1, by simp, h2⟩)
    · have q27 := hW 27 (by decide)
      simp only at q27
      have q34 := hW 34 (by decide)
      simp only at q34
      rw [q27, q34]
      clear hW
      refine stepAt_value rfl rfl rfl (.bool true) w8 ?_ ⟨rfl, Below.refl _ _⟩
      go_simp
  case fin =>
    intro vals w8 hG hV
    have qF : vals 35 = .bool true := hV 35 (by omega)
    simp only [List.take_succ_cons, List.take_zero, List.drop_succ_cons, List.drop_zero, putAll, Act.put, List.setIfInBounds_toArray, List.set_cons_zero, List.set_cons_succ, Nat.reduceAdd]
    rw [qF]
    clear hV qF
    generalize vals 0 = x0
    generalize vals 1 = x1
    generalize vals 2 = x2
    generalize vals 3 = x3
    generalize vals 4 = x4
    generalize vals 5 = x5
    generalize vals 6 = x6
    generalize vals 7 = x7
    generalize vals 8 = x8
    generalize vals 9 = x9
    generalize vals 10 = x10
    generalize vals 11 = x11
    generalize vals 12 = x12
    generalize vals 13 = x13
    generalize vals 14 = x14
    generalize vals 15 = x15
    generalize vals 16 = x16
    generalize vals 17 = x17
    generalize vals 18 = x18
    generalize vals 19 = x19
    generalize vals 20 = x20
    generalize vals 21 = x21
    generalize vals 22 = x22
    generalize vals 23 = x23
    generalize vals 24 = x24
    generalize vals 25 = x25
    generalize vals 26 = x26
    generalize vals 27 = x27
    generalize vals 28 = x28
    generalize vals 29 = x29
    generalize vals 30 = x30
    generalize vals 31 = x31
    generalize vals 32 = x32
    generalize vals 33 = x33
    generalize vals 34 = x34
    have HBF := Lib.hid (HB.out.trans (hG.mono HB.out.size))
    clear hG
    go_wp2_with fail
    go_ret
    exact ⟨rfl, HBF.out⟩
end Go.Proofs.YtnbdpalbompjlaaDoor
