/-
  The walk of SealOwn.
-/
import Derived.Test.YtnbdpalbompjlaaDoorM22
import Derived.Test.YtnbdpalbompjlaaDoorRowOf
import Derived.Test.YtnbdpalbompjlaaDoorM4
namespace Go.Proofs.YtnbdpalbompjlaaDoor
open Go.RowKit
set_option maxRecDepth 100000

set_option maxHeartbeats 16000000 in
theorem sealOwn_any (w : World) (hT : Tabs w) (cs : List Value) (vs : List (Int × ByteArray)) (hc : CfgIn w cs vs) (M : Msg) (sl : Value) (hf : M.Fits) (hr : BRow w w.heap.size sl M.l) (t : List UInt8) (ht : t.length = 16) :
    Calls Tryd.prog 6 #[.agg cs.toArray, .agg (mc M sl).toArray, .agg (bv t).toArray] w fun e w' => e = .returned (.bool true) ∧ Below w.heap.size w w' := by
  have HT := Lib.hid hT
  have HF := Lib.hid hf
  have HR := Lib.hid hr
  have HCI := Lib.hid hc
  have HCL := Lib.hid hc.len
  have HC := Lib.hid (show Blk _ w.heap.size _ cs from ((Blk.new w 24 cs.toArray).alloc (.cells (mc M sl).toArray 32)).alloc (.cells (bv t).toArray 30))
  have HM := Lib.hid (show Blk _ (w.heap.size + 1) _ (mc M sl) from (Blk.newAt (w.alloc (.cells cs.toArray 24)) 32 (mc M sl).toArray (w.heap.size + 1) (by simp)).alloc (.cells (bv t).toArray 30))
  have HP := Lib.hid (show Blk _ (w.heap.size + 2) _ _ from Blk.newAt ((w.alloc (.cells cs.toArray 24)).alloc (.cells (mc M sl).toArray 32)) 30 (bv t).toArray (w.heap.size + 2) (by simp))
  have HB := Lib.hid (show Below w.heap.size w (((w.alloc (.cells cs.toArray 24)).alloc (.cells (mc M sl).toArray 32)).alloc (.cells (bv t).toArray 30)) from (((Below.refl w.heap.size w).alloc (Nat.le_refl _) _).alloc (by simp) _).alloc (by simp; omega) _)
  clear hT hf hr hc
  obtain ⟨P, hP⟩ : ∃ P, P = w.heap.size + 2 := ⟨_, rfl⟩
  obtain ⟨G, hG⟩ : ∃ G, G = w.heap.size + 1 := ⟨_, rfl⟩
  obtain ⟨D, hD⟩ : ∃ D, D = w.heap.size := ⟨_, rfl⟩
  have HDl := Lib.hid (show w.heap.size ≤ D by omega)
  go_enter Tryd.func6, Tryd.ntmps6
  go_upto_region 1 with fail
  generalize ((w.alloc (.cells cs.toArray 24)).alloc (.cells (mc M sl).toArray 32)).alloc (.cells (bv t).toArray 30) = w0 at HB HC HM HP ⊢
  (try simp only [Nat.add_assoc, Nat.reduceAdd])
  rw [← hP] at HP ⊢
  rw [← hG] at HM ⊢
  rw [← hD] at HC ⊢
  clear hD hG hP
  go_wp2_with fail
  refine (alive_any w0 (HT.out.below HB.out HT.out.size)).mono ?_
  rintro e w1 ⟨rfl, hb⟩
  replace HC := Lib.hid (HC.out.below hb HC.out.lt)
  replace HM := Lib.hid (HM.out.below hb HM.out.lt)
  replace HP := Lib.hid (HP.out.below hb HP.out.lt)
  replace HB := Lib.hid (HB.out.trans (hb.mono HB.out.size))
  clear hb
  have HG8 := Lib.hid (great8_any w1 (HCI.out.below HB.out) M sl HF.out ((HR.out.keep HB.out).more HB.out.size))
  go_wp2_with (first
    | ((with_reducible refine wpList_load_msgG (.tmp 4) ?_ ?_ G M sl ?_ HM.out HF.out ?_); rfl; rfl; rfl)
    | ((with_reducible refine wpList_load_cfg (.tmp 3) ?_ ?_ D cs ?_ HC.out HCL.out ?_); rfl; rfl; rfl))
  refine HG8.out.mono ?_
  rintro e w2 ⟨yg, rfl, hyg, hb⟩
  replace HC := Lib.hid (HC.out.below hb HC.out.lt)
  replace HM := Lib.hid (HM.out.below hb HM.out.lt)
  replace HP := Lib.hid (HP.out.below hb HP.out.lt)
  replace HB := Lib.hid (HB.out.trans (hb.mono HB.out.size))
  clear hb
  clear HG8
  cases yg with
  | true =>
    clear hyg
    go_wp2_with fail
    go_ret
    exact ⟨rfl, HB.out⟩
  | false =>
  obtain ⟨⟨C, hok⟩, hbl⟩ := hyg rfl
  have HOK := Lib.hid hok
  have HBL := Lib.hid hbl
  clear hyg hok hbl
  have HZ := Lib.hid (zero_msg w2)
  have hbx := below_setRow (below_setRow ((Below.refl w2.heap.size w2).alloc (Nat.le_refl _) (.cells zcells 32)) (Nat.le_refl w2.heap.size) (mc M sl).toArray) (Nat.le_refl w2.heap.size) (mc { M with G := t } sl).toArray
  have hx1 := HZ.out.setRow (mc M sl)
  have HX1 := Lib.hid hx1
  have hx2 := hx1.setRow (mc { M with G := t } sl)
  have HPT := Lib.hid (show ∀ (j : Nat) (v : Value), (bv t)[j]? = some v → (((w2.alloc (.cells zcells 32)).setRow w2.heap.size (mc M sl).toArray)).cell? ⟨P, 0 + j, none⟩ = some v from fun j v hj => by
    have h := (HP.out.alloc (.cells zcells 32)).setRow_other (mc M sl).toArray (Nat.ne_of_lt HP.out.lt)
    rw [Nat.zero_add, h.cell]; simpa using hj)
  have HSO := Lib.hid HR.out.one
  obtain ⟨wx, hwx⟩ : ∃ x, ((w2.alloc (.cells zcells 32)).setRow w2.heap.size (mc M sl).toArray).setRow w2.heap.size (mc { M with G := t } sl).toArray = x := ⟨_, rfl⟩
  rw [hwx] at hbx hx2
  have HWX := Lib.hid hwx
  have HX := Lib.hid hx2
  clear hwx hx1 hx2
  go_upto_region 6 with (first
    | ((with_reducible refine wpList_load_msgG (.tmp 4) ?_ ?_ G M sl ?_ HM.out HF.out ?_); rfl; rfl; rfl)
    | ((with_reducible refine wpList_store_msg (.tmp 7) (.tmp 21) ?_ ?_ w2.heap.size zeroMsg M (.slice none 0 0) sl ?_ ?_ ?_ zeroMsg_fits HF.out ?_ ?_); rfl; rfl; rfl; rfl; exact HZ.out; exact HSO.out))
  rw [zcells_lit]
  go_upto_region 7 with (first
    | ((with_reducible refine wpList_load_tag (.tmp 5) ?_ ?_ P 0 t ?_ ht HPT.out ?_); rfl; rfl; rfl)
    | ((with_reducible refine wpList_store_tagM (.tmp 23) (.tmp 22) ?_ ?_ w2.heap.size M sl t ?_ ?_ HX1.out HF.out ht ?_); rfl; rfl; rfl; rfl))
  rw [HWX.out]
  replace HC := Lib.hid (HC.out.below hbx HC.out.lt)
  replace HM := Lib.hid (HM.out.below hbx HM.out.lt)
  replace HP := Lib.hid (HP.out.below hbx HP.out.lt)
  replace HB := Lib.hid (HB.out.trans (hbx.mono HB.out.size))
  clear hbx HZ HX1 HPT HWX HSO
  generalize w2.heap.size = X at HX ⊢
  obtain ⟨K, hK⟩ : ∃ K, comm M.s vs.length C = K := ⟨_, rfl⟩
  obtain ⟨ST, hST⟩ : ∃ ST, sealT vs K M = ST := ⟨_, rfl⟩
  obtain ⟨Y, hY⟩ : ∃ Y, (spk K M).isSome = Y := ⟨_, rfl⟩
  obtain ⟨L, hL⟩ : ∃ L, (spk K M).getD [] = L := ⟨_, rfl⟩
  obtain ⟨VL, hVL⟩ : ∃ VL, votesM K M = VL := ⟨_, rfl⟩
  have HSL := Lib.hid (show ST.length = 16 by rw [← hST]; exact sealT_length vs K M)
  have HXF := Lib.hid (show ({ M with G := t } : Msg).Fits from ⟨HF.out.T, ht, HF.out.b⟩)
  have HTG := fun (W : World) (hT : Tabs W) (hc : CfgOk W cs C vs) (hr : BRow W W.heap.size sl M.l) => sealTag_any W hT hc M sl HF.out hr
  have HTX := fun (W : World) (hT : Tabs W) (hc : CfgOk W cs C vs) (hr : BRow W W.heap.size sl M.l) => sealTag_any W hT hc { M with G := t } sl HXF.out hr
  have HSP := fun (W : World) (hT : Tabs W) (hc : CfgOk W cs C vs) (hr : BRow W W.heap.size sl M.l) => speakers_any W hT hc M sl HF.out hr
  have HSX := fun (W : World) (hT : Tabs W) (hc : CfgOk W cs C vs) (hr : BRow W W.heap.size sl M.l) => speakers_any W hT hc { M with G := t } sl HXF.out hr
  have HVT := fun (W : World) (hT : Tabs W) (hc : CfgOk W cs C vs) (hr : BRow W W.heap.size sl M.l) => votes_any W hT hc M sl HF.out hr
  have HVX := fun (W : World) (hT : Tabs W) (hc : CfgOk W cs C vs) (hr : BRow W W.heap.size sl M.l) => votes_any W hT hc { M with G := t } sl HXF.out hr
  have HCX := fun (W : World) (hT : Tabs W) (hc : CfgOk W cs C vs) (hr : BRow W W.heap.size sl M.l) => check_any W hT hc { M with G := t } sl HXF.out hr
  simp only [sealT_tagless, spk_tagless, votes_tagless, sealC_tag, hK, hST, hY, hL, hVL] at HTG HTX HSP HSX HVT HVX HCX
  have HTG := Lib.hid HTG
  have HTX := Lib.hid HTX
  have HSP := Lib.hid HSP
  have HSX := Lib.hid HSX
  have HVT := Lib.hid HVT
  have HVX := Lib.hid HVX
  have HCX := Lib.hid HCX
  have HLL := Lib.hid (show L.length ≤ 100000 by
    rw [← hL]
    cases h : spk K M with
    | none => simp
    | some l => have := spk_len h (by rw [← hK]; have := comm_le M.s vs.length C; have := (HOK.out _ (HCI.out.below HB.out)).vals; omega); simpa using by omega)
  have HVV := Lib.hid (show Vots VL by
    rw [← hVL, votesM]
    intro x hx
    split at hx
    · cases hx
    · obtain ⟨i, _, rfl⟩ := List.mem_map.1 hx
      exact HF.out.T)
  have HVZ := Lib.hid (show VL.length ≤ 100000 by
    have h := HLL.out
    rw [← hVL, votesM]
    split
    · simp
    · rw [List.length_map, hL]; exact h)
  clear hK hST hY hL hVL
  go_wp2_with (first
    | ((with_reducible refine wpList_load_msgG (.tmp 4) ?_ ?_ G M sl ?_ HM.out HF.out ?_); rfl; rfl; rfl)
    | ((with_reducible refine wpList_load_cfg (.tmp 3) ?_ ?_ D cs ?_ HC.out HCL.out ?_); rfl; rfl; rfl))
  refine (HTG.out wx (HT.out.below HB.out HT.out.size) (HOK.out _ (HCI.out.below HB.out)) ((HR.out.keep HB.out).more HB.out.size)).mono ?_
  rintro e w3 ⟨rfl, hb⟩
  replace HC := Lib.hid (HC.out.below hb HC.out.lt)
  replace HM := Lib.hid (HM.out.below hb HM.out.lt)
  replace HP := Lib.hid (HP.out.below hb HP.out.lt)
  replace HX := Lib.hid (HX.out.below hb HX.out.lt)
  replace HB := Lib.hid (HB.out.trans (hb.mono HB.out.size))
  clear hb
  have hz := z16_blk w3
  have hbt := below_setRow ((Below.refl w3.heap.size w3).alloc (Nat.le_refl _) (.cells z16 30)) (Nat.le_refl w3.heap.size) (bv ST).toArray
  have HZ := Lib.hid hz
  have ht3 := hz.setRow (bv ST)
  obtain ⟨wy8, hwy8⟩ : ∃ x, (w3.alloc (.cells z16 30)).setRow w3.heap.size (bv ST).toArray = x := ⟨_, rfl⟩
  rw [hwy8] at hbt ht3
  have HWX := Lib.hid hwy8
  have HTA := Lib.hid ht3
  clear hwy8 ht3 hz
  go_upto_region 8 with ((with_reducible refine wpList_store_tag (.tmp 8) (.tmp 28) ?_ ?_ w3.heap.size (List.replicate 16 0) ST ?_ ?_ ?_ zeros16 HSL.out ?_); rfl; rfl; rfl; rfl; exact HZ.out)
  rw [z16_lit, HWX.out]
  replace HC := Lib.hid (HC.out.below hbt HC.out.lt)
  replace HM := Lib.hid (HM.out.below hbt HM.out.lt)
  replace HP := Lib.hid (HP.out.below hbt HP.out.lt)
  replace HX := Lib.hid (HX.out.below hbt HX.out.lt)
  replace HB := Lib.hid (HB.out.trans (hbt.mono HB.out.size))
  clear hbt HZ HWX
  generalize w3.heap.size = TA at HTA ⊢
  go_wp2_with (first
    | ((with_reducible refine wpList_load_msgG (.tmp 7) ?_ ?_ X ({ M with G := t } : Msg) sl ?_ HX.out HXF.out ?_); rfl; rfl; rfl)
    | ((with_reducible refine wpList_load_cfg (.tmp 3) ?_ ?_ D cs ?_ HC.out HCL.out ?_); rfl; rfl; rfl))
  refine (HTX.out wy8 (HT.out.below HB.out HT.out.size) (HOK.out _ (HCI.out.below HB.out)) ((HR.out.keep HB.out).more HB.out.size)).mono ?_
  rintro e w4 ⟨rfl, hb⟩
  replace HC := Lib.hid (HC.out.below hb HC.out.lt)
  replace HM := Lib.hid (HM.out.below hb HM.out.lt)
  replace HP := Lib.hid (HP.out.below hb HP.out.lt)
  replace HX := Lib.hid (HX.out.below hb HX.out.lt)
  replace HTA := Lib.hid (HTA.out.below hb HTA.out.lt)
  replace HB := Lib.hid (HB.out.trans (hb.mono HB.out.size))
  clear hb
  have hz := z16_blk w4
  have hbt := below_setRow ((Below.refl w4.heap.size w4).alloc (Nat.le_refl _) (.cells z16 30)) (Nat.le_refl w4.heap.size) (bv ST).toArray
  have HZ := Lib.hid hz
  have ht3 := hz.setRow (bv ST)
  obtain ⟨wy9, hwy9⟩ : ∃ x, (w4.alloc (.cells z16 30)).setRow w4.heap.size (bv ST).toArray = x := ⟨_, rfl⟩
  rw [hwy9] at hbt ht3
  have HWX := Lib.hid hwy9
  have HTB := Lib.hid ht3
  clear hwy9 ht3 hz
  go_upto_region 9 with ((with_reducible refine wpList_store_tag (.tmp 10) (.tmp 34) ?_ ?_ w4.heap.size (List.replicate 16 0) ST ?_ ?_ ?_ zeros16 HSL.out ?_); rfl; rfl; rfl; rfl; exact HZ.out)
  rw [z16_lit, HWX.out]
  replace HC := Lib.hid (HC.out.below hbt HC.out.lt)
  replace HM := Lib.hid (HM.out.below hbt HM.out.lt)
  replace HP := Lib.hid (HP.out.below hbt HP.out.lt)
  replace HX := Lib.hid (HX.out.below hbt HX.out.lt)
  replace HTA := Lib.hid (HTA.out.below hbt HTA.out.lt)
  replace HB := Lib.hid (HB.out.trans (hbt.mono HB.out.size))
  clear hbt HZ HWX
  generalize w4.heap.size = TB at HTB ⊢
  go_wp2_with (first
    | ((with_reducible refine wpList_load_msgG (.tmp 4) ?_ ?_ G M sl ?_ HM.out HF.out ?_); rfl; rfl; rfl)
    | ((with_reducible refine wpList_load_cfg (.tmp 3) ?_ ?_ D cs ?_ HC.out HCL.out ?_); rfl; rfl; rfl))
  refine (HSP.out wy9 (HT.out.below HB.out HT.out.size) (HOK.out _ (HCI.out.below HB.out)) ((HR.out.keep HB.out).more HB.out.size)).mono ?_
  rintro e w5 ⟨va, rfl, hh, hb⟩
  replace HC := Lib.hid (HC.out.below hb HC.out.lt)
  replace HM := Lib.hid (HM.out.below hb HM.out.lt)
  replace HP := Lib.hid (HP.out.below hb HP.out.lt)
  replace HX := Lib.hid (HX.out.below hb HX.out.lt)
  replace HTA := Lib.hid (HTA.out.below hb HTA.out.lt)
  replace HTB := Lib.hid (HTB.out.below hb HTB.out.lt)
  replace HB := Lib.hid (HB.out.trans (hb.mono HB.out.size))
  clear hb
  have RA := Lib.hid (show Row _ va L from hh.row)
  clear hh
  go_wp2_with (first
    | ((with_reducible refine wpList_load_msgG (.tmp 7) ?_ ?_ X ({ M with G := t } : Msg) sl ?_ HX.out HXF.out ?_); rfl; rfl; rfl)
    | ((with_reducible refine wpList_load_cfg (.tmp 3) ?_ ?_ D cs ?_ HC.out HCL.out ?_); rfl; rfl; rfl))
  refine (HSX.out w5 (HT.out.below HB.out HT.out.size) (HOK.out _ (HCI.out.below HB.out)) ((HR.out.keep HB.out).more HB.out.size)).mono ?_
  rintro e w6 ⟨vb, rfl, hh, hb⟩
  replace HC := Lib.hid (HC.out.below hb HC.out.lt)
  replace HM := Lib.hid (HM.out.below hb HM.out.lt)
  replace HP := Lib.hid (HP.out.below hb HP.out.lt)
  replace HX := Lib.hid (HX.out.below hb HX.out.lt)
  replace HTA := Lib.hid (HTA.out.below hb HTA.out.lt)
  replace HTB := Lib.hid (HTB.out.below hb HTB.out.lt)
  replace RA := Lib.hid (RA.out.keep hb)
  replace HB := Lib.hid (HB.out.trans (hb.mono HB.out.size))
  clear hb
  have RB := Lib.hid (show Row _ vb L from hh.row)
  clear hh
  go_upto_region 11 with fail
  obtain ⟨CT, hCT⟩ : ∃ CT, (t == ST) = CT := ⟨_, rfl⟩
  have HCT := Lib.hid hCT
  obtain ⟨CK, hCK⟩ : ∃ CK, (Y && (ST == t)) = CK := ⟨_, rfl⟩
  have HCK := Lib.hid hCK
  clear hCT hCK
  cases Y with
  | false =>
    refine wp_region_free (P := Tryd.prog) 44 (fun w' => Below w6.heap.size w6 w') (fun oq v w' => match oq with
        | 0 => v = .agg (bv ST).toArray
        | 1 => v = .agg (bv ST).toArray
        | 2 => v = .bool true
        | 3 => v = .bool true
        | 4 => v = .bool false
        | 5 => v = .bool false
        | 6 => v = .bool true
        | 7 => v = .bool true
        | 8 => v = .bool true
        | 9 => v = .bool false
        | 10 => v = .bool false
        | 11 => v = .bool true
        | 12 => v = .bool true
        | 13 => v = .bool true
        | 14 => v = .bool false
        | 15 => v = .bool false
        | 16 => v = .bool true
        | 17 => v = .bool true
        | 18 => v = .bool true
        | 19 => v = va
        | 20 => v = vb
        | 21 => v = .bool true
        | 22 => v = .bool true
        | 23 => v = .bool true
        | 24 => v = .agg cs.toArray
        | 25 => v = .agg (mc M sl).toArray
        | 26 => VRow w' v VL
        | 27 => v = .agg cs.toArray
        | 28 => v = .agg (mc ({ M with G := t } : Msg) sl).toArray
        | 29 => VRow w' v VL
        | 30 => v = .bool true
        | 31 => v = .bool true
        | 32 => v = .bool true
        | 33 => v = .agg cs.toArray
        | 34 => v = .agg (mc ({ M with G := t } : Msg) sl).toArray
        | 35 => v = .bool CK
        | 36 => v = .bool false
        | 37 => v = .bool false
        | 38 => v = undef
        | 39 => v = undef
        | 40 => v = undef
        | 41 => v = .bool false
        | 42 => v = .bool true
        | 43 => v = .bool true
        | _ => True) (by kernel_rfl) (by kernel_rfl) (Below.refl _ _).drew ?gb ?vb ?steps ?fin
    case gb => exact fun a b h1 h2 => h1.trans (h2.mono h1.size)
    case vb =>
      intro oq v a b h hb
      match oq with
      | 0 => exact h
      | 1 => exact h
      | 2 => exact h
      | 3 => exact h
      | 4 => exact h
      | 5 => exact h
      | 6 => exact h
      | 7 => exact h
      | 8 => exact h
      | 9 => exact h
      | 10 => exact h
      | 11 => exact h
      | 12 => exact h
      | 13 => exact h
      | 14 => exact h
      | 15 => exact h
      | 16 => exact h
      | 17 => exact h
      | 18 => exact h
      | 19 => exact h
      | 20 => exact h
      | 21 => exact h
      | 22 => exact h
      | 23 => exact h
      | 24 => exact h
      | 25 => exact h
      | 26 => exact h.keep hb
      | 27 => exact h
      | 28 => exact h
      | 29 => exact h.keep hb
      | 30 => exact h
      | 31 => exact h
      | 32 => exact h
      | 33 => exact h
      | 34 => exact h
      | 35 => exact h
      | 36 => exact h
      | 37 => exact h
      | 38 => exact h
      | 39 => exact h
      | 40 => exact h
      | 41 => exact h
      | 42 => exact h
      | 43 => exact h
      | _ + 44 => trivial
    case steps =>
      intro vals
      simp only [List.take_succ_cons, List.take_zero, freeSteps, Act.put, List.setIfInBounds_toArray, List.set_cons_zero, List.set_cons_succ, Nat.reduceAdd]
      refine ⟨fun w8 hG hW => ?_, fun w8 hG hW => ?_, fun w8 hG hW => ?_, fun w8 hG hW => ?_, fun w8 hG hW => ?_, fun w8 hG hW => ?_, fun w8 hG hW => ?_, fun w8 hG hW => ?_, fun w8 hG hW => ?_, fun w8 hG hW => ?_, fun w8 hG hW => ?_, fun w8 hG hW => ?_, fun w8 hG hW => ?_, fun w8 hG hW => ?_, fun w8 hG hW => ?_, fun w8 hG hW => ?_, fun w8 hG hW => ?_, fun w8 hG hW => ?_, fun w8 hG hW => ?_, fun w8 hG hW => ?_, fun w8 hG hW => ?_, fun w8 hG hW => ?_, fun w8 hG hW => ?_, fun w8 hG hW => ?_, fun w8 hG hW => ?_, fun w8 hG hW => ?_, fun w8 hG hW => ?_, fun w8 hG hW => ?_, fun w8 hG hW => ?_, fun w8 hG hW => ?_, fun w8 hG hW => ?_, fun w8 hG hW => ?_, fun w8 hG hW => ?_, fun w8 hG hW => ?_, fun w8 hG hW => ?_, fun w8 hG hW => ?_, fun w8 hG hW => ?_, fun w8 hG hW => ?_, fun w8 hG hW => ?_, fun w8 hG hW => ?_, fun w8 hG hW => ?_, fun w8 hG hW => ?_, fun w8 hG hW => ?_, fun w8 hG hW => ?_, trivial⟩
      · clear hW
        exact stepAt_load_cells rfl rfl rfl 30 (.tmp 8) rfl TA 0 (bv ST) rfl 16 5 (fun j v hj => by rw [Nat.zero_add]; exact ((HTA.out.below hG HTA.out.lt).cell j).trans (by simpa using hj)) Tryd.underlying30 (tag_size HSL.out) ⟨rfl, Below.refl _ _⟩
      · clear hW
        exact stepAt_load_cells rfl rfl rfl 30 (.tmp 10) rfl TB 0 (bv ST) rfl 16 5 (fun j v hj => by rw [Nat.zero_add]; exact ((HTB.out.below hG HTB.out.lt).cell j).trans (by simpa using hj)) Tryd.underlying30 (tag_size HSL.out) ⟨rfl, Below.refl _ _⟩
      · have q0 := hW 0 (by decide)
        simp only at q0
        have q1 := hW 1 (by decide)
        simp only at q1
        rw [q0, q1]
        clear hW
        refine stepAt_value rfl rfl rfl (.bool true) w8 ?_ ⟨rfl, Below.refl _ _⟩
        have hh := tag_eq w8 ST ST HSL.out HSL.out
        rw [beq_self_eq_true] at hh
        go_simp
      · have q2 := hW 2 (by decide)
        simp only at q2
        rw [q2]
        clear hW
        refine stepAt_value rfl rfl rfl (.bool true) w8 ?_ ⟨rfl, Below.refl _ _⟩
        go_simp
      · have q3 := hW 3 (by decide)
        simp only at q3
        rw [q3]
        clear hW
        refine stepAt_value rfl rfl rfl (.bool false) w8 ?_ ⟨rfl, Below.refl _ _⟩
        go_simp
      · have q3 := hW 3 (by decide)
        simp only at q3
        rw [q3]
        clear hW
        refine stepAt_value rfl rfl rfl (.bool false) w8 ?_ ⟨rfl, Below.refl _ _⟩
        go_simp
      · have q3 := hW 3 (by decide)
        simp only at q3
        have q4 := hW 4 (by decide)
        simp only at q4
        have q5 := hW 5 (by decide)
        simp only at q5
        rw [q3, q4, q5]
        clear hW
        refine stepAt_value rfl rfl rfl (.bool true) w8 ?_ ⟨rfl, Below.refl _ _⟩
        go_simp
      · have q3 := hW 3 (by decide)
        simp only at q3
        have q6 := hW 6 (by decide)
        simp only at q6
        rw [q3, q6]
        clear hW
        refine stepAt_value rfl rfl rfl (.bool true) w8 ?_ ⟨rfl, Below.refl _ _⟩
        go_simp
      · have q7 := hW 7 (by decide)
        simp only at q7
        rw [q7]
        clear hW
        refine stepAt_value rfl rfl rfl (.bool true) w8 ?_ ⟨rfl, Below.refl _ _⟩
        go_simp
      · have q8 := hW 8 (by decide)
        simp only at q8
        rw [q8]
        clear hW
        refine stepAt_value rfl rfl rfl (.bool false) w8 ?_ ⟨rfl, Below.refl _ _⟩
        go_simp
      · have q8 := hW 8 (by decide)
        simp only at q8
        rw [q8]
        clear hW
        refine stepAt_value rfl rfl rfl (.bool false) w8 ?_ ⟨rfl, Below.refl _ _⟩
        go_simp
      · have q8 := hW 8 (by decide)
        simp only at q8
        have q9 := hW 9 (by decide)
        simp only at q9
        have q10 := hW 10 (by decide)
        simp only at q10
        rw [q8, q9, q10]
        clear hW
        refine stepAt_value rfl rfl rfl (.bool true) w8 ?_ ⟨rfl, Below.refl _ _⟩
        go_simp
      · have q8 := hW 8 (by decide)
        simp only at q8
        have q11 := hW 11 (by decide)
        simp only at q11
        rw [q8, q11]
        clear hW
        refine stepAt_value rfl rfl rfl (.bool true) w8 ?_ ⟨rfl, Below.refl _ _⟩
        go_simp
      · have q12 := hW 12 (by decide)
        simp only at q12
        rw [q12]
        clear hW
        refine stepAt_value rfl rfl rfl (.bool true) w8 ?_ ⟨rfl, Below.refl _ _⟩
        go_simp
      · have q13 := hW 13 (by decide)
        simp only at q13
        rw [q13]
        clear hW
        refine stepAt_value rfl rfl rfl (.bool false) w8 ?_ ⟨rfl, Below.refl _ _⟩
        go_simp
      · have q13 := hW 13 (by decide)
        simp only at q13
        rw [q13]
        clear hW
        refine stepAt_value rfl rfl rfl (.bool false) w8 ?_ ⟨rfl, Below.refl _ _⟩
        go_simp
      · have q13 := hW 13 (by decide)
        simp only at q13
        have q14 := hW 14 (by decide)
        simp only at q14
        have q15 := hW 15 (by decide)
        simp only at q15
        rw [q13, q14, q15]
        clear hW
        refine stepAt_value rfl rfl rfl (.bool true) w8 ?_ ⟨rfl, Below.refl _ _⟩
        go_simp
      · have q13 := hW 13 (by decide)
        simp only at q13
        have q16 := hW 16 (by decide)
        simp only at q16
        rw [q13, q16]
        clear hW
        refine stepAt_value rfl rfl rfl (.bool true) w8 ?_ ⟨rfl, Below.refl _ _⟩
        go_simp
      · have q17 := hW 17 (by decide)
        simp only at q17
        rw [q17]
        clear hW
        refine stepAt_value rfl rfl rfl (.bool true) w8 ?_ ⟨rfl, Below.refl _ _⟩
        go_simp
      · have q18 := hW 18 (by decide)
        simp only at q18
        rw [q18]
        clear hW
        refine stepAt_value rfl rfl rfl (va) w8 ?_ ⟨rfl, Below.refl _ _⟩
        go_simp
      · have q18 := hW 18 (by decide)
        simp only at q18
        rw [q18]
        clear hW
        refine stepAt_value rfl rfl rfl (vb) w8 ?_ ⟨rfl, Below.refl _ _⟩
        go_simp
      · have q18 := hW 18 (by decide)
        simp only at q18
        have q19 := hW 19 (by decide)
        simp only at q19
        have q20 := hW 20 (by decide)
        simp only at q20
        rw [q18, q19, q20]
        clear hW
        refine stepAt_call rfl rfl rfl 15 #[va, vb] (by go_simp) ((same_row (RA.out.keep hG) (RB.out.keep hG) HLL.out).mono fun e w' ⟨h1, h2⟩ => ⟨_, h1, by simp, h2⟩)
      · have q18 := hW 18 (by decide)
        simp only at q18
        have q21 := hW 21 (by decide)
        simp only at q21
        rw [q18, q21]
        clear hW
        refine stepAt_value rfl rfl rfl (.bool true) w8 ?_ ⟨rfl, Below.refl _ _⟩
        go_simp
      · have q22 := hW 22 (by decide)
        simp only at q22
        rw [q22]
        clear hW
        refine stepAt_value rfl rfl rfl (.bool true) w8 ?_ ⟨rfl, Below.refl _ _⟩
        go_simp
      · have q23 := hW 23 (by decide)
        simp only at q23
        rw [q23]
        clear hW
        exact stepAt_load_cfg rfl rfl rfl (.tmp 3) rfl D cs rfl (HC.out.below hG HC.out.lt) HCL.out ⟨rfl, Below.refl _ _⟩
      · have q23 := hW 23 (by decide)
        simp only at q23
        rw [q23]
        clear hW
        exact stepAt_load_msg rfl rfl rfl (.tmp 4) rfl G M sl rfl (HM.out.below hG HM.out.lt) HF.out ⟨rfl, Below.refl _ _⟩
      · have q23 := hW 23 (by decide)
        simp only at q23
        have q24 := hW 24 (by decide)
        simp only at q24
        have q25 := hW 25 (by decide)
        simp only at q25
        rw [q23, q24, q25]
        clear hW
        refine stepAt_call rfl rfl rfl 19 #[.agg cs.toArray, .agg (mc M sl).toArray] (by go_simp) ((HVT.out w8 (HT.out.below (HB.out.trans (hG.mono HB.out.size)) HT.out.size) (HOK.out _ (HCI.out.below (HB.out.trans (hG.mono HB.out.size)))) ((HR.out.keep (HB.out.trans (hG.mono HB.out.size))).more (HB.out.trans (hG.mono HB.out.size)).size)).mono fun e w' ⟨v, h1, h2, h3⟩ => ⟨_, h1, h2.vrow HVV.out, h3⟩)
      · have q23 := hW 23 (by decide)
        simp only at q23
        rw [q23]
        clear hW
        exact stepAt_load_cfg rfl rfl rfl (.tmp 3) rfl D cs rfl (HC.out.below hG HC.out.lt) HCL.out ⟨rfl, Below.refl _ _⟩
      · have q23 := hW 23 (by decide)
        simp only at q23
        rw [q23]
        clear hW
        exact stepAt_load_msg rfl rfl rfl (.tmp 7) rfl X { M with G := t } sl rfl (HX.out.below hG HX.out.lt) HXF.out ⟨rfl, Below.refl _ _⟩
      · have q23 := hW 23 (by decide)
        simp only at q23
        have q27 := hW 27 (by decide)
        simp only at q27
        have q28 := hW 28 (by decide)
        simp only at q28
        rw [q23, q27, q28]
        clear hW
        refine stepAt_call rfl rfl rfl 19 #[.agg cs.toArray, .agg (mc ({ M with G := t } : Msg) sl).toArray] (by go_simp) ((HVX.out w8 (HT.out.below (HB.out.trans (hG.mono HB.out.size)) HT.out.size) (HOK.out _ (HCI.out.below (HB.out.trans (hG.mono HB.out.size)))) ((HR.out.keep (HB.out.trans (hG.mono HB.out.size))).more (HB.out.trans (hG.mono HB.out.size)).size)).mono fun e w' ⟨v, h1, h2, h3⟩ => ⟨_, h1, h2.vrow HVV.out, h3⟩)
      · have h26 : VRow w8 (vals 26) VL := hW 26 (by decide)
        have h29 : VRow w8 (vals 29) VL := hW 29 (by decide)
        have q23 := hW 23 (by decide)
        simp only at q23
        rw [q23]
        clear hW
        refine stepAt_call rfl rfl rfl 18 #[vals 26, vals 29] (by go_simp) ((vsame_row h26 h29 HVZ.out).mono fun e w' ⟨h1, h2⟩ => ⟨_, h1, by simp, h2⟩)
      · have q23 := hW 23 (by decide)
        simp only at q23
        have q30 := hW 30 (by decide)
        simp only at q30
        rw [q23, q30]
        clear hW
        refine stepAt_value rfl rfl rfl (.bool true) w8 ?_ ⟨rfl, Below.refl _ _⟩
        go_simp
      · have q31 := hW 31 (by decide)
        simp only at q31
        rw [q31]
        clear hW
        refine stepAt_value rfl rfl rfl (.bool true) w8 ?_ ⟨rfl, Below.refl _ _⟩
        go_simp
      · have q32 := hW 32 (by decide)
        simp only at q32
        rw [q32]
        clear hW
        exact stepAt_load_cfg rfl rfl rfl (.tmp 3) rfl D cs rfl (HC.out.below hG HC.out.lt) HCL.out ⟨rfl, Below.refl _ _⟩
      · have q32 := hW 32 (by decide)
        simp only at q32
        rw [q32]
        clear hW
        exact stepAt_load_msg rfl rfl rfl (.tmp 7) rfl X { M with G := t } sl rfl (HX.out.below hG HX.out.lt) HXF.out ⟨rfl, Below.refl _ _⟩
      · have q32 := hW 32 (by decide)
        simp only at q32
        have q33 := hW 33 (by decide)
        simp only at q33
        have q34 := hW 34 (by decide)
        simp only at q34
        rw [q32, q33, q34]
        clear hW
        refine stepAt_call rfl rfl rfl 16 #[.agg cs.toArray, .agg (mc ({ M with G := t } : Msg) sl).toArray] (by go_simp) ((HCX.out w8 (HT.out.below (HB.out.trans (hG.mono HB.out.size)) HT.out.size) (HOK.out _ (HCI.out.below (HB.out.trans (hG.mono HB.out.size)))) ((HR.out.keep (HB.out.trans (hG.mono HB.out.size))).more (HB.out.trans (hG.mono HB.out.size)).size)).mono fun e w' ⟨h1, h2⟩ => ⟨_, h1, by rw [HCK.out], h2⟩)
      · have q32 := hW 32 (by decide)
        simp only at q32
        rw [q32]
        clear hW
        refine stepAt_value rfl rfl rfl (.bool false) w8 ?_ ⟨rfl, Below.refl _ _⟩
        go_simp
      · have q32 := hW 32 (by decide)
        simp only at q32
        have q36 := hW 36 (by decide)
        simp only at q36
        rw [q32, q36]
        clear hW
        refine stepAt_value rfl rfl rfl (.bool false) w8 ?_ ⟨rfl, Below.refl _ _⟩
        go_simp
      · have q37 := hW 37 (by decide)
        simp only at q37
        rw [q37]
        clear hW
        exact stepAt_skip rfl rfl rfl ⟨rfl, Below.refl _ _⟩
      · have q37 := hW 37 (by decide)
        simp only at q37
        rw [q37]
        clear hW
        exact stepAt_skip rfl rfl rfl ⟨rfl, Below.refl _ _⟩
      · have q37 := hW 37 (by decide)
        simp only at q37
        rw [q37]
        clear hW
        exact stepAt_skip rfl rfl rfl ⟨rfl, Below.refl _ _⟩
      · have q32 := hW 32 (by decide)
        simp only at q32
        have q37 := hW 37 (by decide)
        simp only at q37
        have q40 := hW 40 (by decide)
        simp only at q40
        rw [q32, q37, q40]
        clear hW
        refine stepAt_value rfl rfl rfl (.bool false) w8 ?_ ⟨rfl, Below.refl _ _⟩
        go_simp
      · have q32 := hW 32 (by decide)
        simp only at q32
        have q35 := hW 35 (by decide)
        simp only at q35
        have q41 := hW 41 (by decide)
        simp only at q41
        rw [q32, q35, q41]
        clear hW
        refine stepAt_value rfl rfl rfl (.bool true) w8 ?_ ⟨rfl, Below.refl _ _⟩
        have hh : (CK == false) = true := by rw [← HCK.out]; rfl
        go_simp
      · have q32 := hW 32 (by decide)
        simp only at q32
        have q42 := hW 42 (by decide)
        simp only at q42
        rw [q32, q42]
        clear hW
        refine stepAt_value rfl rfl rfl (.bool true) w8 ?_ ⟨rfl, Below.refl _ _⟩
        go_simp
    case fin =>
      intro vals w8 hG hV
      have q43 : vals 43 = .bool true := hV 43 (by omega)
      simp only [List.take_succ_cons, List.take_zero, List.drop_succ_cons, List.drop_zero, putAll, Act.put, List.setIfInBounds_toArray, List.set_cons_zero, List.set_cons_succ, Nat.reduceAdd]
      rw [q43]
      clear hV q43
      generalize vals 0 = x0
      generalize vals 1 = x1
      generalize vals 2 = x2
      generalize vals 3 = x3
      generalize vals 4 = x4
      generalize vals 5 = x5
      generalize vals 6 = x6
      generalize vals 7 = x7
      generalize vals 8 = x8
      generalize vals 9 = x9
      generalize vals 10 = x10
      generalize vals 11 = x11
      generalize vals 12 = x12
      generalize vals 13 = x13
      generalize vals 14 = x14
      generalize vals 15 = x15
      generalize vals 16 = x16
      generalize vals 17 = x17
      generalize vals 18 = x18
      generalize vals 19 = x19
      generalize vals 20 = x20
      generalize vals 21 = x21
      generalize vals 22 = x22
      generalize vals 23 = x23
      generalize vals 24 = x24
      generalize vals 25 = x25
      generalize vals 26 = x26
      generalize vals 27 = x27
      generalize vals 28 = x28
      generalize vals 29 = x29
      generalize vals 30 = x30
      generalize vals 31 = x31
      generalize vals 32 = x32
      generalize vals 33 = x33
      generalize vals 34 = x34
      generalize vals 35 = x35
      generalize vals 36 = x36
      generalize vals 37 = x37
      generalize vals 38 = x38
      generalize vals 39 = x39
      generalize vals 40 = x40
      generalize vals 41 = x41
      generalize vals 42 = x42
      have HBF := Lib.hid (HB.out.trans (hG.mono HB.out.size))
      clear hG
      go_wp2_with fail
      go_ret
      exact ⟨rfl, HBF.out⟩
  | true =>
    refine wp_region_free (P := Tryd.prog) 44 (fun w' => Below w6.heap.size w6 w') (fun oq v w' => match oq with
        | 0 => v = .agg (bv ST).toArray
        | 1 => v = .agg (bv ST).toArray
        | 2 => v = .bool true
        | 3 => v = .bool true
        | 4 => v = .bool true
        | 5 => v = .bool true
        | 6 => v = .bool true
        | 7 => v = .bool true
        | 8 => v = .bool true
        | 9 => v = .bool true
        | 10 => v = .bool true
        | 11 => v = .bool true
        | 12 => v = .bool true
        | 13 => v = .bool true
        | 14 => v = .bool true
        | 15 => v = .bool true
        | 16 => v = .bool true
        | 17 => v = .bool true
        | 18 => v = .bool true
        | 19 => v = va
        | 20 => v = vb
        | 21 => v = .bool true
        | 22 => v = .bool true
        | 23 => v = .bool true
        | 24 => v = .agg cs.toArray
        | 25 => v = .agg (mc M sl).toArray
        | 26 => VRow w' v VL
        | 27 => v = .agg cs.toArray
        | 28 => v = .agg (mc ({ M with G := t } : Msg) sl).toArray
        | 29 => VRow w' v VL
        | 30 => v = .bool true
        | 31 => v = .bool true
        | 32 => v = .bool true
        | 33 => v = .agg cs.toArray
        | 34 => v = .agg (mc ({ M with G := t } : Msg) sl).toArray
        | 35 => v = .bool CK
        | 36 => v = .bool true
        | 37 => v = .bool true
        | 38 => v = .agg (bv t).toArray
        | 39 => v = .agg (bv ST).toArray
        | 40 => v = .bool CT
        | 41 => v = .bool CT
        | 42 => v = .bool true
        | 43 => v = .bool true
        | _ => True) (by kernel_rfl) (by kernel_rfl) (Below.refl _ _).drew ?gb ?vb ?steps ?fin
    case gb => exact fun a b h1 h2 => h1.trans (h2.mono h1.size)
    case vb =>
      intro oq v a b h hb
      match oq with
      | 0 => exact h
      | 1 => exact h
      | 2 => exact h
      | 3 => exact h
      | 4 => exact h
      | 5 => exact h
      | 6 => exact h
      | 7 => exact h
      | 8 => exact h
      | 9 => exact h
      | 10 => exact h
      | 11 => exact h
      | 12 => exact h
      | 13 => exact h
      | 14 => exact h
      | 15 => exact h
      | 16 => exact h
      | 17 => exact h
      | 18 => exact h
      | 19 => exact h
      | 20 => exact h
      | 21 => exact h
      | 22 => exact h
      | 23 => exact h
      | 24 => exact h
      | 25 => exact h
      | 26 => exact h.keep hb
      | 27 => exact h
      | 28 => exact h
      | 29 => exact h.keep hb
      | 30 => exact h
      | 31 => exact h
      | 32 => exact h
      | 33 => exact h
      | 34 => exact h
      | 35 => exact h
      | 36 => exact h
      | 37 => exact h
      | 38 => exact h
      | 39 => exact h
      | 40 => exact h
      | 41 => exact h
      | 42 => exact h
      | 43 => exact h
      | _ + 44 => trivial
    case steps =>
      intro vals
      simp only [List.take_succ_cons, List.take_zero, freeSteps, Act.put, List.setIfInBounds_toArray, List.set_cons_zero, List.set_cons_succ, Nat.reduceAdd]
      refine ⟨fun w8 hG hW => ?_, fun w8 hG hW => ?_, fun w8 hG hW => ?_, fun w8 hG hW => ?_, fun w8 hG hW => ?_, fun w8 hG hW => ?_, fun w8 hG hW => ?_, fun w8 hG hW => ?_, fun w8 hG hW => ?_, fun w8 hG hW => ?_, fun w8 hG hW => ?_, fun w8 hG hW => ?_, fun w8 hG hW => ?_, fun w8 hG hW => ?_, fun w8 hG hW => ?_, fun w8 hG hW => ?_, fun w8 hG hW => ?_, fun w8 hG hW => ?_, fun w8 hG hW => ?_, fun w8 hG hW => ?_, fun w8 hG hW => ?_, fun w8 hG hW => ?_, fun w8 hG hW => ?_, fun w8 hG hW => ?_, fun w8 hG hW => ?_, fun w8 hG hW => ?_, fun w8 hG hW => ?_, fun w8 hG hW => ?_, fun w8 hG hW => ?_, fun w8 hG hW => ?_, fun w8 hG hW => ?_, fun w8 hG hW => ?_, fun w8 hG hW => ?_, fun w8 hG hW => ?_, fun w8 hG hW => ?_, fun w8 hG hW => ?_, fun w8 hG hW => ?_, fun w8 hG hW => ?_, fun w8 hG hW => ?_, fun w8 hG hW => ?_, fun w8 hG hW => ?_, fun w8 hG hW => ?_, fun w8 hG hW => ?_, fun w8 hG hW => ?_, trivial⟩
      · clear hW
        exact stepAt_load_cells rfl rfl rfl 30 (.tmp 8) rfl TA 0 (bv ST) rfl 16 5 (fun j v hj => by rw [Nat.zero_add]; exact ((HTA.out.below hG HTA.out.lt).cell j).trans (by simpa using hj)) Tryd.underlying30 (tag_size HSL.out) ⟨rfl, Below.refl _ _⟩
      · clear hW
        exact stepAt_load_cells rfl rfl rfl 30 (.tmp 10) rfl TB 0 (bv ST) rfl 16 5 (fun j v hj => by rw [Nat.zero_add]; exact ((HTB.out.below hG HTB.out.lt).cell j).trans (by simpa using hj)) Tryd.underlying30 (tag_size HSL.out) ⟨rfl, Below.refl _ _⟩
      · have q0 := hW 0 (by decide)
        simp only at q0
        have q1 := hW 1 (by decide)
        simp only at q1
        rw [q0, q1]
        clear hW
        refine stepAt_value rfl rfl rfl (.bool true) w8 ?_ ⟨rfl, Below.refl _ _⟩
        have hh := tag_eq w8 ST ST HSL.out HSL.out
        rw [beq_self_eq_true] at hh
        go_simp
      · have q2 := hW 2 (by decide)
        simp only at q2
        rw [q2]
        clear hW
        refine stepAt_value rfl rfl rfl (.bool true) w8 ?_ ⟨rfl, Below.refl _ _⟩
        go_simp
      · have q3 := hW 3 (by decide)
        simp only at q3
        rw [q3]
        clear hW
        refine stepAt_value rfl rfl rfl (.bool true) w8 ?_ ⟨rfl, Below.refl _ _⟩
        go_simp
      · have q3 := hW 3 (by decide)
        simp only at q3
        rw [q3]
        clear hW
        refine stepAt_value rfl rfl rfl (.bool true) w8 ?_ ⟨rfl, Below.refl _ _⟩
        go_simp
      · have q3 := hW 3 (by decide)
        simp only at q3
        have q4 := hW 4 (by decide)
        simp only at q4
        have q5 := hW 5 (by decide)
        simp only at q5
        rw [q3, q4, q5]
        clear hW
        refine stepAt_value rfl rfl rfl (.bool true) w8 ?_ ⟨rfl, Below.refl _ _⟩
        go_simp
      · have q3 := hW 3 (by decide)
        simp only at q3
        have q6 := hW 6 (by decide)
        simp only at q6
        rw [q3, q6]
        clear hW
        refine stepAt_value rfl rfl rfl (.bool true) w8 ?_ ⟨rfl, Below.refl _ _⟩
        go_simp
      · have q7 := hW 7 (by decide)
        simp only at q7
        rw [q7]
        clear hW
        refine stepAt_value rfl rfl rfl (.bool true) w8 ?_ ⟨rfl, Below.refl _ _⟩
        go_simp
      · have q8 := hW 8 (by decide)
        simp only at q8
        rw [q8]
        clear hW
        refine stepAt_value rfl rfl rfl (.bool true) w8 ?_ ⟨rfl, Below.refl _ _⟩
        go_simp
      · have q8 := hW 8 (by decide)
        simp only at q8
        rw [q8]
        clear hW
        refine stepAt_value rfl rfl rfl (.bool true) w8 ?_ ⟨rfl, Below.refl _ _⟩
        go_simp
      · have q8 := hW 8 (by decide)
        simp only at q8
        have q9 := hW 9 (by decide)
        simp only at q9
        have q10 := hW 10 (by decide)
        simp only at q10
        rw [q8, q9, q10]
        clear hW
        refine stepAt_value rfl rfl rfl (.bool true) w8 ?_ ⟨rfl, Below.refl _ _⟩
        go_simp
      · have q8 := hW 8 (by decide)
        simp only at q8
        have q11 := hW 11 (by decide)
        simp only at q11
        rw [q8, q11]
        clear hW
        refine stepAt_value rfl rfl rfl (.bool true) w8 ?_ ⟨rfl, Below.refl _ _⟩
        go_simp
      · have q12 := hW 12 (by decide)
        simp only at q12
        rw [q12]
        clear hW
        refine stepAt_value rfl rfl rfl (.bool true) w8 ?_ ⟨rfl, Below.refl _ _⟩
        go_simp
      · have q13 := hW 13 (by decide)
        simp only at q13
        rw [q13]
        clear hW
        refine stepAt_value rfl rfl rfl (.bool true) w8 ?_ ⟨rfl, Below.refl _ _⟩
        go_simp
      · have q13 := hW 13 (by decide)
        simp only at q13
        rw [q13]
        clear hW
        refine stepAt_value rfl rfl rfl (.bool true) w8 ?_ ⟨rfl, Below.refl _ _⟩
        go_simp
      · have q13 := hW 13 (by decide)
        simp only at q13
        have q14 := hW 14 (by decide)
        simp only at q14
        have q15 := hW 15 (by decide)
        simp only at q15
        rw [q13, q14, q15]
        clear hW
        refine stepAt_value rfl rfl rfl (.bool true) w8 ?_ ⟨rfl, Below.refl _ _⟩
        go_simp
      · have q13 := hW 13 (by decide)
        simp only at q13
        have q16 := hW 16 (by decide)
        simp only at q16
        rw [q13, q16]
        clear hW
        refine stepAt_value rfl rfl rfl (.bool true) w8 ?_ ⟨rfl, Below.refl _ _⟩
        go_simp
      · have q17 := hW 17 (by decide)
        simp only at q17
        rw [q17]
        clear hW
        refine stepAt_value rfl rfl rfl (.bool true) w8 ?_ ⟨rfl, Below.refl _ _⟩
        go_simp
      · have q18 := hW 18 (by decide)
        simp only at q18
        rw [q18]
        clear hW
        refine stepAt_value rfl rfl rfl (va) w8 ?_ ⟨rfl, Below.refl _ _⟩
        go_simp
      · have q18 := hW 18 (by decide)
        simp only at q18
        rw [q18]
        clear hW
        refine stepAt_value rfl rfl rfl (vb) w8 ?_ ⟨rfl, Below.refl _ _⟩
        go_simp
      · have q18 := hW 18 (by decide)
        simp only at q18
        have q19 := hW 19 (by decide)
        simp only at q19
        have q20 := hW 20 (by decide)
        simp only at q20
        rw [q18, q19, q20]
        clear hW
        refine stepAt_call rfl rfl rfl 15 #[va, vb] (by go_simp) ((same_row (RA.out.keep hG) (RB.out.keep hG) HLL.out).mono fun e w' ⟨h1, h2⟩ => ⟨_, h1, by simp, h2⟩)
      · have q18 := hW 18 (by decide)
        simp only at q18
        have q21 := hW 21 (by decide)
        simp only at q21
        rw [q18, q21]
        clear hW
        refine stepAt_value rfl rfl rfl (.bool true) w8 ?_ ⟨rfl, Below.refl _ _⟩
        go_simp
      · have q22 := hW 22 (by decide)
        simp only at q22
        rw [q22]
        clear hW
        refine stepAt_value rfl rfl rfl (.bool true) w8 ?_ ⟨rfl, Below.refl _ _⟩
        go_simp
      · have q23 := hW 23 (by decide)
        simp only at q23
        rw [q23]
        clear hW
        exact stepAt_load_cfg rfl rfl rfl (.tmp 3) rfl D cs rfl (HC.out.below hG HC.out.lt) HCL.out ⟨rfl, Below.refl _ _⟩
      · have q23 := hW 23 (by decide)
        simp only at q23
        rw [q23]
        clear hW
        exact stepAt_load_msg rfl rfl rfl (.tmp 4) rfl G M sl rfl (HM.out.below hG HM.out.lt) HF.out ⟨rfl, Below.refl _ _⟩
      · have q23 := hW 23 (by decide)
        simp only at q23
        have q24 := hW 24 (by decide)
        simp only at q24
        have q25 := hW 25 (by decide)
        simp only at q25
        rw [q23, q24, q25]
        clear hW
        refine stepAt_call rfl rfl rfl 19 #[.agg cs.toArray, .agg (mc M sl).toArray] (by go_simp) ((HVT.out w8 (HT.out.below (HB.out.trans (hG.mono HB.out.size)) HT.out.size) (HOK.out _ (HCI.out.below (HB.out.trans (hG.mono HB.out.size)))) ((HR.out.keep (HB.out.trans (hG.mono HB.out.size))).more (HB.out.trans (hG.mono HB.out.size)).size)).mono fun e w' ⟨v, h1, h2, h3⟩ => ⟨_, h1, h2.vrow HVV.out, h3⟩)
      · have q23 := hW 23 (by decide)
        simp only at q23
        rw [q23]
        clear hW
        exact stepAt_load_cfg rfl rfl rfl (.tmp 3) rfl D cs rfl (HC.out.below hG HC.out.lt) HCL.out ⟨rfl, Below.refl _ _⟩
      · have q23 := hW 23 (by decide)
        simp only at q23
        rw [q23]
        clear hW
        exact stepAt_load_msg rfl rfl rfl (.tmp 7) rfl X { M with G := t } sl rfl (HX.out.below hG HX.out.lt) HXF.out ⟨rfl, Below.refl _ _⟩
      · have q23 := hW 23 (by decide)
        simp only at q23
        have q27 := hW 27 (by decide)
        simp only at q27
        have q28 := hW 28 (by decide)
        simp only at q28
        rw [q23, q27, q28]
        clear hW
        refine stepAt_call rfl rfl rfl 19 #[.agg cs.toArray, .agg (mc ({ M with G := t } : Msg) sl).toArray] (by go_simp) ((HVX.out w8 (HT.out.below (HB.out.trans (hG.mono HB.out.size)) HT.out.size) (HOK.out _ (HCI.out.below (HB.out.trans (hG.mono HB.out.size)))) ((HR.out.keep (HB.out.trans (hG.mono HB.out.size))).more (HB.out.trans (hG.mono HB.out.size)).size)).mono fun e w' ⟨v, h1, h2, h3⟩ => ⟨_, h1, h2.vrow HVV.out, h3⟩)
      · have h26 : VRow w8 (vals 26) VL := hW 26 (by decide)
        have h29 : VRow w8 (vals 29) VL := hW 29 (by decide)
        have q23 := hW 23 (by decide)
        simp only at q23
        rw [q23]
        clear hW
        refine stepAt_call rfl rfl rfl 18 #[vals 26, vals 29] (by go_simp) ((vsame_row h26 h29 HVZ.out).mono fun e w' ⟨h1, h2⟩ => ⟨_, h1, by simp, h2⟩)
      · have q23 := hW 23 (by decide)
        simp only at q23
        have q30 := hW 30 (by decide)
        simp only at q30
        rw [q23, q30]
        clear hW
        refine stepAt_value rfl rfl rfl (.bool true) w8 ?_ ⟨rfl, Below.refl _ _⟩
        go_simp
      · have q31 := hW 31 (by decide)
        simp only at q31
        rw [q31]
        clear hW
        refine stepAt_value rfl rfl rfl (.bool true) w8 ?_ ⟨rfl, Below.refl _ _⟩
        go_simp
      · have q32 := hW 32 (by decide)
        simp only at q32
        rw [q32]
        clear hW
        exact stepAt_load_cfg rfl rfl rfl (.tmp 3) rfl D cs rfl (HC.out.below hG HC.out.lt) HCL.out ⟨rfl, Below.refl _ _⟩
      · have q32 := hW 32 (by decide)
        simp only at q32
        rw [q32]
        clear hW
        exact stepAt_load_msg rfl rfl rfl (.tmp 7) rfl X { M with G := t } sl rfl (HX.out.below hG HX.out.lt) HXF.out ⟨rfl, Below.refl _ _⟩
      · have q32 := hW 32 (by decide)
        simp only at q32
        have q33 := hW 33 (by decide)
        simp only at q33
        have q34 := hW 34 (by decide)
        simp only at q34
        rw [q32, q33, q34]
        clear hW
        refine stepAt_call rfl rfl rfl 16 #[.agg cs.toArray, .agg (mc ({ M with G := t } : Msg) sl).toArray] (by go_simp) ((HCX.out w8 (HT.out.below (HB.out.trans (hG.mono HB.out.size)) HT.out.size) (HOK.out _ (HCI.out.below (HB.out.trans (hG.mono HB.out.size)))) ((HR.out.keep (HB.out.trans (hG.mono HB.out.size))).more (HB.out.trans (hG.mono HB.out.size)).size)).mono fun e w' ⟨h1, h2⟩ => ⟨_, h1, by rw [HCK.out], h2⟩)
      · have q32 := hW 32 (by decide)
        simp only at q32
        rw [q32]
        clear hW
        refine stepAt_value rfl rfl rfl (.bool true) w8 ?_ ⟨rfl, Below.refl _ _⟩
        go_simp
      · have q32 := hW 32 (by decide)
        simp only at q32
        have q36 := hW 36 (by decide)
        simp only at q36
        rw [q32, q36]
        clear hW
        refine stepAt_value rfl rfl rfl (.bool true) w8 ?_ ⟨rfl, Below.refl _ _⟩
        go_simp
      · have q37 := hW 37 (by decide)
        simp only at q37
        rw [q37]
        clear hW
        exact stepAt_load_cells rfl rfl rfl 30 (.tmp 5) rfl P 0 (bv t) rfl 16 5 (fun j v hj => by rw [Nat.zero_add]; exact ((HP.out.below hG HP.out.lt).cell j).trans (by simpa using hj)) Tryd.underlying30 (tag_size ht) ⟨rfl, Below.refl _ _⟩
      · have q37 := hW 37 (by decide)
        simp only at q37
        rw [q37]
        clear hW
        exact stepAt_load_cells rfl rfl rfl 30 (.tmp 8) rfl TA 0 (bv ST) rfl 16 5 (fun j v hj => by rw [Nat.zero_add]; exact ((HTA.out.below hG HTA.out.lt).cell j).trans (by simpa using hj)) Tryd.underlying30 (tag_size HSL.out) ⟨rfl, Below.refl _ _⟩
      · have q37 := hW 37 (by decide)
        simp only at q37
        have q38 := hW 38 (by decide)
        simp only at q38
        have q39 := hW 39 (by decide)
        simp only at q39
        rw [q37, q38, q39]
        clear hW
        refine stepAt_value rfl rfl rfl (.bool CT) w8 ?_ ⟨rfl, Below.refl _ _⟩
        have hh := tag_eq w8 t ST ht HSL.out
        rw [HCT.out] at hh
        go_simp
      · have q32 := hW 32 (by decide)
        simp only at q32
        have q37 := hW 37 (by decide)
        simp only at q37
        have q40 := hW 40 (by decide)
        simp only at q40
        rw [q32, q37, q40]
        clear hW
        refine stepAt_value rfl rfl rfl (.bool CT) w8 ?_ ⟨rfl, Below.refl _ _⟩
        go_simp
      · have q32 := hW 32 (by decide)
        simp only at q32
        have q35 := hW 35 (by decide)
        simp only at q35
        have q41 := hW 41 (by decide)
        simp only at q41
        rw [q32, q35, q41]
        clear hW
        refine stepAt_value rfl rfl rfl (.bool true) w8 ?_ ⟨rfl, Below.refl _ _⟩
        have hh : (CK == CT) = true := by rw [← HCK.out]; rw [← HCT.out, Bool.true_and, bytes_comm ST t, beq_self_eq_true]
        go_simp
      · have q32 := hW 32 (by decide)
        simp only at q32
        have q42 := hW 42 (by decide)
        simp only at q42
        rw [q32, q42]
        clear hW
        refine stepAt_value rfl rfl rfl (.bool true) w8 ?_ ⟨rfl, Below.refl _ _⟩
        go_simp
    case fin =>
      intro vals w8 hG hV
      have q43 : vals 43 = .bool true := hV 43 (by omega)
      simp only [List.take_succ_cons, List.take_zero, List.drop_succ_cons, List.drop_zero, putAll, Act.put, List.setIfInBounds_toArray, List.set_cons_zero, List.set_cons_succ, Nat.reduceAdd]
      rw [q43]
      clear hV q43
      generalize vals 0 = x0
      generalize vals 1 = x1
      generalize vals 2 = x2
      generalize vals 3 = x3
      generalize vals 4 = x4
      generalize vals 5 = x5
      generalize vals 6 = x6
      generalize vals 7 = x7
      generalize vals 8 = x8
      generalize vals 9 = x9
      generalize vals 10 = x10
      generalize vals 11 = x11
      generalize vals 12 = x12
      generalize vals 13 = x13
      generalize vals 14 = x14
      generalize vals 15 = x15
      generalize vals 16 = x16
      generalize vals 17 = x17
      generalize vals 18 = x18
      generalize vals 19 = x19
      generalize vals 20 = x20
      generalize vals 21 = x21
      generalize vals 22 = x22
      generalize vals 23 = x23
      generalize vals 24 = x24
      generalize vals 25 = x25
      generalize vals 26 = x26
      generalize vals 27 = x27
      generalize vals 28 = x28
      generalize vals 29 = x29
      generalize vals 30 = x30
      generalize vals 31 = x31
      generalize vals 32 = x32
      generalize vals 33 = x33
      generalize vals 34 = x34
      generalize vals 35 = x35
      generalize vals 36 = x36
      generalize vals 37 = x37
      generalize vals 38 = x38
      generalize vals 39 = x39
      generalize vals 40 = x40
      generalize vals 41 = x41
      generalize vals 42 = x42
      have HBF := Lib.hid (HB.out.trans (hG.mono HB.out.size))
      clear hG
      go_wp2_with fail
      go_ret
      exact ⟨rfl, HBF.out⟩
end Go.Proofs.YtnbdpalbompjlaaDoor
