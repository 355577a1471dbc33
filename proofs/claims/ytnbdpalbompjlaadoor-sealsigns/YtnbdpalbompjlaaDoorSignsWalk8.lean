/-
  The walk of SealSigns.
-/
import Derived.Test.YtnbdpalbompjlaaDoorM22
import Derived.Test.YtnbdpalbompjlaaDoorM19
import Derived.Test.YtnbdpalbompjlaaDoorWSame
namespace Go.Proofs.YtnbdpalbompjlaaDoor
open Go.RowKit
set_option maxRecDepth 100000

theorem xor_same {l : List UInt8} {k : Nat} {c : UInt8} (h : l[k]? = some c) (β : UInt8) : (l == l.set k (c ^^^ β)) = (β == 0) := by
  have hk := (List.getElem?_eq_some_iff.1 h).1
  rw [Bool.eq_iff_iff, beq_iff_eq, beq_iff_eq]
  constructor
  · intro e
    have h2 := congrArg (fun x => x[k]?) e
    simp only [List.getElem?_set_self hk, h, Option.some.injEq] at h2
    have h3 : c ^^^ c = c ^^^ (c ^^^ β) := by rw [← h2]
    rw [← UInt8.xor_assoc, UInt8.xor_self, UInt8.zero_xor] at h3
    exact h3.symm
  · intro e
    subst e
    rw [UInt8.xor_zero]
    apply List.ext_getElem?
    intro i
    by_cases hi : k = i
    · subst hi; rw [List.getElem?_set_self hk, h]
    · rw [List.getElem?_set_ne hi]
theorem byte_zero (β : UInt8) : ((β.toNat : Int) == 0) = (β == 0) := by
  rw [Bool.eq_iff_iff, beq_iff_eq, beq_iff_eq, ← UInt8.toNat_inj]
  simp
theorem msgSame_self (M : Msg) : msgSame M M = true := by simp [msgSame]

set_option maxHeartbeats 16000000 in
theorem sealSigns_any (w : World) (hT : Tabs w) (cs : List Value) (vs : List (Int × ByteArray)) (hc : CfgIn w cs vs) (M : Msg) (sl : Value) (hf : M.Fits) (hr : BRow w w.heap.size sl M.l) (a : Int) (β : UInt8) :
    Calls Tryd.prog 4 #[.agg cs.toArray, .agg (mc M sl).toArray, .int .i64 a, .int .u8 (β.toNat : Int)] w fun e w' => e = .returned (.bool true) ∧ Below w.heap.size w w' := by
  have HT := Lib.hid hT
  have HF := Lib.hid hf
  have HR := Lib.hid hr
  have HCI := Lib.hid hc
  have HCL := Lib.hid hc.len
  have HC := Lib.hid (show Blk _ w.heap.size _ cs from (Blk.new w 24 cs.toArray).alloc (.cells (mc M sl).toArray 32))
  have HM := Lib.hid (show Blk _ (w.heap.size + 1) _ (mc M sl) from Blk.newAt (w.alloc (.cells cs.toArray 24)) 32 (mc M sl).toArray (w.heap.size + 1) (by simp))
  have HB := Lib.hid (show Below w.heap.size w ((w.alloc (.cells cs.toArray 24)).alloc (.cells (mc M sl).toArray 32)) from ((Below.refl w.heap.size w).alloc (Nat.le_refl _) _).alloc (by simp) _)
  clear hT hf hr hc
  obtain ⟨G, hG⟩ : ∃ G, G = w.heap.size + 1 := ⟨_, rfl⟩
  obtain ⟨D, hD⟩ : ∃ D, D = w.heap.size := ⟨_, rfl⟩
  have HDl := Lib.hid (show w.heap.size ≤ D by omega)
  go_enter Tryd.func4, Tryd.ntmps4
  go_upto_region 1 with fail
  generalize (w.alloc (.cells cs.toArray 24)).alloc (.cells (mc M sl).toArray 32) = w0 at HB HC HM ⊢
  (try simp only [Nat.add_assoc, Nat.reduceAdd])
  rw [← hG] at HM ⊢
  rw [← hD] at HC ⊢
  clear hD hG
  go_wp2_with fail
  refine (alive_any w0 (HT.out.below HB.out HT.out.size)).mono ?_
  rintro e w1 ⟨rfl, hb⟩
  replace HC := Lib.hid (HC.out.below hb HC.out.lt)
  replace HM := Lib.hid (HM.out.below hb HM.out.lt)
  replace HB := Lib.hid (HB.out.trans (hb.mono HB.out.size))
  clear hb
  have HG8 := Lib.hid (great8_any w1 (HCI.out.below HB.out) M sl HF.out ((HR.out.keep HB.out).more HB.out.size))
  go_wp2_with (first
    | ((with_reducible refine wpList_load_msgG (.tmp 5) ?_ ?_ G M sl ?_ HM.out HF.out ?_); rfl; rfl; rfl)
    | ((with_reducible refine wpList_load_cfg (.tmp 4) ?_ ?_ D cs ?_ HC.out HCL.out ?_); rfl; rfl; rfl))
  refine HG8.out.mono ?_
  rintro e w2 ⟨yg, rfl, hyg, hb⟩
  replace HC := Lib.hid (HC.out.below hb HC.out.lt)
  replace HM := Lib.hid (HM.out.below hb HM.out.lt)
  replace HB := Lib.hid (HB.out.trans (hb.mono HB.out.size))
  clear hb
  clear HG8
  cases yg with
  | true =>
    clear hyg
    go_wp2_with fail
    go_ret
    exact ⟨rfl, HB.out⟩
  | false =>
  obtain ⟨⟨C, hok⟩, hbl⟩ := hyg rfl
  have HOK := Lib.hid hok
  have HBL := Lib.hid hbl
  clear hyg hok hbl
  obtain ⟨K, hK⟩ : ∃ K, comm M.s vs.length C = K := ⟨_, rfl⟩
  obtain ⟨ST, hST⟩ : ∃ ST, sealT vs K M = ST := ⟨_, rfl⟩
  obtain ⟨Y, hY⟩ : ∃ Y, (spk K M).isSome = Y := ⟨_, rfl⟩
  obtain ⟨SM, hSM⟩ : ∃ SM, signM vs K M = SM := ⟨_, rfl⟩
  have HSL := Lib.hid (show ST.length = 16 by rw [← hST]; exact sealT_length vs K M)
  have HSF := Lib.hid (show SM.Fits by rw [← hSM]; exact signM_fits HF.out)
  have HS1 := Lib.hid (show Y = true → SM = { M with G := ST } by intro y; rw [← hSM, signM_yes (hY.trans y), hST])
  have HS0 := Lib.hid (show Y = false → SM = zeroMsg by intro y; rw [← hSM, signM, hY, y]; rfl)
  have HSN := fun (W : World) (hT : Tabs W) (hc : CfgOk W cs C vs) (hr : BRow W W.heap.size sl M.l) => sign_any W hT hc M sl HF.out hr
  have HSR := fun (W : World) (hc : CfgOk W cs C vs) (hr : BRow W W.heap.size sl M.l) => refspk_any W hc M sl HF.out hr (Nat.le_trans HBL.out (by omega))
  simp only [hK, hY, hSM] at HSN HSR
  replace HSN := Lib.hid HSN
  replace HSR := Lib.hid HSR
  have HTC := Lib.hid (show ∀ t : List UInt8, sealC vs K { M with G := t } = (Y && (ST == t)) by intro t; rw [sealC_tag, hST, hY])
  have HKE := Lib.hid hK
  clear hST hY hSM hK
  go_wp2_with (first
    | ((with_reducible refine wpList_load_msgG (.tmp 5) ?_ ?_ G M sl ?_ HM.out HF.out ?_); rfl; rfl; rfl)
    | ((with_reducible refine wpList_load_cfg (.tmp 4) ?_ ?_ D cs ?_ HC.out HCL.out ?_); rfl; rfl; rfl))
  refine (HSN.out w2 (HT.out.below HB.out HT.out.size) (HOK.out _ (HCI.out.below HB.out)) ((HR.out.keep HB.out).more HB.out.size)).mono ?_
  rintro e w3 ⟨su, rfl, hrow, hb⟩
  replace HC := Lib.hid (HC.out.below hb HC.out.lt)
  replace HM := Lib.hid (HM.out.below hb HM.out.lt)
  replace HB := Lib.hid (HB.out.trans (hb.mono HB.out.size))
  clear hb
  have HSU := Lib.hid hrow
  clear hrow
  have hbt := below_setRow ((Below.refl w3.heap.size w3).alloc (Nat.le_refl _) (.cells zcells 32)) (Nat.le_refl w3.heap.size) (mc SM su).toArray
  have HZ := Lib.hid (zero_msg w3)
  have HO := Lib.hid HSU.out.one
  have ht3 := HZ.out.setRow (mc SM su)
  obtain ⟨wy6, hwy6⟩ : ∃ x, (w3.alloc (.cells zcells 32)).setRow w3.heap.size (mc SM su).toArray = x := ⟨_, rfl⟩
  rw [hwy6] at hbt ht3
  have HWX := Lib.hid hwy6
  have HX := Lib.hid ht3
  clear hwy6 ht3
  go_upto_region 6 with ((with_reducible refine wpList_store_msg (.tmp 9) (.tmp 24) ?_ ?_ w3.heap.size zeroMsg SM (.slice none 0 0) su ?_ ?_ ?_ zeroMsg_fits HSF.out ?_ ?_); rfl; rfl; rfl; rfl; exact HZ.out; exact HO.out)
  rw [zcells_lit, HWX.out]
  replace HC := Lib.hid (HC.out.below hbt HC.out.lt)
  replace HM := Lib.hid (HM.out.below hbt HM.out.lt)
  replace HSU := Lib.hid (HSU.out.bits hbt)
  replace HB := Lib.hid (HB.out.trans (hbt.mono HB.out.size))
  clear hbt HZ HWX HO
  generalize w3.heap.size = X at HX ⊢
  go_wp2_with (first
    | ((with_reducible refine wpList_load_msgG (.tmp 5) ?_ ?_ G M sl ?_ HM.out HF.out ?_); rfl; rfl; rfl)
    | ((with_reducible refine wpList_load_cfg (.tmp 4) ?_ ?_ D cs ?_ HC.out HCL.out ?_); rfl; rfl; rfl))
  refine (HSR.out wy6 (HOK.out _ (HCI.out.below HB.out)) ((HR.out.keep HB.out).more HB.out.size)).mono ?_
  rintro e w4 ⟨vr, rfl, _, hb⟩
  replace HC := Lib.hid (HC.out.below hb HC.out.lt)
  replace HM := Lib.hid (HM.out.below hb HM.out.lt)
  replace HX := Lib.hid (HX.out.below hb HX.out.lt)
  replace HSU := Lib.hid (HSU.out.bits hb)
  replace HB := Lib.hid (HB.out.trans (hb.mono HB.out.size))
  clear hb
  have hyy : (Y == Y) = true := beq_self_eq_true Y
  have hyn : (Y != Y) = false := by simp
  cases Y with
  | false =>
    obtain rfl := HS0.out rfl
    clear hyy hyn
    go_wp2_with (first
      | ((with_reducible refine wpList_load_msgG (.tmp 9) ?_ ?_ X zeroMsg su ?_ HX.out HSF.out ?_); rfl; rfl; rfl)
      | ((with_reducible refine wpList_build_msg ?_ 32 #[] ?_ (mc zeroMsg (.slice none 0 0)).toArray ?_ ?_); rfl; rfl; exact msg_built0))
    refine (msame_any w4 zeroMsg zeroMsg su (.slice none 0 0) zeroMsg_fits zeroMsg_fits HSU.out (BRow.nil _ _) (by simp [zeroMsg])).mono ?_
    rintro e w5 ⟨rfl, hb⟩
    replace HC := Lib.hid (HC.out.below hb HC.out.lt)
    replace HM := Lib.hid (HM.out.below hb HM.out.lt)
    replace HX := Lib.hid (HX.out.below hb HX.out.lt)
    replace HSU := Lib.hid (HSU.out.bits hb)
    replace HB := Lib.hid (HB.out.trans (hb.mono HB.out.size))
    clear hb
    rw [show msgSame zeroMsg zeroMsg = true by decide]
    go_wp2_with fail
    go_ret
    exact ⟨rfl, HB.out⟩
  | true =>
  have hSE := HS1.out rfl
  clear hyy hyn
  have HSG := Lib.hid (show SM.G = ST by rw [hSE])
  have HSE := Lib.hid (show ({ SM with G := M.G } : Msg) = M by rw [hSE])
  have HSLn := Lib.hid (show SM.l = M.l by rw [hSE])
  have HSC := Lib.hid (show ∀ t : List UInt8, sealC vs (comm SM.s vs.length C) { SM with G := t } = (ST == t) by intro t; rw [show ({ SM with G := t } : Msg) = { M with G := t } by rw [hSE], show SM.s = M.s by rw [hSE], HKE.out, HTC.out t, Bool.true_and])
  clear hSE
  have HZ := Lib.hid (zero_msg w4)
  have HO := Lib.hid HSU.out.one
  have hbx := below_setRow (below_setRow ((Below.refl w4.heap.size w4).alloc (Nat.le_refl _) (.cells zcells 32)) (Nat.le_refl w4.heap.size) (mc SM su).toArray) (Nat.le_refl w4.heap.size) (mc { SM with G := M.G } su).toArray
  have hx1 := HZ.out.setRow (mc SM su)
  have HX1 := Lib.hid hx1
  have hx2 := hx1.setRow (mc { SM with G := M.G } su)
  have HPT := Lib.hid (show ∀ (j : Nat) (v : Value), (bv M.G)[j]? = some v → (((w4.alloc (.cells zcells 32)).setRow w4.heap.size (mc SM su).toArray)).cell? ⟨G, 37 + j, none⟩ = some v from fun j v hj => by
    have h := (HM.out.alloc (.cells zcells 32)).setRow_other (mc SM su).toArray (Nat.ne_of_lt HM.out.lt)
    rw [h.cell]; exact mc_G HF.out sl j v hj)
  rw [HSE.out] at hbx hx2
  obtain ⟨wx, hwx⟩ : ∃ x, ((w4.alloc (.cells zcells 32)).setRow w4.heap.size (mc SM su).toArray).setRow w4.heap.size (mc M su).toArray = x := ⟨_, rfl⟩
  rw [hwx] at hbx hx2
  have HWX := Lib.hid hwx
  have HYb := Lib.hid hx2
  clear hwx hx1 hx2
  go_upto_region 12 with (first
    | ((with_reducible refine wpList_load_msgG (.tmp 9) ?_ ?_ X SM su ?_ HX.out HSF.out ?_); rfl; rfl; rfl)
    | ((with_reducible refine wpList_store_msg (.tmp 13) (.tmp 40) ?_ ?_ w4.heap.size zeroMsg SM (.slice none 0 0) su ?_ ?_ ?_ zeroMsg_fits HSF.out ?_ ?_); rfl; rfl; rfl; rfl; exact HZ.out; exact HO.out))
  rw [zcells_lit]
  go_upto_region 13 with (first
    | ((with_reducible refine wpList_load_tag (.tmp 41) ?_ ?_ G 37 M.G ?_ HF.out.G HPT.out ?_); rfl; rfl; rfl)
    | ((with_reducible refine wpList_store_tagM (.tmp 43) (.tmp 42) ?_ ?_ w4.heap.size SM su M.G ?_ ?_ HX1.out HSF.out HF.out.G ?_); rfl; rfl; rfl; rfl))
  rw [HSE.out, HWX.out]
  replace HC := Lib.hid (HC.out.below hbx HC.out.lt)
  replace HM := Lib.hid (HM.out.below hbx HM.out.lt)
  replace HX := Lib.hid (HX.out.below hbx HX.out.lt)
  replace HSU := Lib.hid (HSU.out.bits hbx)
  replace HB := Lib.hid (HB.out.trans (hbx.mono HB.out.size))
  clear hbx HZ HX1 HPT HWX HO
  generalize w4.heap.size = Yb at HYb ⊢
  obtain ⟨k, hk, hk2⟩ : ∃ k : Nat, Int.tmod (IntKind.u64.wrap a) 16 = (k : Int) ∧ k < 16 := by
    have h1 : 0 ≤ IntKind.u64.wrap a := by rw [IntKind.wrap_u64]; omega
    have h2 : Int.tmod (IntKind.u64.wrap a) 16 = (IntKind.u64.wrap a) % 16 := Int.tmod_eq_emod_of_nonneg h1
    exact ⟨((IntKind.u64.wrap a) % 16).toNat, by omega, by omega⟩
  have hk3 : IntKind.i64.wrap (k : Int) = (k : Int) := by rw [IntKind.wrap_i64]; omega
  obtain ⟨c, hc⟩ : ∃ c, ST[k]? = some c := ⟨_, List.getElem?_eq_getElem (by rw [HSL.out]; exact hk2)⟩
  have HZ := Lib.hid (zero_msg wx)
  have HO := Lib.hid HSU.out.one
  have hx1 := HZ.out.setRow (mc SM su)
  have hq := (hx1.cell (37 + k)).trans (mc_G HSF.out su k (.int .u8 (c.toNat : Int)) (by rw [HSG.out]; simp [bv, hc]))
  have hfr := hx1.free (37 + k)
  have hxr := rule_xor8 c β
  have hx2 := hx1.set (37 + k) (.int .u8 (((c ^^^ β).toNat : Nat) : Int))
  rw [mc_setG HSF.out su k (c ^^^ β), HSG.out] at hx2
  have hbx := (below_setRow ((Below.refl wx.heap.size wx).alloc (Nat.le_refl _) (.cells zcells 32)) (Nat.le_refl wx.heap.size) (mc SM su).toArray).setCell (p := ⟨wx.heap.size, 37 + k, none⟩) (Nat.le_refl wx.heap.size) (.int .u8 (((c ^^^ β).toNat : Nat) : Int))
  have HSET := Lib.hid (show (ST == ST.set k (c ^^^ β)) = (β == 0) from xor_same hc β)
  have HZF := Lib.hid (show ({ SM with G := ST.set k (c ^^^ β) } : Msg).Fits from ⟨HSF.out.T, by rw [List.length_set]; exact HSL.out, HSF.out.b⟩)
  obtain ⟨wz, hwz⟩ : ∃ x, (((wx.alloc (.cells zcells 32)).setRow wx.heap.size (mc SM su).toArray).setCell ⟨wx.heap.size, 37 + k, none⟩ (.int .u8 (((c ^^^ β).toNat : Nat) : Int))) = x := ⟨_, rfl⟩
  rw [hwz] at hbx hx2
  have HWX := Lib.hid hwz
  have HZb := Lib.hid hx2
  clear hwz hx1 hx2 hc
  go_upto_region 14 with (first
    | ((with_reducible refine wpList_load_msgG (.tmp 9) ?_ ?_ X SM su ?_ HX.out HSF.out ?_); rfl; rfl; rfl)
    | ((with_reducible refine wpList_store_msg (.tmp 14) (.tmp 44) ?_ ?_ wx.heap.size zeroMsg SM (.slice none 0 0) su ?_ ?_ ?_ zeroMsg_fits HSF.out ?_ ?_); rfl; rfl; rfl; rfl; exact HZ.out; exact HO.out))
  rw [zcells_lit]
  go_upto_region 15 with fail
  rw [show (((c.toNat ^^^ β.toNat : Nat)) : Int) = (((c ^^^ β).toNat : Nat) : Int) by rw [UInt8.toNat_xor], HWX.out]
  replace HC := Lib.hid (HC.out.below hbx HC.out.lt)
  replace HM := Lib.hid (HM.out.below hbx HM.out.lt)
  replace HX := Lib.hid (HX.out.below hbx HX.out.lt)
  replace HYb := Lib.hid (HYb.out.below hbx HYb.out.lt)
  replace HSU := Lib.hid (HSU.out.bits hbx)
  replace HB := Lib.hid (HB.out.trans (hbx.mono HB.out.size))
  clear hbx HZ HWX HO hq hfr hxr hk hk2 hk3
  generalize wx.heap.size = Zb at HZb ⊢
  have HC1 := Lib.hid (check_any wz (HT.out.below HB.out HT.out.size) (HOK.out _ (HCI.out.below HB.out)) SM su HSF.out HSU.out)
  rw [show sealC vs (comm SM.s vs.length C) SM = true by have h := HSC.out ST; rw [← HSG.out] at h; rw [show ({ SM with G := SM.G } : Msg) = SM from rfl] at h; rw [h]; simp] at HC1
  go_wp2_with (first
    | ((with_reducible refine wpList_load_msgG (.tmp 9) ?_ ?_ X SM su ?_ HX.out HSF.out ?_); rfl; rfl; rfl)
    | ((with_reducible refine wpList_load_cfg (.tmp 4) ?_ ?_ D cs ?_ HC.out HCL.out ?_); rfl; rfl; rfl))
  refine HC1.out.mono ?_
  rintro e w5 ⟨rfl, hb⟩
  replace HC := Lib.hid (HC.out.below hb HC.out.lt)
  replace HM := Lib.hid (HM.out.below hb HM.out.lt)
  replace HX := Lib.hid (HX.out.below hb HX.out.lt)
  replace HYb := Lib.hid (HYb.out.below hb HYb.out.lt)
  replace HZb := Lib.hid (HZb.out.below hb HZb.out.lt)
  replace HSU := Lib.hid (HSU.out.bits hb)
  replace HB := Lib.hid (HB.out.trans (hb.mono HB.out.size))
  clear hb
  clear HC1
  go_wp2_with (first
    | ((with_reducible refine wpList_load_msgG (.tmp 13) ?_ ?_ Yb M su ?_ HYb.out HF.out ?_); rfl; rfl; rfl)
    | ((with_reducible refine wpList_load_msgG (.tmp 5) ?_ ?_ G M sl ?_ HM.out HF.out ?_); rfl; rfl; rfl))
  refine (msame_any w5 M M su sl HF.out HF.out (by have h := HSU.out; rw [HSLn.out] at h; exact h) ((HR.out.keep HB.out).more HB.out.size) (Nat.le_trans HBL.out (by omega))).mono ?_
  rintro e w6 ⟨rfl, hb⟩
  replace HC := Lib.hid (HC.out.below hb HC.out.lt)
  replace HM := Lib.hid (HM.out.below hb HM.out.lt)
  replace HX := Lib.hid (HX.out.below hb HX.out.lt)
  replace HYb := Lib.hid (HYb.out.below hb HYb.out.lt)
  replace HZb := Lib.hid (HZb.out.below hb HZb.out.lt)
  replace HSU := Lib.hid (HSU.out.bits hb)
  replace HB := Lib.hid (HB.out.trans (hb.mono HB.out.size))
  clear hb
  rw [msgSame_self M]
  have HC2 := Lib.hid (check_any w6 (HT.out.below HB.out HT.out.size) (HOK.out _ (HCI.out.below HB.out)) { SM with G := ST.set k (c ^^^ β) } su HZF.out HSU.out)
  rw [HSC.out, HSET.out] at HC2
  go_wp2_with (first
    | ((with_reducible refine wpList_load_msgG (.tmp 14) ?_ ?_ Zb ({ SM with G := ST.set k (c ^^^ β) } : Msg) su ?_ HZb.out HZF.out ?_); rfl; rfl; rfl)
    | ((with_reducible refine wpList_load_cfg (.tmp 4) ?_ ?_ D cs ?_ HC.out HCL.out ?_); rfl; rfl; rfl))
  refine HC2.out.mono ?_
  rintro e w7 ⟨rfl, hb⟩
  replace HC := Lib.hid (HC.out.below hb HC.out.lt)
  replace HM := Lib.hid (HM.out.below hb HM.out.lt)
  replace HX := Lib.hid (HX.out.below hb HX.out.lt)
  replace HYb := Lib.hid (HYb.out.below hb HYb.out.lt)
  replace HZb := Lib.hid (HZb.out.below hb HZb.out.lt)
  replace HSU := Lib.hid (HSU.out.bits hb)
  replace HB := Lib.hid (HB.out.trans (hb.mono HB.out.size))
  clear hb
  have hb0 : ((β.toNat : Int) == 0) = (β == 0) := byte_zero β
  have hb1 : ((β == 0) == (β == 0)) = true := beq_self_eq_true _
  obtain ⟨E, hE⟩ : ∃ E, (β == 0) = E := ⟨_, rfl⟩
  rw [hE] at hb0 hb1 ⊢
  clear hE HC2
  go_wp2_with fail
  go_ret
  exact ⟨rfl, HB.out⟩
end Go.Proofs.YtnbdpalbompjlaaDoor
