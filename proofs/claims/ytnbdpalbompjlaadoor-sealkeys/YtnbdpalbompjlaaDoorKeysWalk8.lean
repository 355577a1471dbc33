/-
  The walk of SealKeys.
-/
import Derived.Test.YtnbdpalbompjlaaDoorM22
import Derived.Test.YtnbdpalbompjlaaDoorM19
import Derived.Test.YtnbdpalbompjlaaDoorRowOf
namespace Go.Proofs.YtnbdpalbompjlaaDoor
open Go.RowKit
set_option maxRecDepth 100000

theorem Held.row_lies {w : World} {B : Nat} {ao : Option Addr} {n cap : Nat} {L : List Nat} (h : Held w B (.slice ao n cap) (iv L)) : ∀ (k x : Nat), L[k]? = some x → ∃ b off, ao = some ⟨b, off, none⟩ ∧ w.cell? ⟨b, off + k, none⟩ = some (.int .i64 (x : Int)) := by
  obtain ⟨ao', cap', b, off, he, hl⟩ := h.lies
  cases he
  intro k x hx
  exact ⟨b, off, hl.int (Below.refl _ _) hx⟩
theorem Wide.own_lies {w : World} {base n cap g off : Nat} {xs : List Value} (h : WideAt 2 w base n cap g off (some ⟨g, off, none⟩) xs) : Lies w w.heap.size (some ⟨g, off, none⟩) g off xs :=
  ⟨fun _ => rfl, fun h0 => h.lt (by have h1 := h.len; have h2 := h.le; omega), h.cells⟩

set_option maxHeartbeats 16000000 in
theorem sealKeys_any (w : World) (hT : Tabs w) (cs : List Value) (vs : List (Int × ByteArray)) (hc : CfgIn w cs vs) (M : Msg) (sl : Value) (hf : M.Fits) (hr : BRow w w.heap.size sl M.l) (key : ByteArray) :
    Calls Tryd.prog 8 #[.agg cs.toArray, .agg (mc M sl).toArray, .string key] w fun e w' => e = .returned (.bool true) ∧ Below w.heap.size w w' := by
  have HT := Lib.hid hT
  have HF := Lib.hid hf
  have HR := Lib.hid hr
  have HCI := Lib.hid hc
  have HCL := Lib.hid hc.len
  have HC := Lib.hid (show Blk _ w.heap.size _ cs from (Blk.new w 24 cs.toArray).alloc (.cells (mc M sl).toArray 32))
  have HM := Lib.hid (show Blk _ (w.heap.size + 1) _ (mc M sl) from Blk.newAt (w.alloc (.cells cs.toArray 24)) 32 (mc M sl).toArray (w.heap.size + 1) (by simp))
  have HB := Lib.hid (show Below w.heap.size w ((w.alloc (.cells cs.toArray 24)).alloc (.cells (mc M sl).toArray 32)) from ((Below.refl w.heap.size w).alloc (Nat.le_refl _) _).alloc (by simp) _)
  clear hT hf hr hc
  obtain ⟨G, hG⟩ : ∃ G, G = w.heap.size + 1 := ⟨_, rfl⟩
  obtain ⟨D, hD⟩ : ∃ D, D = w.heap.size := ⟨_, rfl⟩
  have HDl := Lib.hid (show w.heap.size ≤ D by omega)
  go_enter Tryd.func8, Tryd.ntmps8
  go_upto_region 1 with fail
  generalize (w.alloc (.cells cs.toArray 24)).alloc (.cells (mc M sl).toArray 32) = w0 at HB HC HM ⊢
  (try simp only [Nat.add_assoc, Nat.reduceAdd])
  rw [← hG] at HM ⊢
  rw [← hD] at HC ⊢
  clear hD hG
  go_wp2_with fail
  refine (alive_any w0 (HT.out.below HB.out HT.out.size)).mono ?_
  rintro e w1 ⟨rfl, hb⟩
  replace HC := Lib.hid (HC.out.below hb HC.out.lt)
  replace HM := Lib.hid (HM.out.below hb HM.out.lt)
  replace HB := Lib.hid (HB.out.trans (hb.mono HB.out.size))
  clear hb
  have HG8 := Lib.hid (great8_any w1 (HCI.out.below HB.out) M sl HF.out ((HR.out.keep HB.out).more HB.out.size))
  go_wp2_with (first
    | ((with_reducible refine wpList_load_msgG (.tmp 4) ?_ ?_ G M sl ?_ HM.out HF.out ?_); rfl; rfl; rfl)
    | ((with_reducible refine wpList_load_cfg (.tmp 3) ?_ ?_ D cs ?_ HC.out HCL.out ?_); rfl; rfl; rfl))
  refine HG8.out.mono ?_
  rintro e w2 ⟨yg, rfl, hyg, hb⟩
  replace HC := Lib.hid (HC.out.below hb HC.out.lt)
  replace HM := Lib.hid (HM.out.below hb HM.out.lt)
  replace HB := Lib.hid (HB.out.trans (hb.mono HB.out.size))
  clear hb
  clear HG8
  cases yg with
  | true =>
    clear hyg
    go_wp2_with fail
    go_ret
    exact ⟨rfl, HB.out⟩
  | false =>
  obtain ⟨⟨C, hok⟩, hbl⟩ := hyg rfl
  have HOK := Lib.hid hok
  have HBL := Lib.hid hbl
  clear hyg hok hbl
  by_cases hk1 : (key.size : Int) < 1
  · go_wp2_with fail
    go_ret
    exact ⟨rfl, HB.out⟩
  by_cases hk2 : (32 : Int) < (key.size : Int)
  · go_wp2_with fail
    go_ret
    exact ⟨rfl, HB.out⟩
  have HKZ := Lib.hid (show key.size ≤ 500 by omega)
  obtain ⟨K, hK⟩ : ∃ K, comm M.s vs.length C = K := ⟨_, rfl⟩
  obtain ⟨ST, hST⟩ : ∃ ST, sealT vs K M = ST := ⟨_, rfl⟩
  obtain ⟨Y, hY⟩ : ∃ Y, (spk K M).isSome = Y := ⟨_, rfl⟩
  obtain ⟨L, hL⟩ : ∃ L, (spk K M).getD [] = L := ⟨_, rfl⟩
  have hck1 := HCI.out.one
  obtain ⟨VL, hVL⟩ : ∃ VL, votesM K M = VL := ⟨_, rfl⟩
  obtain ⟨CK, hCK⟩ : ∃ CK, sealC vs K M = CK := ⟨_, rfl⟩
  have HSL := Lib.hid (show ST.length = 16 by rw [← hST]; exact sealT_length vs K M)
  have HTG := fun (W : World) (hT : Tabs W) (hc : CfgOk W cs C vs) (hr : BRow W W.heap.size sl M.l) => sealTag_any W hT hc M sl HF.out hr
  have HSR := fun (W : World) (hc : CfgOk W cs C vs) (hr : BRow W W.heap.size sl M.l) => refspk_any W hc M sl HF.out hr (Nat.le_trans HBL.out (by omega))
  simp only [hK, hST, hY, hL] at HTG HSR
  replace HTG := Lib.hid HTG
  replace HSR := Lib.hid HSR
  have HLL := Lib.hid (show L.length ≤ 100000 by
    rw [← hL]
    cases h : spk K M with
    | none => simp
    | some l => have := spk_len h (by rw [← hK]; have := comm_le M.s vs.length C; have := (HOK.out _ (HCI.out.below HB.out)).vals; omega); simpa using by omega)
  have HVV := Lib.hid (show Vots VL by
    rw [← hVL, votesM]
    intro x hx
    split at hx
    · cases hx
    · obtain ⟨i, _, rfl⟩ := List.mem_map.1 hx
      exact HF.out.T)
  have HVZ := Lib.hid (show VL.length ≤ 100000 by
    have h := HLL.out
    rw [← hVL, votesM]
    split
    · simp
    · rw [List.length_map, hL]; exact h)
  have HKE := Lib.hid hK
  have HSO := Lib.hid (show ∀ j, sealT (others vs L key j) K M = ST by intro j; rw [← hL, sealT_others, hST])
  have HYE := Lib.hid hY
  have HVN := Lib.hid ((HOK.out _ (HCI.out.below HB.out)).vals)
  have HKEY := Lib.hid ((HOK.out _ (HCI.out.below HB.out)).keys)
  have HONE := Lib.hid hck1
  clear hck1 hK hST hY hL hVL hCK
  have HXC0 := Lib.hid (show D < w2.heap.size ∧ G < w2.heap.size ∧ w.heap.size ≤ w2.heap.size from ⟨HC.out.lt, HM.out.lt, HB.out.size⟩)
  have hbt := below_setRow ((Below.refl w2.heap.size w2).alloc (Nat.le_refl _) (.cells czcells 24)) (Nat.le_refl w2.heap.size) cs.toArray
  have HZ := Lib.hid (Blk.new w2 24 czcells)
  have ht3 := HZ.out.setRow cs
  obtain ⟨wd, hwd⟩ : ∃ y, (w2.alloc (.cells czcells 24)).setRow w2.heap.size cs.toArray = y := ⟨_, rfl⟩
  rw [hwd] at hbt ht3
  have HWX := Lib.hid hwd
  have HX := Lib.hid ht3
  clear hwd ht3
  go_upto_region 6 with (first
    | ((with_reducible refine wpList_load_cfg (.tmp 3) ?_ ?_ D cs ?_ HC.out HCL.out ?_); rfl; rfl; rfl)
    | ((with_reducible refine wpList_store_cfg (.tmp 7) (.tmp 33) ?_ ?_ w2.heap.size cs ?_ ?_ ?_ HCL.out HONE.out ?_); rfl; rfl; rfl; rfl; exact HZ.out))
  rw [cz_lit, HWX.out]
  replace HC := Lib.hid (HC.out.below hbt HC.out.lt)
  replace HM := Lib.hid (HM.out.below hbt HM.out.lt)
  replace HB := Lib.hid (HB.out.trans (hbt.mono HB.out.size))
  clear hbt HZ HWX hk1 hk2
  have HXC := Lib.hid (show D < w2.heap.size ∧ G < w2.heap.size ∧ w.heap.size ≤ w2.heap.size from HXC0.out)
  clear HXC0
  generalize w2.heap.size = X at HX HXC ⊢
  have HXL := Lib.hid (show X < wd.heap.size from HX.out.lt)
  obtain ⟨i0, hi0, hz0, hz1, hz2⟩ := info_parts Tryd.infoVal
  have hzc : (Value.agg #[.int .i64 0, .string ⟨#[]⟩]).cells.size = 2 := by rfl
  obtain ⟨nao, ncap, nb, noff, hc0, hlv⟩ := (HOK.out _ (HCI.out.below HB.out)).lies
  have HC0 := Lib.hid hc0
  have hb1 := (Below.refl wd.heap.size wd).alloc (Nat.le_refl _) (.cells #[] 59)
  have HWE := Lib.hid (wide_empty 2 wd 59 wd.heap.size (Nat.le_refl _))
  have HSrc := Lib.hid ((hlv.below hb1).src ncap 22 59 Tryd.underlying22 (n := vs.length) (k := 2) (vc_length vs) (vc_one vs) (by omega) (P := Tryd.prog))
  obtain ⟨n, hn⟩ : ∃ n, vs.length = n := ⟨_, rfl⟩
  have HN := Lib.hid hn
  rw [hn] at HSrc HC0
  have hvn := HVN.out
  rw [hn] at hvn
  have HBA := Lib.hid hb1
  have c0 := ((HC.out.alloc (.cells #[] 59)).cell 0).trans HC0.out
  clear hc0 hlv hb1 hn
  go_wp2_with (at_builtin; refine wpList_append_wide rfl _ _ 22 22 rfl rfl HWE.out (by omega) 59 i0 (.agg #[.int .i64 0, .string ⟨#[]⟩]) 24 Tryd.underlying22 hi0 hz0 hz1 hz2 hzc _ rfl n (vc vs) HSrc.out ?e2 ?e3 ?e4 ?_)
  case e2 => unfold maxLen; simp; omega
  case e3 => first | omega | (simp; omega)
  all_goals (try exact HBA.out.size)
  intro v2 we hh hg
  have hbe : Below wd.heap.size wd we := HBA.out.trans (hg.belowW HWE.out HBA.out.size)
  have hwe : Wide 2 we wd.heap.size v2 (vc vs) := by simpa using hh
  clear hh hg HSrc HWE HBA c0
  replace HC := Lib.hid (HC.out.below hbe HC.out.lt)
  replace HM := Lib.hid (HM.out.below hbe HM.out.lt)
  replace HX := Lib.hid (HX.out.below hbe HX.out.lt)
  replace HB := Lib.hid (HB.out.trans (hbe.mono HB.out.size))
  obtain ⟨sn, scap, g, off, ao, rfl, hwa⟩ := hwe
  have hsn : sn = n := by have h := hwa.len; rw [vc_length, HN.out] at h; omega
  subst hsn
  have hao := hwa.addr (by have := hwa.le; omega)
  subst hao
  have hgB : wd.heap.size ≤ g := hwa.own _ rfl
  have f0 := HX.out.free 0
  have c0 := HX.out.cell 0
  rw [HC0.out] at c0
  have hx1 := HX.out.set 0 (.slice (some ⟨g, off, none⟩) sn scap)
  have hneX : X ≠ g := by have := HXL.out; omega
  have hneC : D ≠ X := by have := HXC.out; omega
  have hneM : G ≠ X := by have := HXC.out; omega
  have hc1 := HC.out.other ⟨X, 0, none⟩ (.slice (some ⟨g, off, none⟩) sn scap) hneC
  have hm1 := HM.out.other ⟨X, 0, none⟩ (.slice (some ⟨g, off, none⟩) sn scap) hneM
  have hw1 := hwa.carry (w' := we.setCell ⟨X, 0, none⟩ (.slice (some ⟨g, off, none⟩) sn scap)) (by rw [setCell_size]; exact Nat.le_refl _) (fun _ => heap_setCell_other we ⟨X, 0, none⟩ g _ (fun e => hneX e.symm))
  have hb1 := HB.out.setCell (p := ⟨X, 0, none⟩) HXC.out.2.2 (.slice (some ⟨g, off, none⟩) sn scap)
  obtain ⟨wf, hwf⟩ : ∃ y, we.setCell ⟨X, 0, none⟩ (.slice (some ⟨g, off, none⟩) sn scap) = y := ⟨_, rfl⟩
  rw [hwf] at hx1 hc1 hm1 hw1 hb1
  have HWX := Lib.hid hwf
  obtain ⟨ds, hds⟩ : ∃ ds, cs.set 0 (.slice (some ⟨g, off, none⟩) sn scap) = ds := ⟨_, rfl⟩
  rw [hds] at hx1
  have HDS := Lib.hid hds
  have HDL := Lib.hid (show ds.length = 12 by rw [← hds, List.length_set]; exact HCL.out)
  have HD0 := Lib.hid (show ds[0]? = some (.slice (some ⟨g, off, none⟩) sn scap) by rw [← hds, List.getElem?_set_self (by rw [HCL.out]; omega)])
  clear hwf
  go_upto_region 7 with fail
  rw [HWX.out]
  clear HC HM HX HB c0 f0 HWX hbe hneC hneM hds
  have HC := Lib.hid hc1
  have HM := Lib.hid hm1
  have HX := Lib.hid hx1
  have HB := Lib.hid hb1
  have HWA := Lib.hid hw1
  have HGB := Lib.hid (show X < g ∧ D < g ∧ G < g ∧ w.heap.size ≤ g by have h1 := HXL.out; have h2 := HXC.out; omega)
  clear hc1 hm1 hx1 hb1 hw1 hwa hgB hneX
  go_wp2_with (first
    | ((with_reducible refine wpList_load_msgG (.tmp 4) ?_ ?_ G M sl ?_ HM.out HF.out ?_); rfl; rfl; rfl)
    | ((with_reducible refine wpList_load_cfg (.tmp 3) ?_ ?_ D cs ?_ HC.out HCL.out ?_); rfl; rfl; rfl))
  refine (HSR.out wf (HOK.out _ (HCI.out.below HB.out)) ((HR.out.keep HB.out).more HB.out.size)).mono ?_
  rintro e wg ⟨v8, rfl, hh, hb⟩
  have HGLt := Lib.hid (show g < wf.heap.size from HWA.out.lt (by have := HWA.out.le; omega))
  replace HWA := Lib.hid (HWA.out.carry hb.size (fun _ => hb.block g HGLt.out))
  replace HC := Lib.hid (HC.out.below hb HC.out.lt)
  replace HM := Lib.hid (HM.out.below hb HM.out.lt)
  replace HX := Lib.hid (HX.out.below hb HX.out.lt)
  replace HB := Lib.hid (HB.out.trans (hb.mono HB.out.size))
  have hgl : g < wf.heap.size := HGLt.out
  clear hb
  have HV8 := Lib.hid hh
  obtain ⟨lao, lcap, lb, loff, rfl, _⟩ := hh.lies
  rw [iv_length]
  obtain ⟨m, hm⟩ : ∃ m, L.length = m := ⟨_, rfl⟩
  rw [iv_length, hm] at HV8
  rw [hm]
  have HMM := Lib.hid hm
  have hm2 : m ≤ 100000 := by rw [← hm]; exact HLL.out
  have c0 := (HX.out.cell 0).trans HD0.out
  clear hh hm
  have hk : g < wf.heap.size := hgl
  go_wp2_with fail
  clear c0

  go_loopw [48] (fun i wr => ∃ (j : Nat), j ≤ sn ∧ i = .int .i64 j ∧ Hid (WideAt 2 wr wd.heap.size sn scap g off (some ⟨g, off, none⟩) (vc (others vs L key j))) ∧ Hid (Held wr wf.heap.size (.slice lao m lcap) (iv L)) ∧ Hid (Below g wg wr)) (fun i _ => sn - (intOf i).toNat)
  case atStart => exact ⟨0, Nat.zero_le _, rfl, by rw [others_zero]; exact HWA, HV8, Lib.hid (Below.refl _ _)⟩
  case round =>
    clear HWA HV8
    obtain ⟨j, hj, rfl, HWA, HV8, HBel⟩ := hrel
    replace HC := Lib.hid (HC.out.below HBel.out HGB.out.2.1)
    replace HM := Lib.hid (HM.out.below HBel.out HGB.out.2.2.1)
    replace HX := Lib.hid (HX.out.below HBel.out HGB.out.1)
    replace HB := Lib.hid (HB.out.trans (HBel.out.mono HGB.out.2.2.2))
    by_cases hlt : j < sn
    · obtain ⟨vj, hvj⟩ : ∃ v, vs[j]? = some v := ⟨_, List.getElem?_eq_getElem (by rw [HN.out]; exact hlt)⟩
      have HVJ := Lib.hid hvj
      have HLI := Lib.hid (Held.row_lies HV8.out)
      clear hvj
      go_wp2_with fail
      go_loopw [11, 53] (fun s i wq => ∃ (k : Nat), k ≤ m ∧ s = .bool (decide (j ∈ L.take k)) ∧ i = .int .i64 k ∧ wq = wr) (fun _ i _ => m - (intOf i).toNat)
      case atStart => exact ⟨0, Nat.zero_le _, by simp, rfl, rfl⟩
      case round =>
        obtain ⟨k, hk, rfl, rfl, hw⟩ := hrel
        subst hw
        by_cases hkm : k < m
        · obtain ⟨x, hx⟩ : ∃ x, L[k]? = some x := ⟨_, List.getElem?_eq_getElem (by rw [HMM.out]; exact hkm)⟩
          obtain ⟨lb, loff, hla, hcell⟩ := HLI.out k x hx
          subst hla
          have HTk := Lib.hid (show decide (j ∈ L.take (k + 1)) = (decide (j ∈ L.take k) || ((x : Int) == (j : Int))) by
            rw [Bool.eq_iff_iff, Bool.or_eq_true, decide_eq_true_iff, decide_eq_true_iff, beq_iff_eq, List.take_add_one, hx]
            simp only [Option.toList_some, List.mem_append, List.mem_singleton]
            constructor
            · rintro (h | h)
              · exact .inl h
              · right; omega
            · rintro (h | h)
              · exact .inl h
              · right; omega)
          clear hx
          cases hin : decide (j ∈ L.take k) with
          | true =>
            rw [hin, Bool.true_or] at HTk
            clear hin
            go_wp2_with fail
            go_roundw
            case rel => exact ⟨k + 1, by omega, by rw [HTk.out], by go_num, trivial⟩
            case measure => simp [intOf]; omega
          | false =>
            rw [hin, Bool.false_or] at HTk
            clear hin
            go_wp2_with fail
            go_roundw
            case rel => exact ⟨k + 1, by omega, by rw [HTk.out], by go_num, trivial⟩
            case measure => simp [intOf]; omega
        · have hke : L.take k = L := List.take_of_length_le (by rw [HMM.out]; omega)
          rw [hke]
          by_cases hin : j ∈ L
          · have hci : decide (j ∈ L) = true := by simpa using hin
            rw [hci]
            have HW2 := Lib.hid (show WideAt 2 wr wd.heap.size sn scap g off (some ⟨g, off, none⟩) (vc (others vs L key (j + 1))) by rw [others_in hin]; exact HWA.out)
            clear hin hci hke
            go_wp2_with fail
            go_roundw
            case rel => exact ⟨j + 1, by omega, by go_num, HW2, HV8, HBel⟩
            case measure => simp [intOf]; omega
          · have hci : decide (j ∈ L) = false := by simpa using hin
            rw [hci]
            have hjl : j * 2 + 1 < (vc (others vs L key j)).length := by rw [vc_length, others_length, HN.out]; omega
            have hset := vc_set (others vs L key j) j vj key (others_own HVJ.out)
            rw [others_out hin HVJ.out] at hset
            have HW2 := Lib.hid (show WideAt 2 (wr.setCell ⟨g, off + (j * 2 + 1), none⟩ (.string key)) wd.heap.size sn scap g off (some ⟨g, off, none⟩) (vc (others vs L key (j + 1))) by rw [← hset]; exact HWA.out.set (j * 2 + 1) hjl (.string key))
            have HH2 := Lib.hid (HV8.out.other (w' := wr.setCell ⟨g, off + (j * 2 + 1), none⟩ (.string key)) (by rw [setCell_size]; exact Nat.le_refl _) (fun b hb => heap_setCell_other wr ⟨g, off + (j * 2 + 1), none⟩ b _ (by have := HGLt.out; show b ≠ g; omega)))
            have HB2 := Lib.hid (HBel.out.setCell (p := ⟨g, off + (j * 2 + 1), none⟩) (Nat.le_refl g) (.string key))
            have c0 := (HX.out.cell 0).trans HD0.out
            have c1 := HWA.out.cells (j * 2 + 1) _ (List.getElem?_eq_getElem hjl)
            have f1 := HWA.out.free (j * 2 + 1) (by have := HWA.out.le; omega)
            rw [← Nat.add_assoc] at c1 f1 HW2 HH2 HB2
            clear hin hci hke hset
            go_wp2_with fail
            go_roundw
            case rel => exact ⟨j + 1, by omega, by go_num, HW2, HH2, HB2⟩
            case measure => simp [intOf]; omega
    · have hjn : j = sn := by omega
      subst hjn
      have HLW := Lib.hid (Wide.own_lies HWA.out)
      have HOD := Lib.hid (show ∀ W, Below wr.heap.size wr W → CfgOk W ds C (others vs L key j) from fun W hb => by
        rw [← HDS.out]
        exact CfgOk.turn (HOK.out _ (HCI.out.below HB.out)) HN.out.symm (others_length vs L key j) (others_sizes HKEY.out HKZ.out) (HLW.out.below hb))
      clear HWA HV8 HBel hlt hvn
      go_wp2_with (first
        | ((with_reducible refine wpList_load_msgG (.tmp 4) ?_ ?_ G M sl ?_ HM.out HF.out ?_); rfl; rfl; rfl)
        | ((with_reducible refine wpList_load_cfg (.tmp 3) ?_ ?_ D cs ?_ HC.out HCL.out ?_); rfl; rfl; rfl))
      refine (HTG.out wr (HT.out.below HB.out HT.out.size) (HOK.out _ (HCI.out.below HB.out)) ((HR.out.keep HB.out).more HB.out.size)).mono ?_
      rintro e w3 ⟨rfl, hb⟩
      have HBW0 := Lib.hid hb
      replace HC := Lib.hid (HC.out.below hb HC.out.lt)
      replace HM := Lib.hid (HM.out.below hb HM.out.lt)
      replace HX := Lib.hid (HX.out.below hb HX.out.lt)
      replace HB := Lib.hid (HB.out.trans (hb.mono HB.out.size))
      clear hb
      have hz := z16_blk w3
      have hbt := below_setRow ((Below.refl w3.heap.size w3).alloc (Nat.le_refl _) (.cells z16 30)) (Nat.le_refl w3.heap.size) (bv ST).toArray
      have HZ := Lib.hid hz
      have ht3 := hz.setRow (bv ST)
      obtain ⟨wy21, hwy21⟩ : ∃ x, (w3.alloc (.cells z16 30)).setRow w3.heap.size (bv ST).toArray = x := ⟨_, rfl⟩
      rw [hwy21] at hbt ht3
      have HWX := Lib.hid hwy21
      have HTA := Lib.hid ht3
      clear hwy21 ht3 hz
      go_upto_region 21 with ((with_reducible refine wpList_store_tag (.tmp 14) (.tmp 77) ?_ ?_ w3.heap.size (List.replicate 16 0) ST ?_ ?_ ?_ zeros16 HSL.out ?_); rfl; rfl; rfl; rfl; exact HZ.out)
      rw [z16_lit, HWX.out]
      replace HBW0 := Lib.hid (HBW0.out.trans (hbt.mono HBW0.out.size))
      replace HC := Lib.hid (HC.out.below hbt HC.out.lt)
      replace HM := Lib.hid (HM.out.below hbt HM.out.lt)
      replace HX := Lib.hid (HX.out.below hbt HX.out.lt)
      replace HB := Lib.hid (HB.out.trans (hbt.mono HB.out.size))
      clear hbt HZ HWX
      generalize w3.heap.size = TA at HTA ⊢
      have HBW := Lib.hid (show Below wr.heap.size wr wy21 from HBW0.out)
      have HTD := Lib.hid (sealTag_any wy21 (HT.out.below HB.out HT.out.size) (HOD.out _ HBW.out) M sl HF.out ((HR.out.keep HB.out).more HB.out.size))
      rw [others_length, HKE.out, HSO.out, HYE.out] at HTD
      go_wp2_with (first
        | ((with_reducible refine wpList_load_msgG (.tmp 4) ?_ ?_ G M sl ?_ HM.out HF.out ?_); rfl; rfl; rfl)
        | ((with_reducible refine wpList_load_cfg (.tmp 7) ?_ ?_ X ds ?_ HX.out HDL.out ?_); rfl; rfl; rfl))
      refine HTD.out.mono ?_
      rintro e w4 ⟨rfl, hb⟩
      replace HC := Lib.hid (HC.out.below hb HC.out.lt)
      replace HM := Lib.hid (HM.out.below hb HM.out.lt)
      replace HX := Lib.hid (HX.out.below hb HX.out.lt)
      replace HTA := Lib.hid (HTA.out.below hb HTA.out.lt)
      replace HB := Lib.hid (HB.out.trans (hb.mono HB.out.size))
      clear hb
      have hz := z16_blk w4
      have hbt := below_setRow ((Below.refl w4.heap.size w4).alloc (Nat.le_refl _) (.cells z16 30)) (Nat.le_refl w4.heap.size) (bv ST).toArray
      have HZ := Lib.hid hz
      have ht3 := hz.setRow (bv ST)
      obtain ⟨wy22, hwy22⟩ : ∃ x, (w4.alloc (.cells z16 30)).setRow w4.heap.size (bv ST).toArray = x := ⟨_, rfl⟩
      rw [hwy22] at hbt ht3
      have HWX := Lib.hid hwy22
      have HTB := Lib.hid ht3
      clear hwy22 ht3 hz
      go_upto_region 22 with ((with_reducible refine wpList_store_tag (.tmp 16) (.tmp 83) ?_ ?_ w4.heap.size (List.replicate 16 0) ST ?_ ?_ ?_ zeros16 HSL.out ?_); rfl; rfl; rfl; rfl; exact HZ.out)
      rw [z16_lit, HWX.out]
      replace HC := Lib.hid (HC.out.below hbt HC.out.lt)
      replace HM := Lib.hid (HM.out.below hbt HM.out.lt)
      replace HX := Lib.hid (HX.out.below hbt HX.out.lt)
      replace HTA := Lib.hid (HTA.out.below hbt HTA.out.lt)
      replace HB := Lib.hid (HB.out.trans (hbt.mono HB.out.size))
      clear hbt HZ HWX
      generalize w4.heap.size = TB at HTB ⊢
      have hte := tag_eq wy22 ST ST HSL.out HSL.out
      rw [beq_self_eq_true] at hte
      have hyy : (Y == Y) = true := beq_self_eq_true Y
      have HA := Lib.hid (show ∀ (j : Nat) (v : Value), (bv ST)[j]? = some v → wy22.cell? ⟨TA, 0 + j, none⟩ = some v from fun j v hj => by rw [Nat.zero_add]; exact (HTA.out.cell j).trans hj)
      have HBb := Lib.hid (show ∀ (j : Nat) (v : Value), (bv ST)[j]? = some v → wy22.cell? ⟨TB, 0 + j, none⟩ = some v from fun j v hj => by rw [Nat.zero_add]; exact (HTB.out.cell j).trans hj)
      go_wp2_with (first
        | ((with_reducible refine wpList_load_tag (.tmp 14) ?_ ?_ TA 0 ST ?_ HSL.out HA.out ?_); rfl; rfl; rfl)
        | ((with_reducible refine wpList_load_tag (.tmp 16) ?_ ?_ TB 0 ST ?_ HSL.out HBb.out ?_); rfl; rfl; rfl))
      go_ret
      exact ⟨rfl, HB.out⟩
end Go.Proofs.YtnbdpalbompjlaaDoor
