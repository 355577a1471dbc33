/-
  What slices.Clone of a row and seal.Sign answer.
-/
import Derived.Test.YtnbdpalbompjlaaDoorM14
import Derived.Test.YtnbdpalbompjlaaDoorM9
namespace Go.Proofs.YtnbdpalbompjlaaDoor
open Go.RowKit
set_option maxRecDepth 100000

theorem BRow.lies {w : World} {B : Nat} {ao : Option Addr} {n cap : Nat} {l : List Bool} (h : BRow w B (.slice ao n cap) l) : l.length = n ∧ ∃ b off, Lies w B ao b off (ov l) := by
  obtain ⟨ao', cap', b, off, he, q1, q2, q3, q4, q5⟩ := h
  cases he
  exact ⟨rfl, b, off, fun h0 => q3 (by simpa [ov] using h0), fun h0 => q4 (by simpa [ov] using h0), fun j u hj => by
    simp only [ov, List.getElem?_map, Option.map_eq_some_iff] at hj
    obtain ⟨y, hy, rfl⟩ := hj
    exact q5 j y hy⟩

theorem Held.other {w w' : World} {base : Nat} {v : Value} {xs : List Value} (h : Held w base v xs) (hs : w.heap.size ≤ w'.heap.size) (hb : ∀ g, base ≤ g → w'.heap[g]? = w.heap[g]?) : Held w' base v xs := by
  obtain ⟨n, cap, g, off, ao, rfl, h⟩ := h
  exact ⟨n, cap, g, off, ao, rfl, h.carry hs fun hc => hb g (h.own _ (h.addr hc))⟩
theorem eql_nil (w : World) (ao : Option Addr) (n cap : Nat) : (binOp .eql 28 (.slice ao n cap) (.slice none 0 0)).run Tryd.prog w = .ok (.bool ao.isNone) w := by
  have h := run_equal_slice_nil (P := Tryd.prog) w 28 4 ao n cap Tryd.underlying28
  simp only [binOp]
  simp [h]

set_option maxHeartbeats 4000000 in
theorem clone_any (w : World) (sl : Value) (l : List Bool) (hr : BRow w w.heap.size sl l) (hn : l.length ≤ 1000) :
    Calls Tryd.prog 41 #[sl] w fun e w' => ∃ v, e = .returned v ∧ Held w' w.heap.size v (ov l) ∧ Below w.heap.size w w' := by
  obtain ⟨i0, hi0, hz0, hz1, hz2⟩ := info_parts Tryd.infoB
  obtain ⟨ao, cap, rfl⟩ := hr.form
  obtain ⟨_, b, off, hl⟩ := hr.lies
  cases ao with
  | none =>
    have h0 : l = [] := by
      apply Classical.byContradiction
      intro h
      have h1 : 0 < (ov l).length := by simp [ov]; exact List.length_pos_iff.2 h
      cases hl.addr h1
    subst h0
    have heq := eql_nil w none 0 cap
    clear hl hr
    go_enter Tryd.func41, Tryd.ntmps41
    go_wp2_with fail
    go_ret
    exact ⟨_, rfl, Held.nil _ _, Below.refl _ _⟩
  | some ad =>
    have HL := Lib.hid hl
    have HH := Lib.hid (show Held (w.alloc (.cells #[] 4)) w.heap.size (.slice (some ⟨w.heap.size, 0, none⟩) 0 0) [] from held_new w 4 [] 0 rfl (by unfold maxLen; omega))
    have hb1 : Below w.heap.size w (w.alloc (.cells #[] 4)) := (Below.refl _ _).alloc (Nat.le_refl _) _
    have HB1 := Lib.hid hb1
    have HSrc := Lib.hid ((hl.keep hb1).src cap 28 4 Tryd.underlying28 (n := l.length) (k := 1) (by simp [ov]) (by intro u hu; simp only [ov, List.mem_map] at hu; obtain ⟨x, _, rfl⟩ := hu; rfl) (by omega) (P := Tryd.prog))
    obtain ⟨n, hnn⟩ : ∃ n, n = l.length := ⟨_, rfl⟩
    rw [← hnn] at HSrc hn ⊢
    have HN := Lib.hid hnn
    have heq := eql_nil w (some ad) n cap
    clear hl hr hb1 hnn
    go_enter Tryd.func41, Tryd.ntmps41
    go_wp2_with (at_builtin; refine wpList_append_held rfl _ _ 28 28 rfl rfl HH.out 4 i0 (.bool false) 1 Tryd.underlying28 hi0 hz0 hz1 hz2 rfl _ rfl n (ov l) HSrc.out ?e2 ?e3 ?e4 ?_)
    case e2 => unfold maxLen; simp; omega
    case e3 => first | omega | (simp; omega)
    all_goals (try exact HB1.out.size)
    intro v2 w3 hh hg
    have HB3 := Lib.hid (show Below w.heap.size w w3 from HB1.out.trans (hg.below HH.out HB1.out.size))
    have HR3 := Lib.hid (show Held w3 w.heap.size v2 (ov l) by simpa using hh)
    clear hh hg HSrc HH
    go_wp2_with fail
    go_ret
    exact ⟨v2, rfl, HR3.out, HB3.out⟩

/-- A message with its tag; an empty one, if nobody speaks. -/
def signM (vs : List (Int × ByteArray)) (K : List Nat) (M : Msg) : Msg := if (spk K M).isSome = true then { M with G := sealT vs K M } else zeroMsg
theorem signM_fits {vs : List (Int × ByteArray)} {K : List Nat} {M : Msg} (h : M.Fits) : (signM vs K M).Fits := by
  unfold signM
  split
  · exact ⟨h.T, sealT_length vs K M, h.b⟩
  · exact zeroMsg_fits
theorem signM_bits {vs : List (Int × ByteArray)} {K : List Nat} {M : Msg} : (signM vs K M).l.length ≤ M.l.length := by
  unfold signM
  split
  · exact Nat.le_refl _
  · simp [zeroMsg]

set_option maxHeartbeats 8000000 in
theorem sign_any (w : World) (hT : Tabs w) {cs : List Value} {C : Nat} {vs : List (Int × ByteArray)} (hc : CfgOk w cs C vs) (M : Msg) (sl : Value) (hf : M.Fits) (hr : BRow w w.heap.size sl M.l) :
    Calls Tryd.prog 21 #[.agg cs.toArray, .agg (mc M sl).toArray] w fun e w' => ∃ su, e = .returned (.tuple #[.agg (mc (signM vs (comm M.s vs.length C) M) su).toArray, .bool (spk (comm M.s vs.length C) M).isSome]) ∧ BRow w' w'.heap.size su (signM vs (comm M.s vs.length C) M).l ∧ Below w.heap.size w w' := by
  have HF := Lib.hid hf
  have HC0 := Lib.hid (show Blk _ w.heap.size _ cs from ((Blk.new w 24 cs.toArray).alloc (.cells (mc M sl).toArray 32)).alloc (.cells zcells 32))
  have HM0 := Lib.hid (show Blk _ (w.heap.size + 1) _ (mc M sl) from (Blk.newAt (w.alloc (.cells cs.toArray 24)) 32 (mc M sl).toArray (w.heap.size + 1) (by simp)).alloc (.cells zcells 32))
  have hz := zero_msg ((w.alloc (.cells cs.toArray 24)).alloc (.cells (mc M sl).toArray 32))
  rw [World.size_alloc, World.size_alloc] at hz
  have HZ0 := Lib.hid (show Blk _ (w.heap.size + 2) _ _ from hz)
  have hb0 : Below w.heap.size w (((w.alloc (.cells cs.toArray 24)).alloc (.cells (mc M sl).toArray 32)).alloc (.cells zcells 32)) := (((Below.refl w.heap.size w).alloc (Nat.le_refl _) _).alloc (by simp) _).alloc (by simp; omega) _
  have HRK := Lib.hid (hr.keep hb0)
  have HR0 := Lib.hid (hr.bits hb0)
  have HCF0 := Lib.hid (hc.below hb0)
  have HB0 := Lib.hid hb0
  have HTGC := Lib.hid (sealTag_any _ (hT.below hb0 hT.size) HCF0.out M sl hf HR0.out)
  obtain ⟨K, hK⟩ : ∃ K, K = comm M.s vs.length C := ⟨_, rfl⟩
  rw [← hK] at HTGC ⊢
  have hsl := sealT_length vs K M
  obtain ⟨ST, hST⟩ : ∃ ST, sealT vs K M = ST := ⟨_, rfl⟩
  obtain ⟨Y, hY⟩ : ∃ Y, (spk K M).isSome = Y := ⟨_, rfl⟩
  obtain ⟨SM, hSM⟩ : ∃ SM, signM vs K M = SM := ⟨_, rfl⟩
  have HSM := Lib.hid (show SM = if Y = true then { M with G := ST } else zeroMsg by rw [← hSM, signM, hY, hST])
  have HLN := Lib.hid (show Y = true → M.l.length ≤ 1000 by
    intro y
    rw [y] at hY
    obtain ⟨l, hl⟩ := Option.isSome_iff_exists.1 hY
    have := msg_bits (spk_good hl)
    omega)
  rw [hST, hY] at HTGC
  rw [hST] at hsl
  rw [hSM, hY]
  obtain ⟨ao, cap, hform⟩ := hr.form
  have HSL := Lib.hid hform
  clear hK hb0 hr hc hf hT hST hY hSM hz hform
  obtain ⟨Z, hZ⟩ : ∃ Z, Z = w.heap.size + 2 := ⟨_, rfl⟩
  obtain ⟨G, hG⟩ : ∃ G, G = w.heap.size + 1 := ⟨_, rfl⟩
  obtain ⟨D, hD⟩ : ∃ D, D = w.heap.size := ⟨_, rfl⟩
  have hGZ : G ≠ Z := by omega
  have HGl := Lib.hid (show w.heap.size ≤ G by omega)
  have HZl := Lib.hid (show w.heap.size ≤ Z by omega)
  have HGZ := Lib.hid hGZ
  go_enter Tryd.func21, Tryd.ntmps21
  go_upto_region 1 with fail
  rw [zcells_lit]
  generalize ((w.alloc (.cells cs.toArray 24)).alloc (.cells (mc M sl).toArray 32)).alloc (.cells zcells 32) = w0 at HB0 HC0 HM0 HZ0 HR0 HRK HCF0 HTGC ⊢
  rw [← hZ] at HZ0
  rw [← hG] at HM0
  rw [← hD] at HC0 HRK
  (try simp only [Nat.add_assoc, Nat.reduceAdd])
  rw [← hZ, ← hG, ← hD]
  have HDl := Lib.hid (show D ≤ G ∧ D ≤ Z by omega)
  clear hG hD hZ hGZ
  go_wp2_with (first
    | ((with_reducible refine wpList_load_msgG (.tmp 3) ?_ ?_ G M sl ?_ HM0.out HF.out ?_); rfl; rfl; rfl)
    | ((with_reducible refine wpList_load_cfg (.tmp 2) ?_ ?_ D cs ?_ HC0.out HCF0.out.len ?_); rfl; rfl; rfl))
  refine HTGC.out.mono ?_
  rintro e w1 ⟨rfl, hb1⟩
  have HM1 := Lib.hid (HM0.out.below hb1 HM0.out.lt)
  have HO1 := Lib.hid (HZ0.out.below hb1 HZ0.out.lt)
  have HRK1 := Lib.hid (HRK.out.keep (hb1.mono (Nat.le_trans HDl.out.1 (Nat.le_of_lt HM0.out.lt))))
  have HB1 := Lib.hid (HB0.out.trans (hb1.mono HB0.out.size))
  have HZ1 := Lib.hid (z16_blk w1)
  have HM2 := Lib.hid (HM1.out.alloc (.cells z16 30))
  have HO2 := Lib.hid (HO1.out.alloc (.cells z16 30))
  have hbt := below_setRow ((Below.refl w1.heap.size w1).alloc (Nat.le_refl _) (.cells z16 30)) (Nat.le_refl w1.heap.size) (bv ST).toArray
  have HZ3 := Lib.hid (HZ1.out.setRow (bv ST))
  have hne : G ≠ w1.heap.size := by have := HM1.out.lt; omega
  have hne2 : Z ≠ w1.heap.size := by have := HO1.out.lt; omega
  have HM3 := Lib.hid (HM2.out.setRow_other (bv ST).toArray hne)
  have HO3 := Lib.hid (HO2.out.setRow_other (bv ST).toArray hne2)
  have HRK3 := Lib.hid (HRK1.out.keep (hbt.mono (Nat.le_trans HDl.out.1 (Nat.le_of_lt HM1.out.lt))))
  have HB3 := Lib.hid (HB1.out.trans (hbt.mono HB1.out.size))
  obtain ⟨w3, hw3⟩ : ∃ x, (w1.alloc (.cells z16 30)).setRow w1.heap.size (bv ST).toArray = x := ⟨_, rfl⟩
  rw [hw3] at HZ3 HM3 HO3 HB3 HRK3
  have HW3 := Lib.hid hw3
  clear hb1 HC0 HM0 HZ0 HR0 HCF0 HB0 hw3 HM1 HM2 HO1 HO2 HB1 HTGC hbt HRK HRK1 hne2
  go_upto_region 2 with ((with_reducible refine wpList_store_tag (.tmp 6) (.tmp 12) ?_ ?_ w1.heap.size (List.replicate 16 0) ST ?_ ?_ ?_ zeros16 hsl ?_); rfl; rfl; rfl; rfl; exact HZ1.out)
  rw [z16_lit, HW3.out]
  have HTGne := Lib.hid hne
  clear HW3 HZ1 hne
  generalize w1.heap.size = T at HZ3 HTGne ⊢
  have HTZ := Lib.hid (show ∀ (j : Nat) (v : Value), (bv ST)[j]? = some v → w3.cell? ⟨T, 0 + j, none⟩ = some v from fun j v hj => by rw [Nat.zero_add]; exact (HZ3.out.cell j).trans hj)
  cases Y with
  | false =>
    go_wp2_with (first
      | ((with_reducible refine wpList_build_msg ?_ 32 #[] ?_ (mc zeroMsg (.slice none 0 0)).toArray ?_ ?_); rfl; rfl; exact msg_built0)
      | ((with_reducible refine wpList_store_msg (.tmp 4) (.tmp 16) ?_ ?_ Z zeroMsg zeroMsg (.slice none 0 0) (.slice none 0 0) ?_ ?_ ?_ zeroMsg_fits zeroMsg_fits ?_ ?_); rfl; rfl; rfl; rfl; exact HO3.out; rfl))
    refine ret_msg (g := Z) (M := zeroMsg) (sl := .slice none 0 0) rfl rfl (HO3.out.setRow (mc zeroMsg (.slice none 0 0))) zeroMsg_fits rfl ?_
    exact ⟨.slice none 0 0, by rw [HSM.out]; rfl, by rw [HSM.out]; exact BRow.nil _ _, below_setRow HB3.out HZl.out _⟩
  | true =>
    obtain ⟨N, hN⟩ : ∃ N, N = { M with G := ST } := ⟨_, rfl⟩
    have HSN := Lib.hid (show SM = N by rw [HSM.out, hN]; rfl)
    have HNF := Lib.hid (show N.Fits by rw [hN]; exact ⟨HF.out.T, hsl, HF.out.b⟩)
    have HNL := Lib.hid (show N.l = M.l by rw [hN])
    have HN36 := Lib.hid (show ∀ u : Value, (mc N sl).set 36 u = mc N u from fun u => mc_set36 HNF.out sl u N.l)
    have HM4 := Lib.hid (HM3.out.setRow (mc N sl))
    have HO4 := Lib.hid (HO3.out.setRow_other (mc N sl).toArray HGZ.out.symm)
    have hb4 := below_setRow HB3.out HGl.out (mc N sl).toArray
    have hr4 := HRK3.out.keep (below_setRow (Below.refl D w3) HDl.out.1 (mc N sl).toArray)
    obtain ⟨w4, hw4⟩ : ∃ x, w3.setRow G (mc N sl).toArray = x := ⟨_, rfl⟩
    rw [hw4] at HM4 HO4 hb4 hr4
    have HW4 := Lib.hid hw4
    have HB4 := Lib.hid hb4
    have hsz4 := Nat.le_trans HDl.out.1 (Nat.le_of_lt HM4.out.lt)
    have HCL := Lib.hid (clone_any w4 sl M.l (hr4.more hsz4) (HLN.out rfl))
    rw [HSL.out] at HCL
    have HEN := Lib.hid (show (mc { M with G := ST } sl).toArray = (mc N sl).toArray by rw [hN])
    clear hw4 hb4 hr4 hN hsz4 HRK3
    go_upto_region 5 with (first
      | ((with_reducible refine wpList_load_tag (.tmp 6) ?_ ?_ T 0 ST ?_ hsl HTZ.out ?_); rfl; rfl; rfl)
      | ((with_reducible refine wpList_store_tagM (.tmp 18) (.tmp 17) ?_ ?_ G M sl ST ?_ ?_ HM3.out HF.out hsl ?_); rfl; rfl; rfl; rfl))
    rw [HEN.out, HW4.out]
    obtain ⟨_, _, _, _, c36⟩ := HM4.out.msg HNF.out
    rw [HSL.out] at c36
    clear HM3 HO3 HB3 HZ3 HTZ
    go_wp2_with fail
    refine HCL.out.mono ?_
    rintro e w5 ⟨v, rfl, hr5, hb5⟩
    have HM5 := Lib.hid (HM4.out.below hb5 HM4.out.lt)
    have HO5 := Lib.hid (HO4.out.below hb5 HO4.out.lt)
    have HB5 := Lib.hid (HB4.out.trans (hb5.mono HB4.out.size))
    obtain ⟨vo, vc', hvf⟩ := hr5.brow.form
    have f36 := HM5.out.free 36
    have g36 := (HM5.out.msg HNF.out).2.2.2.2
    subst hvf
    have HG4 := Lib.hid HM4.out.lt
    have HZ4 := Lib.hid HO4.out.lt
    have hm6 := HM5.out.set 36 (.slice vo M.l.length vc')
    rw [HN36.out] at hm6
    have ho6 := HO5.out.other ⟨G, 36, none⟩ (.slice vo M.l.length vc') HGZ.out.symm
    have hv6 := hr5.other (w' := w5.setCell ⟨G, 36, none⟩ (.slice vo M.l.length vc')) (((Below.refl 0 w5).setCell (p := ⟨G, 36, none⟩) (Nat.zero_le _) _).size) (fun g hg => heap_setCell_other w5 ⟨G, 36, none⟩ g _ (by have := HG4.out; show g ≠ G; omega))
    have hb6 := HB5.out.setCell (p := ⟨G, 36, none⟩) HGl.out (.slice vo M.l.length vc')
    obtain ⟨w6, hw6⟩ : ∃ x, w5.setCell ⟨G, 36, none⟩ (.slice vo M.l.length vc') = x := ⟨_, rfl⟩
    rw [hw6] at hm6 ho6 hv6 hb6
    have HW6 := Lib.hid hw6
    have HM6 := Lib.hid hm6
    have HO6 := Lib.hid ho6
    have HV6 := Lib.hid hv6
    have HB6 := Lib.hid hb6
    clear hw6 hm6 ho6 hv6 hb6 hr5 hb5 c36 HCL HM4 HO4 HB4 HM5 HO5 HB5
    go_upto_region 6 with fail
    rw [HW6.out]
    clear f36 g36 HW6
    go_wp2_with (first
      | ((with_reducible refine wpList_load_msgG (.tmp 3) ?_ ?_ G N (.slice vo M.l.length vc') ?_ HM6.out HNF.out ?_); rfl; rfl; rfl)
      | ((with_reducible refine wpList_store_msg (.tmp 4) (.tmp 23) ?_ ?_ Z zeroMsg N (.slice none 0 0) (.slice vo M.l.length vc') ?_ ?_ ?_ zeroMsg_fits HNF.out ?_ ?_); rfl; rfl; rfl; rfl; exact HO6.out; rfl))
    have HV7 := HV6.out.other (w' := w6.setRow Z (mc N (.slice vo M.l.length vc')).toArray) ((below_setRow (Below.refl 0 w6) (Nat.zero_le _) _).size) (fun g hg => Go.setRow_other w6 Z g _ (by have := HZ4.out; omega))
    refine ret_msg (g := Z) (M := N) (sl := .slice vo M.l.length vc') rfl rfl (HO6.out.setRow (mc N (.slice vo M.l.length vc'))) HNF.out rfl ?_
    exact ⟨.slice vo M.l.length vc', by rw [HSN.out]; rfl, by rw [HSN.out, HNL.out]; exact HV7.brow, below_setRow HB6.out HZl.out _⟩
end Go.Proofs.YtnbdpalbompjlaaDoor
