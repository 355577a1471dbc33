/-
  What the reference's Speakers answers.
-/
import Derived.Test.YtnbdpalbompjlaaDoorM13
import Derived.Test.YtnbdpalbompjlaaDoorWRef
namespace Go.Proofs.YtnbdpalbompjlaaDoor
open Go.RowKit
set_option maxRecDepth 100000

set_option maxHeartbeats 8000000 in
theorem refspk_any (w : World) {cs : List Value} {C : Nat} {vs : List (Int × ByteArray)} (hc : CfgOk w cs C vs) (M : Msg) (sl : Value) (hf : M.Fits) (hr : BRow w w.heap.size sl M.l) (hbl : M.l.length ≤ 1000) :
    Calls Tryd.prog 12 #[.agg cs.toArray, .agg (mc M sl).toArray] w fun e w' => ∃ v, e = .returned (.tuple #[v, .bool (spk (comm M.s vs.length C) M).isSome]) ∧ Held w' w.heap.size v (iv ((spk (comm M.s vs.length C) M).getD [])) ∧ Below w.heap.size w w' := by
  have HF := Lib.hid hf
  have HC0 := Lib.hid ((Blk.new w 24 cs.toArray).alloc (.cells (mc M sl).toArray 32))
  have HM0 := Lib.hid (Blk.newAt (w.alloc (.cells cs.toArray 24)) 32 (mc M sl).toArray (w.heap.size + 1) (by simp))
  have hb0 : Below w.heap.size w ((w.alloc (.cells cs.toArray 24)).alloc (.cells (mc M sl).toArray 32)) := ((Below.refl w.heap.size w).alloc (Nat.le_refl _) _).alloc (by simp) _
  have HR0 := Lib.hid (hr.bits hb0)
  have HCF0 := Lib.hid (hc.below hb0)
  have HB0 := Lib.hid hb0
  obtain ⟨ao, cap, hsl⟩ := hr.form
  have HSL := Lib.hid hsl
  obtain ⟨K, hK⟩ : ∃ K, K = comm M.s vs.length C := ⟨_, rfl⟩
  have HK := Lib.hid hK.symm
  rw [← hK]
  clear hK hb0 hr hc hf hsl
  obtain ⟨G, hG⟩ : ∃ G, G = w.heap.size + 1 := ⟨_, rfl⟩
  obtain ⟨D, hD⟩ : ∃ D, D = w.heap.size := ⟨_, rfl⟩
  go_enter Tryd.func12, Tryd.ntmps12
  go_upto_region 1 with fail
  generalize (w.alloc (.cells cs.toArray 24)).alloc (.cells (mc M sl).toArray 32) = w0 at HB0 HC0 HM0 HR0 HCF0 ⊢
  rw [← hG] at HM0 ⊢
  rw [← hD] at HC0 ⊢
  clear hG hD
  go_wp2_with ((with_reducible refine wpList_load_msgG (.tmp 3) ?_ ?_ G M sl ?_ HM0.out HF.out ?_); rfl; rfl; rfl)
  refine (refgood_any w0 M sl HF.out HR0.out hbl).mono ?_
  rintro e w1 ⟨rfl, hb1⟩
  have HC1 := Lib.hid (HC0.out.below hb1 HC0.out.lt)
  have HM1 := Lib.hid (HM0.out.below hb1 HM0.out.lt)
  have HR1 := Lib.hid (HR0.out.bits hb1)
  have HCF := Lib.hid (HCF0.out.below hb1)
  have HB1 := Lib.hid (HB0.out.trans (hb1.mono HB0.out.size))
  clear hb1 HC0 HM0 HR0 HCF0 HB0
  cases hgd : msgGood M with
  | false =>
    have HS := Lib.hid (spk_bad (K := K) hgd)
    clear hgd
    go_wp2_with fail
    go_ret2
    exact ⟨.slice none 0 0, by rw [HS.out]; rfl, by rw [HS.out]; exact Held.nil _ _, HB1.out⟩
  | true =>
  obtain ⟨c0, c1, c34, c35, c36⟩ := HM1.out.msg HF.out
  have hsp := msg_spans hgd
  obtain ⟨m, hm⟩ : ∃ m : Nat, M.m = m := ⟨M.m.toNat, by omega⟩
  have HMM := Lib.hid hm
  by_cases k3 : M.k = 3
  · have hs1 := spk_three (K := K) hgd k3
    have HY := Lib.hid (show (spk K M).isSome = fits K M.l by
      rw [hs1]
      cases h : fits K M.l <;> simp)
    have HLK := Lib.hid (show (spk K M).getD [] = picked K M.l by
      rw [hs1]
      by_cases h : fits K M.l = true
      · simp [h]
      · simp [h, picked])
    rw [k3] at c0
    rw [HSL.out] at c36
    have HPK := Lib.hid (refPick_cfg w1 HCF.out M.s sl M.l HR1.out)
    rw [HSL.out] at HPK
    clear hs1 hgd k3 hsp hm
    go_wp2_with ((with_reducible refine wpList_load_cfg (.tmp 2) ?_ ?_ D cs ?_ HC1.out HCF.out.len ?_); rfl; rfl; rfl)
    refine HPK.out.mono ?_
    rintro e w2 ⟨v, rfl, hh, hb⟩
    rw [HK.out] at hh
    rw [HK.out]
    have HH := Lib.hid hh
    have HB2 := Lib.hid (HB1.out.trans (hb.mono HB1.out.size))
    clear hh hb c0 c1 c34 c35 c36
    go_wp2_with fail
    go_ret2
    exact ⟨v, by rw [HY.out]; rfl, by rw [HLK.out]; exact HH.out.mono HB1.out.size, HB2.out⟩
  · have hk3 : (M.k == 3) = false := by simpa using k3
    obtain ⟨P, hP⟩ : ∃ P, placeFrom (m : Int) 0 K = P := ⟨_, rfl⟩
    have HP := Lib.hid hP
    have hp := placeFrom_low (m : Int) K 0
    rw [hP] at hp
    have HY1 := Lib.hid (show M.k = 1 → P = 0 → spk K M = some [m] by
      intro k1 p
      have h := spk_one (K := K) hgd k1
      rw [hm, if_pos ((firstOf_place (by omega) K).2 (by rw [hP]; exact p))] at h
      simpa using h)
    have HY2 := Lib.hid (show M.k = 1 → P ≠ 0 → spk K M = none by
      intro k1 p
      have h := spk_one (K := K) hgd k1
      rw [hm, if_neg (fun e => p (by rw [← hP]; exact (firstOf_place (by omega) K).1 e))] at h
      exact h)
    have HY3 := Lib.hid (show M.k = 2 → 0 ≤ P → spk K M = some [m] by
      intro k2 p
      have h := spk_two (K := K) hgd k2
      rw [hm, hP, if_pos p] at h
      simpa using h)
    have HY4 := Lib.hid (show M.k = 2 → P < 0 → spk K M = none by
      intro k2 p
      have h := spk_two (K := K) hgd k2
      rw [hm, hP, if_neg (by omega)] at h
      exact h)
    have hkk := msg_kinds hgd
    have HPL := Lib.hid (refPlace_cfg w1 HCF.out M.s (m : Int))
    rw [HMM.out] at c34
    clear hgd hsp hm hP HSL
    go_wp2_with ((with_reducible refine wpList_load_cfg (.tmp 2) ?_ ?_ D cs ?_ HC1.out HCF.out.len ?_); rfl; rfl; rfl)
    refine HPL.out.mono ?_
    rintro e w2 ⟨rfl, hb⟩
    rw [HK.out, HP.out]
    have HM2 := Lib.hid (HM1.out.below hb HM1.out.lt)
    have HB2 := Lib.hid (HB1.out.trans (hb.mono HB1.out.size))
    clear hb c0 c1 c34 c35 c36 HPL HM1
    obtain ⟨c0, _, c34, _, _⟩ := HM2.out.msg HF.out
    rw [HMM.out] at c34
    have HN := Lib.hid (held_int w2 m)
    have HBN := Lib.hid (HB2.out.alloc HB2.out.size (.cells #[.int .i64 (m : Int)] 3))
    have HBl := Lib.hid HB2.out.size
    by_cases k1 : M.k = 1
    · rw [k1] at c0
      by_cases p0 : P = 0
      · have HS := Lib.hid (HY1.out k1 p0)
        subst p0
        clear k1 hkk hp hk3 k3
        go_wp2_with fail
        go_ret2
        exact ⟨_, by rw [HS.out]; rfl, by rw [HS.out]; exact HN.out.mono HBl.out, HBN.out⟩
      · have HS := Lib.hid (HY2.out k1 p0)
        clear k1 hkk hk3 k3
        rcases hp with hp | hp
        · subst hp
          go_wp2_with fail
          go_ret2
          exact ⟨.slice none 0 0, by rw [HS.out]; rfl, by rw [HS.out]; exact Held.nil _ _, HB2.out⟩
        · have p1 : ¬ P < 0 := by omega
          have p2 : 0 < P := by omega
          clear hp p0
          go_wp2_with fail
          go_ret2
          exact ⟨.slice none 0 0, by rw [HS.out]; rfl, by rw [HS.out]; exact Held.nil _ _, HB2.out⟩
    · have k2 : M.k = 2 := by omega
      rw [k2] at c0
      rcases hp with hp | hp
      · have HS := Lib.hid (HY4.out k2 (by omega))
        subst hp
        clear k1 k2 hkk hk3 k3
        go_wp2_with fail
        go_ret2
        exact ⟨.slice none 0 0, by rw [HS.out]; rfl, by rw [HS.out]; exact Held.nil _ _, HB2.out⟩
      · have HS := Lib.hid (HY3.out k2 (by omega))
        have p1 : ¬ P < 0 := by omega
        clear k1 k2 hkk hk3 k3 hp
        go_wp2_with fail
        go_ret2
        exact ⟨_, by rw [HS.out]; rfl, by rw [HS.out]; exact HN.out.mono HBl.out, HBN.out⟩
end Go.Proofs.YtnbdpalbompjlaaDoor
