/-
  WireBack, walked.
-/
import Derived.Test.YtickcajihaejkaaAlive7
import Derived.Test.YtickcajihaejkaaWRef
import Derived.Test.YtickcajihaejkaaWSame
import Derived.Deep.DeepCutAuto
namespace Go.Proofs.Ytickcajihaejkaa
open Go.RowKit
set_option maxRecDepth 100000

theorem back_cut {s : List UInt8} {X : Msg} (h : Reads s (some X)) (hk : X.k ≠ 3) {n : Nat} (hn : n ≤ s.length) {o : Option Msg} (ho : Reads (s.take n) o) : o.isSome = decide (n = s.length) := by
  by_cases e : n = s.length
  · rw [List.take_of_length_le (by omega)] at ho
    rw [ho.unique h, decide_eq_true e]
    rfl
  · rw [decide_eq_false e]
    cases o with
    | none => rfl
    | some Y =>
      obtain ⟨g1, f1, e1⟩ := h
      obtain ⟨g2, f2, e2⟩ := ho
      have r1 := msg_ranged g1 f1
      have r2 := msg_ranged g2 f2
      exfalso
      have l2 := msgB_length r2
      rw [e2, List.length_take] at l2
      have := reads_len r1 r2 hk (by rw [e2, e1, List.take_take, Nat.min_eq_left (by omega)])
      rw [e2, e1, List.length_take] at this
      omega

theorem back_more {s : List UInt8} {X : Msg} (h : Reads s (some X)) (hk : X.k ≠ 3) (m : Nat) {o : Option Msg} (ho : Reads (s ++ s.take m) o) : o.isSome = decide (m = 0) := by
  by_cases e : m = 0
  · subst e
    rw [List.take_zero, List.append_nil] at ho
    rw [ho.unique h]
    rfl
  · rw [decide_eq_false e]
    cases o with
    | none => rfl
    | some Y =>
      obtain ⟨g1, f1, e1⟩ := h
      obtain ⟨g2, f2, e2⟩ := ho
      have r1 := msg_ranged g1 f1
      have r2 := msg_ranged g2 f2
      exfalso
      have l1 := msgB_length r1
      rw [e1] at l1
      have := reads_len r1 r2 hk (by rw [e2, e1, List.take_append_of_le_length (by omega)])
      rw [e2, e1, List.length_append, List.length_take] at this
      omega

theorem reads_fits {s : List UInt8} {o : Option Msg} (h : Reads s o) : (o.getD zeroMsg).Fits := by
  cases o with
  | none => exact zeroMsg_fits
  | some X => exact h.2.1

/-- A message laid into a new block. -/
theorem stored (w : World) (M : Msg) (sl : Value) (hr : BRow w w.heap.size sl M.l) :
    ∃ w', (w.alloc (.cells zcells 30)).setRow w.heap.size (mc M sl).toArray = w' ∧ Blk w' w.heap.size 30 (mc M sl) ∧ BRow w' w'.heap.size sl M.l ∧ Below w.heap.size w w' := by
  have hb := below_setRow ((Below.refl _ _).alloc (Nat.le_refl _) (.cells zcells 30)) (Nat.le_refl w.heap.size) (mc M sl).toArray
  exact ⟨_, rfl, (zero_new w).setRow (mc M sl), hr.bits hb, hb⟩

set_option maxHeartbeats 16000000 in
theorem back_any (w : World) (M : Msg) (sl : Value) (s : ByteArray) (cut : Int) (hf : M.Fits) (hr : BRow w w.heap.size sl M.l) :
    Calls Try.prog 4 #[.agg (mc M sl).toArray, .string s, .int .i64 cut] w fun e w' => e = .returned (.bool true) ∧ Below w.heap.size w w' := by
  have hk0 := Blk.new w 30 (mc M sl).toArray
  have hb0 := (Below.refl w.heap.size w).alloc (Nat.le_refl _) (.cells (mc M sl).toArray 30)
  have HR := Lib.hid (hr.bits hb0)
  have HF := Lib.hid hf
  have HBL := Lib.hid hb0
  have HK := Lib.hid (show Blk _ w.heap.size 30 (mc M sl) from hk0)
  generalize hw0 : w.alloc (.cells (mc M sl).toArray 30) = w0 at *
  obtain ⟨g, hg⟩ : ∃ g, g = w.heap.size := ⟨_, rfl⟩
  have HW0 := Lib.hid hw0
  have HG := Lib.hid hg
  rw [← hg] at HK HBL ⊢
  clear hk0 hb0 hr hw0 hf hg
  go_enter Try.func4, Try.ntmps4
  go_upto_region 1 with fail
  rw [HW0.out, ← HG.out]
  go_wp2_with fail
  refine (alive_any w0).mono ?_
  rintro e w1 ⟨rfl, hb1⟩
  have HK1 := Lib.hid (HK.out.below hb1 HK.out.lt)
  have HR1 := Lib.hid (HR.out.bits hb1)
  have HB1 := Lib.hid (HBL.out.trans (hb1.mono (Nat.le_of_lt HK.out.lt)))
  clear hb1 HK HR HBL HW0
  go_wp2_with ((with_reducible refine wpList_load_msgG (.tmp 3) ?_ ?_ g M sl ?_ HK1.out HF.out ?_); rfl; rfl; rfl)
  refine (great_any w1 M sl HF.out HR1.out).mono ?_
  rintro e w2 ⟨rfl, hb2⟩
  have HK2 := Lib.hid (HK1.out.below hb2 HK1.out.lt)
  have HR2 := Lib.hid (HR1.out.bits hb2)
  have HB2 := Lib.hid (HB1.out.trans (hb2.mono (Nat.le_of_lt HK1.out.lt)))
  clear hb2 HK1 HR1 HB1
  by_cases hl : 200 < (M.l.length : Int)
  · rw [show decide (200 < (M.l.length : Int)) = true by simpa using hl]
    go_wp2_with fail
    go_ret
    exact ⟨rfl, HG.out ▸ HB2.out⟩
  rw [show decide (200 < (M.l.length : Int)) = false by simpa using hl]
  have HLN := Lib.hid (show M.l.length ≤ 1000 by omega)
  clear hl
  by_cases hs : 500 < (s.size : Int)
  · go_wp2_with fail
    go_ret
    exact ⟨rfl, HG.out ▸ HB2.out⟩
  have hs' : s.size ≤ 500 := by omega
  have HE := Lib.hid (encode_any w2 M sl HF.out HR2.out)
  obtain ⟨b, hb⟩ : ∃ P : ByteArray, ⟨(encB M).toArray⟩ = P := ⟨_, rfl⟩
  rw [hb] at HE
  have HBE := Lib.hid hb
  clear hb
  go_wp2_with ((with_reducible refine wpList_load_msgG (.tmp 3) ?_ ?_ g M sl ?_ HK2.out HF.out ?_); rfl; rfl; rfl)
  refine HE.out.mono ?_
  rintro e w3 ⟨rfl, hb3⟩
  have HK3 := Lib.hid (HK2.out.below hb3 HK2.out.lt)
  have HR3 := Lib.hid (HR2.out.bits hb3)
  have HB3 := Lib.hid (HB2.out.trans (hb3.mono (Nat.le_of_lt HK2.out.lt)))
  have hg3 : g ≤ w3.heap.size := Nat.le_of_lt HK3.out.lt
  clear hb3 HK2 HR2 HB2 HE
  cases hgd : msgGood M with
  | false =>
    clear hgd HK3 HR3 HF HLN HBE
    go_wp2_with fail
    refine (decode_any w3 s (by omega)).mono ?_
    rintro e v1 ⟨o, sx, rfl, hrd, hrow, hb1⟩
    have HFX := Lib.hid (reads_fits hrd)
    obtain ⟨v2, hv2, hk2, hr2, hb2⟩ := stored v1 (o.getD zeroMsg) sx hrow
    have HZ := Lib.hid (zero_new v1)
    have HO := Lib.hid hrow.one
    have HV2 := Lib.hid hv2
    have HC2 := Lib.hid hk2
    have HQ2 := Lib.hid hr2
    have HBv := Lib.hid (HB3.out.trans ((hb1.trans (hb2.mono hb1.size)).mono hg3))
    have hg2 : g ≤ v2.heap.size := Nat.le_trans (Nat.le_trans hg3 hb1.size) hb2.size
    have HRD := Lib.hid hrd
    clear hrd hrow hb1 hv2 hk2 hr2 hb2 HB3 hg3
    go_upto_region 11 with ((with_reducible refine wpList_store_msg (.tmp 11) (.tmp 50) ?_ ?_ v1.heap.size zeroMsg (o.getD zeroMsg) (.slice none 0 0) sx ?_ ?_ ?_ zeroMsg_fits HFX.out ?_ ?_); rfl; rfl; rfl; rfl; exact HZ.out; exact HO.out)
    rw [zcells_lit, HV2.out]
    clear HZ HO HV2
    generalize v1.heap.size = c at *
    cases o with
    | none =>
      go_wp2_with fail
      go_ret
      exact ⟨rfl, HG.out ▸ HBv.out⟩
    | some X =>
    simp only [Option.getD_some, Option.isSome_some] at HFX HC2 HQ2 ⊢
    have HEX := Lib.hid (encode_any v2 X sx HFX.out HQ2.out)
    rw [show encB X = msgB X by simp [encB, HRD.out.1], HRD.out.1, HRD.out.2.2, show (⟨s.data.toList.toArray⟩ : ByteArray) = s by simp] at HEX
    go_wp2_with ((with_reducible refine wpList_load_msgG (.tmp 11) ?_ ?_ c X sx ?_ HC2.out HFX.out ?_); rfl; rfl; rfl)
    refine HEX.out.mono ?_
    rintro e v3 ⟨rfl, hb3⟩
    have HC3 := Lib.hid (HC2.out.below hb3 HC2.out.lt)
    have HB3' := Lib.hid (HBv.out.trans (hb3.mono hg2))
    have hg3' : g ≤ v3.heap.size := Nat.le_trans hg2 hb3.size
    clear hb3 HC2 HQ2 HBv hg2 HEX
    obtain ⟨c0, _, _, _, _⟩ := HC3.out.msg HFX.out
    obtain ⟨K, hK⟩ : ∃ K, X.k = K := ⟨_, rfl⟩
    rw [hK] at c0
    have HKX := Lib.hid hK
    clear hK
    go_upto_region 16 with fail
    by_cases h3 : K = 3
    · subst h3
      go_wp2_with fail
      go_ret
      exact ⟨rfl, HG.out ▸ HB3'.out⟩
    have e3 : (K == 3) = false := by simpa using h3
    by_cases hc0 : cut < 0
    · go_wp2_with fail
      go_ret
      exact ⟨rfl, HG.out ▸ HB3'.out⟩
    by_cases hc1 : (s.size : Int) < cut
    · go_wp2_with fail
      go_ret
      exact ⟨rfl, HG.out ▸ HB3'.out⟩
    obtain ⟨n, rfl⟩ : ∃ n : Nat, cut = n := ⟨cut.toNat, by omega⟩
    have hn : n ≤ s.size := by omega
    have hnn : ¬ (s.size < n) := by omega
    have HK3' := Lib.hid (show X.k ≠ 3 by rw [HKX.out]; exact h3)
    obtain ⟨sc, hsc⟩ : ∃ x, s.extract 0 n = x := ⟨_, rfl⟩
    have HSC := Lib.hid (show sc.data.toList = s.data.toList.take n by rw [← hsc]; simp [ByteArray.data_extract])
    have hscz : sc.size ≤ 900 := by
      have := congrArg List.length HSC.out
      rw [List.length_take] at this
      have e1 : sc.size = sc.data.toList.length := by rw [Array.length_toList]; rfl
      have e2 : s.size = s.data.toList.length := by rw [Array.length_toList]; rfl
      omega
    go_wp2_with fail
    refine (decode_any v3 sc hscz).mono ?_
    rintro e v4 ⟨o2, s4, rfl, hrd, hrow, hb4⟩
    have HL := Lib.hid (back_cut HRD.out HK3'.out (n := n) (by rw [Array.length_toList]; exact hn) (HSC.out ▸ hrd))
    have HF4 := Lib.hid (reads_fits hrd)
    obtain ⟨v5, hv5, _, _, hb5⟩ := stored v4 (o2.getD zeroMsg) s4 hrow
    have HZ := Lib.hid (zero_new v4)
    have HO := Lib.hid hrow.one
    have HV5 := Lib.hid hv5
    have HB5' := Lib.hid (HB3'.out.trans ((hb4.trans (hb5.mono hb4.size)).mono hg3'))
    have hg5 : g ≤ v5.heap.size := Nat.le_trans (Nat.le_trans hg3' hb4.size) hb5.size
    clear c0 HC3 hrd hrow hb4 hv5 hb5 HB3' hg3' hsc HSC hscz
    go_upto_region 19 with ((with_reducible refine wpList_store_msg (.tmp 15) (.tmp 84) ?_ ?_ v4.heap.size zeroMsg (o2.getD zeroMsg) (.slice none 0 0) s4 ?_ ?_ ?_ zeroMsg_fits HF4.out ?_ ?_); rfl; rfl; rfl; rfl; exact HZ.out; exact HO.out)
    rw [zcells_lit, HV5.out]
    clear HZ HO HV5
    by_cases hq : n < 3
    · have q1 : ¬ (3 < n) := by omega
      have q2 : (n : Int) < 3 := by omega
      have q3 : ¬ ((3 : Int) < n) := by omega
      have q4 : ¬ (3 ≤ n) := by omega
      have q5 : n ≤ 3 := by omega
      obtain ⟨sm, hsm⟩ : ∃ x, s ++ s.extract 0 n = x := ⟨_, rfl⟩
      have HSM := Lib.hid (show sm.data.toList = s.data.toList ++ s.data.toList.take n by rw [← hsm]; simp [ByteArray.data_extract])
      have hsmz : sm.size ≤ 900 := by
        have := congrArg List.length HSM.out
        rw [List.length_append, List.length_take] at this
        have e1 : sm.size = sm.data.toList.length := by rw [Array.length_toList]; rfl
        have e2 : s.size = s.data.toList.length := by rw [Array.length_toList]; rfl
        omega
      go_wp2_with fail
      refine (decode_any v5 sm hsmz).mono ?_
      rintro e v6 ⟨o3, s6, rfl, hrd, hrow, hb6⟩
      have HMO := Lib.hid (back_more HRD.out HK3'.out n (HSM.out ▸ hrd))
      have HF6 := Lib.hid (reads_fits hrd)
      obtain ⟨v7, hv7, _, _, hb7⟩ := stored v6 (o3.getD zeroMsg) s6 hrow
      have HZ := Lib.hid (zero_new v6)
      have HO := Lib.hid hrow.one
      have HV7 := Lib.hid hv7
      have HB7' := Lib.hid (HB5'.out.trans ((hb6.trans (hb7.mono hb6.size)).mono hg5))
      clear hrd hrow hb6 hv7 hb7 HB5' hg5 hsm HSM hsmz
      go_upto_region 20 with ((with_reducible refine wpList_store_msg (.tmp 17) (.tmp 94) ?_ ?_ v6.heap.size zeroMsg (o3.getD zeroMsg) (.slice none 0 0) s6 ?_ ?_ ?_ zeroMsg_fits HF6.out ?_ ?_); rfl; rfl; rfl; rfl; exact HZ.out; exact HO.out)
      rw [zcells_lit, HV7.out]
      clear HZ HO HV7
      generalize o3.getD zeroMsg = X3 at *
      generalize o2.getD zeroMsg = X2 at *
      generalize o3.isSome = y3 at *
      generalize o2.isSome = y2 at *
      have E3 : y3 = ((n : Int) == 0) := by rw [HMO.out]; by_cases h0 : n = 0 <;> simp [h0]
      have E2 : y2 = decide ((n : Int) = (s.size : Int)) := by rw [HL.out, Array.length_toList]; apply decide_eq_decide.2; rw [Int.natCast_inj]; rfl
      rw [E2, E3]
      clear HL HMO E2 E3
      go_wp2_with fail
      go_ret
      exact ⟨rfl, HG.out ▸ HB7'.out⟩
    by_cases hq1 : n = 3
    · subst hq1
      obtain ⟨sm, hsm⟩ : ∃ x, s ++ s.extract 0 3 = x := ⟨_, rfl⟩
      have HSM := Lib.hid (show sm.data.toList = s.data.toList ++ s.data.toList.take 3 by rw [← hsm]; simp [ByteArray.data_extract])
      have hsmz : sm.size ≤ 900 := by
        have := congrArg List.length HSM.out
        rw [List.length_append, List.length_take] at this
        have e1 : sm.size = sm.data.toList.length := by rw [Array.length_toList]; rfl
        have e2 : s.size = s.data.toList.length := by rw [Array.length_toList]; rfl
        omega
      go_wp2_with fail
      refine (decode_any v5 sm hsmz).mono ?_
      rintro e v6 ⟨o3, s6, rfl, hrd, hrow, hb6⟩
      have HMO := Lib.hid (back_more HRD.out HK3'.out 3 (HSM.out ▸ hrd))
      have HF6 := Lib.hid (reads_fits hrd)
      obtain ⟨v7, hv7, _, _, hb7⟩ := stored v6 (o3.getD zeroMsg) s6 hrow
      have HZ := Lib.hid (zero_new v6)
      have HO := Lib.hid hrow.one
      have HV7 := Lib.hid hv7
      have HB7' := Lib.hid (HB5'.out.trans ((hb6.trans (hb7.mono hb6.size)).mono hg5))
      clear hrd hrow hb6 hv7 hb7 HB5' hg5 hsm HSM hsmz
      go_upto_region 20 with ((with_reducible refine wpList_store_msg (.tmp 17) (.tmp 94) ?_ ?_ v6.heap.size zeroMsg (o3.getD zeroMsg) (.slice none 0 0) s6 ?_ ?_ ?_ zeroMsg_fits HF6.out ?_ ?_); rfl; rfl; rfl; rfl; exact HZ.out; exact HO.out)
      rw [zcells_lit, HV7.out]
      clear HZ HO HV7
      generalize o3.getD zeroMsg = X3 at *
      generalize o2.getD zeroMsg = X2 at *
      generalize o3.isSome = y3 at *
      generalize o2.isSome = y2 at *
      have E3 := HMO.out
      have E2 : y2 = decide (((3 : Nat) : Int) = (s.size : Int)) := by rw [HL.out, Array.length_toList]; apply decide_eq_decide.2; rw [Int.natCast_inj]; rfl
      rw [E2, E3]
      clear HL HMO E2 E3
      go_wp2_with fail
      go_ret
      exact ⟨rfl, HG.out ▸ HB7'.out⟩
    have q1 : 3 < n := by omega
    have q3 : (3 : Int) < n := by omega
    have q2 : ¬ ((n : Int) < 3) := by omega
    have q4 : 3 ≤ n := by omega
    have q5 : ¬ (n ≤ 3) := by omega
    have q6 : ¬ (s.size < 3) := by omega
    obtain ⟨sm, hsm⟩ : ∃ x, s ++ s.extract 0 3 = x := ⟨_, rfl⟩
    have HSM := Lib.hid (show sm.data.toList = s.data.toList ++ s.data.toList.take 3 by rw [← hsm]; simp [ByteArray.data_extract])
    have hsmz : sm.size ≤ 900 := by
      have := congrArg List.length HSM.out
      rw [List.length_append, List.length_take] at this
      have e1 : sm.size = sm.data.toList.length := by rw [Array.length_toList]; rfl
      have e2 : s.size = s.data.toList.length := by rw [Array.length_toList]; rfl
      omega
    go_wp2_with fail
    refine (decode_any v5 sm hsmz).mono ?_
    rintro e v6 ⟨o3, s6, rfl, hrd, hrow, hb6⟩
    have HMO := Lib.hid (back_more HRD.out HK3'.out 3 (HSM.out ▸ hrd))
    have HF6 := Lib.hid (reads_fits hrd)
    obtain ⟨v7, hv7, _, _, hb7⟩ := stored v6 (o3.getD zeroMsg) s6 hrow
    have HZ := Lib.hid (zero_new v6)
    have HO := Lib.hid hrow.one
    have HV7 := Lib.hid hv7
    have HB7' := Lib.hid (HB5'.out.trans ((hb6.trans (hb7.mono hb6.size)).mono hg5))
    clear hrd hrow hb6 hv7 hb7 HB5' hg5 hsm HSM hsmz
    go_upto_region 20 with ((with_reducible refine wpList_store_msg (.tmp 17) (.tmp 94) ?_ ?_ v6.heap.size zeroMsg (o3.getD zeroMsg) (.slice none 0 0) s6 ?_ ?_ ?_ zeroMsg_fits HF6.out ?_ ?_); rfl; rfl; rfl; rfl; exact HZ.out; exact HO.out)
    rw [zcells_lit, HV7.out]
    clear HZ HO HV7
    generalize o3.getD zeroMsg = X3 at *
    generalize o2.getD zeroMsg = X2 at *
    generalize o3.isSome = y3 at *
    generalize o2.isSome = y2 at *
    have E3 := HMO.out
    have E2 : y2 = decide ((n : Int) = (s.size : Int)) := by rw [HL.out, Array.length_toList]; apply decide_eq_decide.2; rw [Int.natCast_inj]; rfl
    rw [E2, E3]
    clear HL HMO E2 E3
    go_wp2_with fail
    go_ret
    exact ⟨rfl, HG.out ▸ HB7'.out⟩
  | true =>
    have hsz : b.size ≤ 900 := by
      rw [← HBE.out]
      simp only [ByteArray.size, List.size_toArray]
      rw [show encB M = msgB M by simp [encB, hgd], msgB_length (msg_ranged hgd HF.out)]
      have := msg_bits hgd
      split
      · omega
      · split <;> omega
    have HRD := Lib.hid (show Reads b.data.toList (some M) by
      rw [← HBE.out, show encB M = msgB M by simp [encB, hgd]]
      simpa using Reads.own hgd HF.out)
    clear hgd HBE
    go_wp2_with fail
    refine (decode_any w3 b hsz).mono ?_
    rintro e w4 ⟨o, sl4, rfl, hrd, hrow, hb4⟩
    obtain rfl : o = some M := hrd.unique HRD.out
    simp only [Option.getD_some, Option.isSome_some] at hrow ⊢
    obtain ⟨w5, hw5, hk5, hr5, hb5⟩ := stored w4 M sl4 hrow
    have HZ := Lib.hid (zero_new w4)
    have HO := Lib.hid hrow.one
    have HW5 := Lib.hid hw5
    have HC5 := Lib.hid hk5
    have HQ5 := Lib.hid hr5
    have hb35 := hb4.trans (hb5.mono hb4.size)
    have HK5 := Lib.hid (HK3.out.below hb35 HK3.out.lt)
    have HR5 := Lib.hid (HR3.out.bits hb35)
    have HB5 := Lib.hid (HB3.out.trans (hb35.mono (Nat.le_of_lt HK3.out.lt)))
    clear hrd hrow hb4 hw5 hk5 hr5 hb5 hb35 HK3 HR3 HB3 HRD hg3
    go_upto_region 8 with ((with_reducible refine wpList_store_msg (.tmp 9) (.tmp 37) ?_ ?_ w4.heap.size zeroMsg M (.slice none 0 0) sl4 ?_ ?_ ?_ zeroMsg_fits HF.out ?_ ?_); rfl; rfl; rfl; rfl; exact HZ.out; exact HO.out)
    rw [zcells_lit, HW5.out]
    clear HZ HO HW5
    generalize w4.heap.size = c at *
    go_wp2_with (first
      | ((with_reducible refine wpList_load_msgG (.tmp 9) ?_ ?_ c M sl4 ?_ HC5.out HF.out ?_); rfl; rfl; rfl)
      | ((with_reducible refine wpList_load_msgG (.tmp 3) ?_ ?_ g M sl ?_ HK5.out HF.out ?_); rfl; rfl; rfl))
    refine (msame_any w5 M M sl4 sl HF.out HF.out HQ5.out HR5.out HLN.out).mono ?_
    rintro e w6 ⟨rfl, hb6⟩
    rw [show msgSame M M = true from (msgSame_iff M M).2 rfl]
    have HB6 := Lib.hid (HB5.out.trans (hb6.mono (Nat.le_of_lt HK5.out.lt)))
    have hg6 : g ≤ w6.heap.size := Nat.le_trans (Nat.le_of_lt HK5.out.lt) hb6.size
    clear hb6 HC5 HQ5 HK5 HR5 HB5 HF HLN
    go_wp2_with fail
    refine (decode_any w6 s (by omega)).mono ?_
    rintro e v1 ⟨o, sx, rfl, hrd, hrow, hb1⟩
    have HFX := Lib.hid (reads_fits hrd)
    obtain ⟨v2, hv2, hk2, hr2, hb2⟩ := stored v1 (o.getD zeroMsg) sx hrow
    have HZ := Lib.hid (zero_new v1)
    have HO := Lib.hid hrow.one
    have HV2 := Lib.hid hv2
    have HC2 := Lib.hid hk2
    have HQ2 := Lib.hid hr2
    have HBv := Lib.hid (HB6.out.trans ((hb1.trans (hb2.mono hb1.size)).mono hg6))
    have hg2 : g ≤ v2.heap.size := Nat.le_trans (Nat.le_trans hg6 hb1.size) hb2.size
    have HRD := Lib.hid hrd
    clear hrd hrow hb1 hv2 hk2 hr2 hb2 HB6 hg6
    go_upto_region 11 with ((with_reducible refine wpList_store_msg (.tmp 11) (.tmp 50) ?_ ?_ v1.heap.size zeroMsg (o.getD zeroMsg) (.slice none 0 0) sx ?_ ?_ ?_ zeroMsg_fits HFX.out ?_ ?_); rfl; rfl; rfl; rfl; exact HZ.out; exact HO.out)
    rw [zcells_lit, HV2.out]
    clear HZ HO HV2
    generalize v1.heap.size = c at *
    cases o with
    | none =>
      go_wp2_with fail
      go_ret
      exact ⟨rfl, HG.out ▸ HBv.out⟩
    | some X =>
    simp only [Option.getD_some, Option.isSome_some] at HFX HC2 HQ2 ⊢
    have HEX := Lib.hid (encode_any v2 X sx HFX.out HQ2.out)
    rw [show encB X = msgB X by simp [encB, HRD.out.1], HRD.out.1, HRD.out.2.2, show (⟨s.data.toList.toArray⟩ : ByteArray) = s by simp] at HEX
    go_wp2_with ((with_reducible refine wpList_load_msgG (.tmp 11) ?_ ?_ c X sx ?_ HC2.out HFX.out ?_); rfl; rfl; rfl)
    refine HEX.out.mono ?_
    rintro e v3 ⟨rfl, hb3⟩
    have HC3 := Lib.hid (HC2.out.below hb3 HC2.out.lt)
    have HB3' := Lib.hid (HBv.out.trans (hb3.mono hg2))
    have hg3' : g ≤ v3.heap.size := Nat.le_trans hg2 hb3.size
    clear hb3 HC2 HQ2 HBv hg2 HEX
    obtain ⟨c0, _, _, _, _⟩ := HC3.out.msg HFX.out
    obtain ⟨K, hK⟩ : ∃ K, X.k = K := ⟨_, rfl⟩
    rw [hK] at c0
    have HKX := Lib.hid hK
    clear hK
    go_upto_region 16 with fail
    by_cases h3 : K = 3
    · subst h3
      go_wp2_with fail
      go_ret
      exact ⟨rfl, HG.out ▸ HB3'.out⟩
    have e3 : (K == 3) = false := by simpa using h3
    by_cases hc0 : cut < 0
    · go_wp2_with fail
      go_ret
      exact ⟨rfl, HG.out ▸ HB3'.out⟩
    by_cases hc1 : (s.size : Int) < cut
    · go_wp2_with fail
      go_ret
      exact ⟨rfl, HG.out ▸ HB3'.out⟩
    obtain ⟨n, rfl⟩ : ∃ n : Nat, cut = n := ⟨cut.toNat, by omega⟩
    have hn : n ≤ s.size := by omega
    have hnn : ¬ (s.size < n) := by omega
    have HK3' := Lib.hid (show X.k ≠ 3 by rw [HKX.out]; exact h3)
    obtain ⟨sc, hsc⟩ : ∃ x, s.extract 0 n = x := ⟨_, rfl⟩
    have HSC := Lib.hid (show sc.data.toList = s.data.toList.take n by rw [← hsc]; simp [ByteArray.data_extract])
    have hscz : sc.size ≤ 900 := by
      have := congrArg List.length HSC.out
      rw [List.length_take] at this
      have e1 : sc.size = sc.data.toList.length := by rw [Array.length_toList]; rfl
      have e2 : s.size = s.data.toList.length := by rw [Array.length_toList]; rfl
      omega
    go_wp2_with fail
    refine (decode_any v3 sc hscz).mono ?_
    rintro e v4 ⟨o2, s4, rfl, hrd, hrow, hb4⟩
    have HL := Lib.hid (back_cut HRD.out HK3'.out (n := n) (by rw [Array.length_toList]; exact hn) (HSC.out ▸ hrd))
    have HF4 := Lib.hid (reads_fits hrd)
    obtain ⟨v5, hv5, _, _, hb5⟩ := stored v4 (o2.getD zeroMsg) s4 hrow
    have HZ := Lib.hid (zero_new v4)
    have HO := Lib.hid hrow.one
    have HV5 := Lib.hid hv5
    have HB5' := Lib.hid (HB3'.out.trans ((hb4.trans (hb5.mono hb4.size)).mono hg3'))
    have hg5 : g ≤ v5.heap.size := Nat.le_trans (Nat.le_trans hg3' hb4.size) hb5.size
    clear c0 HC3 hrd hrow hb4 hv5 hb5 HB3' hg3' hsc HSC hscz
    go_upto_region 19 with ((with_reducible refine wpList_store_msg (.tmp 15) (.tmp 84) ?_ ?_ v4.heap.size zeroMsg (o2.getD zeroMsg) (.slice none 0 0) s4 ?_ ?_ ?_ zeroMsg_fits HF4.out ?_ ?_); rfl; rfl; rfl; rfl; exact HZ.out; exact HO.out)
    rw [zcells_lit, HV5.out]
    clear HZ HO HV5
    by_cases hq : n < 3
    · have q1 : ¬ (3 < n) := by omega
      have q2 : (n : Int) < 3 := by omega
      have q3 : ¬ ((3 : Int) < n) := by omega
      have q4 : ¬ (3 ≤ n) := by omega
      have q5 : n ≤ 3 := by omega
      obtain ⟨sm, hsm⟩ : ∃ x, s ++ s.extract 0 n = x := ⟨_, rfl⟩
      have HSM := Lib.hid (show sm.data.toList = s.data.toList ++ s.data.toList.take n by rw [← hsm]; simp [ByteArray.data_extract])
      have hsmz : sm.size ≤ 900 := by
        have := congrArg List.length HSM.out
        rw [List.length_append, List.length_take] at this
        have e1 : sm.size = sm.data.toList.length := by rw [Array.length_toList]; rfl
        have e2 : s.size = s.data.toList.length := by rw [Array.length_toList]; rfl
        omega
      go_wp2_with fail
      refine (decode_any v5 sm hsmz).mono ?_
      rintro e v6 ⟨o3, s6, rfl, hrd, hrow, hb6⟩
      have HMO := Lib.hid (back_more HRD.out HK3'.out n (HSM.out ▸ hrd))
      have HF6 := Lib.hid (reads_fits hrd)
      obtain ⟨v7, hv7, _, _, hb7⟩ := stored v6 (o3.getD zeroMsg) s6 hrow
      have HZ := Lib.hid (zero_new v6)
      have HO := Lib.hid hrow.one
      have HV7 := Lib.hid hv7
      have HB7' := Lib.hid (HB5'.out.trans ((hb6.trans (hb7.mono hb6.size)).mono hg5))
      clear hrd hrow hb6 hv7 hb7 HB5' hg5 hsm HSM hsmz
      go_upto_region 20 with ((with_reducible refine wpList_store_msg (.tmp 17) (.tmp 94) ?_ ?_ v6.heap.size zeroMsg (o3.getD zeroMsg) (.slice none 0 0) s6 ?_ ?_ ?_ zeroMsg_fits HF6.out ?_ ?_); rfl; rfl; rfl; rfl; exact HZ.out; exact HO.out)
      rw [zcells_lit, HV7.out]
      clear HZ HO HV7
      generalize o3.getD zeroMsg = X3 at *
      generalize o2.getD zeroMsg = X2 at *
      generalize o3.isSome = y3 at *
      generalize o2.isSome = y2 at *
      have E3 : y3 = ((n : Int) == 0) := by rw [HMO.out]; by_cases h0 : n = 0 <;> simp [h0]
      have E2 : y2 = decide ((n : Int) = (s.size : Int)) := by rw [HL.out, Array.length_toList]; apply decide_eq_decide.2; rw [Int.natCast_inj]; rfl
      rw [E2, E3]
      clear HL HMO E2 E3
      go_wp2_with fail
      go_ret
      exact ⟨rfl, HG.out ▸ HB7'.out⟩
    by_cases hq1 : n = 3
    · subst hq1
      obtain ⟨sm, hsm⟩ : ∃ x, s ++ s.extract 0 3 = x := ⟨_, rfl⟩
      have HSM := Lib.hid (show sm.data.toList = s.data.toList ++ s.data.toList.take 3 by rw [← hsm]; simp [ByteArray.data_extract])
      have hsmz : sm.size ≤ 900 := by
        have := congrArg List.length HSM.out
        rw [List.length_append, List.length_take] at this
        have e1 : sm.size = sm.data.toList.length := by rw [Array.length_toList]; rfl
        have e2 : s.size = s.data.toList.length := by rw [Array.length_toList]; rfl
        omega
      go_wp2_with fail
      refine (decode_any v5 sm hsmz).mono ?_
      rintro e v6 ⟨o3, s6, rfl, hrd, hrow, hb6⟩
      have HMO := Lib.hid (back_more HRD.out HK3'.out 3 (HSM.out ▸ hrd))
      have HF6 := Lib.hid (reads_fits hrd)
      obtain ⟨v7, hv7, _, _, hb7⟩ := stored v6 (o3.getD zeroMsg) s6 hrow
      have HZ := Lib.hid (zero_new v6)
      have HO := Lib.hid hrow.one
      have HV7 := Lib.hid hv7
      have HB7' := Lib.hid (HB5'.out.trans ((hb6.trans (hb7.mono hb6.size)).mono hg5))
      clear hrd hrow hb6 hv7 hb7 HB5' hg5 hsm HSM hsmz
      go_upto_region 20 with ((with_reducible refine wpList_store_msg (.tmp 17) (.tmp 94) ?_ ?_ v6.heap.size zeroMsg (o3.getD zeroMsg) (.slice none 0 0) s6 ?_ ?_ ?_ zeroMsg_fits HF6.out ?_ ?_); rfl; rfl; rfl; rfl; exact HZ.out; exact HO.out)
      rw [zcells_lit, HV7.out]
      clear HZ HO HV7
      generalize o3.getD zeroMsg = X3 at *
      generalize o2.getD zeroMsg = X2 at *
      generalize o3.isSome = y3 at *
      generalize o2.isSome = y2 at *
      have E3 := HMO.out
      have E2 : y2 = decide (((3 : Nat) : Int) = (s.size : Int)) := by rw [HL.out, Array.length_toList]; apply decide_eq_decide.2; rw [Int.natCast_inj]; rfl
      rw [E2, E3]
      clear HL HMO E2 E3
      go_wp2_with fail
      go_ret
      exact ⟨rfl, HG.out ▸ HB7'.out⟩
    have q1 : 3 < n := by omega
    have q3 : (3 : Int) < n := by omega
    have q2 : ¬ ((n : Int) < 3) := by omega
    have q4 : 3 ≤ n := by omega
    have q5 : ¬ (n ≤ 3) := by omega
    have q6 : ¬ (s.size < 3) := by omega
    obtain ⟨sm, hsm⟩ : ∃ x, s ++ s.extract 0 3 = x := ⟨_, rfl⟩
    have HSM := Lib.hid (show sm.data.toList = s.data.toList ++ s.data.toList.take 3 by rw [← hsm]; simp [ByteArray.data_extract])
    have hsmz : sm.size ≤ 900 := by
      have := congrArg List.length HSM.out
      rw [List.length_append, List.length_take] at this
      have e1 : sm.size = sm.data.toList.length := by rw [Array.length_toList]; rfl
      have e2 : s.size = s.data.toList.length := by rw [Array.length_toList]; rfl
      omega
    go_wp2_with fail
    refine (decode_any v5 sm hsmz).mono ?_
    rintro e v6 ⟨o3, s6, rfl, hrd, hrow, hb6⟩
    have HMO := Lib.hid (back_more HRD.out HK3'.out 3 (HSM.out ▸ hrd))
    have HF6 := Lib.hid (reads_fits hrd)
    obtain ⟨v7, hv7, _, _, hb7⟩ := stored v6 (o3.getD zeroMsg) s6 hrow
    have HZ := Lib.hid (zero_new v6)
    have HO := Lib.hid hrow.one
    have HV7 := Lib.hid hv7
    have HB7' := Lib.hid (HB5'.out.trans ((hb6.trans (hb7.mono hb6.size)).mono hg5))
    clear hrd hrow hb6 hv7 hb7 HB5' hg5 hsm HSM hsmz
    go_upto_region 20 with ((with_reducible refine wpList_store_msg (.tmp 17) (.tmp 94) ?_ ?_ v6.heap.size zeroMsg (o3.getD zeroMsg) (.slice none 0 0) s6 ?_ ?_ ?_ zeroMsg_fits HF6.out ?_ ?_); rfl; rfl; rfl; rfl; exact HZ.out; exact HO.out)
    rw [zcells_lit, HV7.out]
    clear HZ HO HV7
    generalize o3.getD zeroMsg = X3 at *
    generalize o2.getD zeroMsg = X2 at *
    generalize o3.isSome = y3 at *
    generalize o2.isSome = y2 at *
    have E3 := HMO.out
    have E2 : y2 = decide ((n : Int) = (s.size : Int)) := by rw [HL.out, Array.length_toList]; apply decide_eq_decide.2; rw [Int.natCast_inj]; rfl
    rw [E2, E3]
    clear HL HMO E2 E3
    go_wp2_with fail
    go_ret
    exact ⟨rfl, HG.out ▸ HB7'.out⟩
end Go.Proofs.Ytickcajihaejkaa
