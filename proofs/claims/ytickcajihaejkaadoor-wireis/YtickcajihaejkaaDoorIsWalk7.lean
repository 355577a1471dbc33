/-
  The walk of WireIs.
-/
import Derived.Test.YtickcajihaejkaaDoorWRoot7
import Derived.Test.YtickcajihaejkaaDoorWRef
import Derived.Test.YtickcajihaejkaaDoorAlive7
namespace Go.Proofs.YtickcajihaejkaaDoor
open Go.RowKit

set_option maxRecDepth 100000 in
set_option maxHeartbeats 8000000 in
theorem is7_any (w : World) (hT : Tabs w) (M : Msg) (sl : Value) (hf : M.Fits) (hr : BRow w w.heap.size sl M.l) :
    Calls Tryd.prog 3 #[.agg (mc M sl).toArray] w fun e w' => e = .returned (.bool true) ∧ Below w.heap.size w w' := by
  have HT := Lib.hid hT
  have HF := Lib.hid hf
  have HB0 := Lib.hid ((Below.refl w.heap.size w).alloc (Nat.le_refl _) (.cells (mc M sl).toArray 29))
  have HK0 := Lib.hid (show Blk _ w.heap.size 29 (mc M sl) from Blk.new w 29 (mc M sl).toArray)
  have HR0 := Lib.hid (hr.bits HB0.out)
  clear hT hf hr
  go_enter Tryd.func3, Tryd.ntmps3
  go_wp2_with fail
  generalize w.alloc (.cells (mc M sl).toArray 29) = w0 at HB0 HK0 HR0 ⊢
  refine (alive_any w0).mono ?_
  rintro e w1 ⟨rfl, hb1⟩
  have HK1 := Lib.hid (HK0.out.below hb1 HK0.out.lt)
  have HB1 := Lib.hid (HB0.out.trans (hb1.mono HB0.out.size))
  have HR1 := Lib.hid (HR0.out.bits hb1)
  generalize w.heap.size = g at HK1 ⊢
  clear hb1 HK0 HB0 HR0
  go_wp2_with ((with_reducible refine wpList_load_msg (.tmp 1) ?_ ?_ g M sl ?_ HK1.out HF.out ?_); rfl; rfl; rfl)
  refine (mgreat_any w1 M sl HF.out HR1.out).mono ?_
  rintro e w2 ⟨rfl, hb2⟩
  have HK2 := Lib.hid (HK1.out.below hb2 HK1.out.lt)
  have HB2 := Lib.hid (HB1.out.trans (hb2.mono HB1.out.size))
  have HR2 := Lib.hid (HR1.out.bits hb2)
  clear hb2 HK1 HB1 HR1
  cases hgr : decide (200 < (M.l.length : Int)) with
  | true =>
    clear hgr
    go_wp2_with fail
    go_ret
    exact ⟨rfl, HB2.out⟩
  | false =>
  have hl5 : M.l.length ≤ 500 := by simp at hgr; omega
  clear hgr
  go_wp2_with ((with_reducible refine wpList_load_msg (.tmp 1) ?_ ?_ g M sl ?_ HK2.out HF.out ?_); rfl; rfl; rfl)
  refine (encode_any w2 M sl HF.out HR2.out).mono ?_
  rintro e w3 ⟨rfl, hb3⟩
  have HK3 := Lib.hid (HK2.out.below hb3 HK2.out.lt)
  have HB3 := Lib.hid (HB2.out.trans (hb3.mono HB2.out.size))
  have HR3 := Lib.hid (HR2.out.bits hb3)
  clear hb3 HK2 HB2 HR2
  obtain ⟨E, hE⟩ : ∃ E : ByteArray, E = ⟨(encB M).toArray⟩ := ⟨_, rfl⟩
  rw [← hE]
  have HE := Lib.hid hE
  clear hE
  go_wp2_with ((with_reducible refine wpList_load_msg (.tmp 1) ?_ ?_ g M sl ?_ HK3.out HF.out ?_); rfl; rfl; rfl)
  refine (refgood_any w3 M sl HF.out HR3.out (by omega)).mono ?_
  rintro e w4 ⟨rfl, hb4⟩
  have HK4 := Lib.hid (HK3.out.below hb4 HK3.out.lt)
  have HB4 := Lib.hid (HB3.out.trans (hb4.mono HB3.out.size))
  have HR4 := Lib.hid (HR3.out.bits hb4)
  clear hb4 HK3 HB3 HR3
  go_wp2_with ((with_reducible refine wpList_load_msg (.tmp 1) ?_ ?_ g M sl ?_ HK4.out HF.out ?_); rfl; rfl; rfl)
  refine (wgood_any w4 M sl HF.out HR4.out).mono ?_
  rintro e w5 ⟨rfl, hb5⟩
  have HK5 := Lib.hid (HK4.out.below hb5 HK4.out.lt)
  have HB5 := Lib.hid (HB4.out.trans (hb5.mono HB4.out.size))
  have HR5 := Lib.hid (HR4.out.bits hb5)
  clear hb5 HK4 HB4 HR4
  cases hgd : msgGood M with
  | false =>
    have he : E.toList.isEmpty = true := by rw [HE.out, show encB M = [] by simp [encB, hgd], ByteArray.toList_eq]; rfl
    clear hgd
    go_wp2_with fail
    go_ret
    exact ⟨rfl, HB5.out⟩
  | true =>
  have HM := Lib.hid (msg_ranged hgd HF.out)
  have HEE := Lib.hid (show E = ⟨(msgB M).toArray⟩ by rw [HE.out, show encB M = msgB M by simp [encB, hgd]])
  clear hgd
  obtain ⟨P, hP⟩ : ∃ P : ByteArray, P = ⟨(msgP M).toArray⟩ := ⟨_, rfl⟩
  obtain ⟨D, hD⟩ : ∃ D, D = digest (msgB M) := ⟨_, rfl⟩
  have HP := Lib.hid hP
  have HD := Lib.hid hD
  have hdl : D.length = 32 := by rw [hD]; exact digest_length _
  have heq := fun w' => root_eq w' D D hdl hdl
  simp only [BEq.rfl] at heq
  clear hP hD
  go_wp2_with fail
  have HK := HK5
  have HB := HB5
  have HR := HR5
  clear HK5 HB5 HR5
  generalize w5 = wq at *
  refine wp_region_free (P := Tryd.prog) 18 (fun w' => Below wq.heap.size wq w') (fun oq v w' => match oq with
      | 0 => v = .string E
      | 1 => v = .agg (mc M sl).toArray
      | 2 => v = .string E
      | 3 => v = .bool true
      | 4 => v = .bool true
      | 5 => v = .agg (mc M sl).toArray
      | 6 => v = .string P
      | 7 => v = .agg (mc M sl).toArray
      | 8 => v = .string P
      | 9 => v = .bool true
      | 10 => v = .bool true
      | 11 => v = .bool true
      | 12 => v = .agg (mc M sl).toArray
      | 13 => v = .agg (bv D).toArray
      | 14 => v = .agg (mc M sl).toArray
      | 15 => v = .agg (bv D).toArray
      | 16 => v = .bool true
      | 17 => v = .bool true
      | _ => True) (by kernel_rfl) (by kernel_rfl) (Below.refl _ _).drew ?gb ?vb ?steps ?fin
  case gb => exact fun a b h1 h2 => h1.trans (h2.mono h1.size)
  case vb =>
    intro oq v a b h hb
    match oq with
    | 0 => exact h
    | 1 => exact h
    | 2 => exact h
    | 3 => exact h
    | 4 => exact h
    | 5 => exact h
    | 6 => exact h
    | 7 => exact h
    | 8 => exact h
    | 9 => exact h
    | 10 => exact h
    | 11 => exact h
    | 12 => exact h
    | 13 => exact h
    | 14 => exact h
    | 15 => exact h
    | 16 => exact h
    | 17 => exact h
    | _ + 18 => trivial
  case steps =>
    intro vals
    simp only [List.take_succ_cons, List.take_zero, freeSteps, Act.put, List.setIfInBounds_toArray, List.set_cons_zero, List.set_cons_succ, Nat.reduceAdd]
    refine ⟨fun w8 hG hW => ?_, fun w8 hG hW => ?_, fun w8 hG hW => ?_, fun w8 hG hW => ?_, fun w8 hG hW => ?_, fun w8 hG hW => ?_, fun w8 hG hW => ?_, fun w8 hG hW => ?_, fun w8 hG hW => ?_, fun w8 hG hW => ?_, fun w8 hG hW => ?_, fun w8 hG hW => ?_, fun w8 hG hW => ?_, fun w8 hG hW => ?_, fun w8 hG hW => ?_, fun w8 hG hW => ?_, fun w8 hG hW => ?_, fun w8 hG hW => ?_, trivial⟩
    · clear hW
      refine stepAt_value rfl rfl rfl (.string E) w8 ?_ ⟨rfl, Below.refl _ _⟩
      go_simp
    · clear hW
      exact stepAt_load_msg rfl rfl rfl (.tmp 1) rfl g M sl rfl (HK.out.below hG HK.out.lt) HF.out ⟨rfl, Below.refl _ _⟩
    · have q1 := hW 1 (by decide)
      simp only at q1
      rw [q1]
      clear hW
      refine stepAt_call rfl rfl rfl 9 #[.agg (mc M sl).toArray] (by go_simp) ((refbytes_any w8 M sl HM.out ((HR.out.keep hG).more hG.size) hl5).mono fun e w' ⟨h1, h2⟩ => ⟨_, h1, by rw [HEE.out], h2⟩)
    · have q0 := hW 0 (by decide)
      simp only at q0
      have q2 := hW 2 (by decide)
      simp only at q2
      rw [q0, q2]
      clear hW
      refine stepAt_value rfl rfl rfl (.bool true) w8 ?_ ⟨rfl, Below.refl _ _⟩
      go_simp
    · have q3 := hW 3 (by decide)
      simp only at q3
      rw [q3]
      clear hW
      refine stepAt_value rfl rfl rfl (.bool true) w8 ?_ ⟨rfl, Below.refl _ _⟩
      go_simp
    · have q4 := hW 4 (by decide)
      simp only at q4
      rw [q4]
      clear hW
      exact stepAt_load_msg rfl rfl rfl (.tmp 1) rfl g M sl rfl (HK.out.below hG HK.out.lt) HF.out ⟨rfl, Below.refl _ _⟩
    · have q4 := hW 4 (by decide)
      simp only at q4
      have q5 := hW 5 (by decide)
      simp only at q5
      rw [q4, q5]
      clear hW
      refine stepAt_call rfl rfl rfl 10 #[.agg (mc M sl).toArray] (by go_simp) ((wplain_any w8 M sl HM.out ((HR.out.keep hG).more hG.size) (by omega)).mono fun e w' ⟨h1, h2⟩ => ⟨_, h1, by rw [HP.out], h2⟩)
    · have q4 := hW 4 (by decide)
      simp only at q4
      rw [q4]
      clear hW
      exact stepAt_load_msg rfl rfl rfl (.tmp 1) rfl g M sl rfl (HK.out.below hG HK.out.lt) HF.out ⟨rfl, Below.refl _ _⟩
    · have q4 := hW 4 (by decide)
      simp only at q4
      have q7 := hW 7 (by decide)
      simp only at q7
      rw [q4, q7]
      clear hW
      refine stepAt_call rfl rfl rfl 11 #[.agg (mc M sl).toArray] (by go_simp) ((refplain_any w8 M sl HM.out ((HR.out.keep hG).more hG.size) hl5).mono fun e w' ⟨h1, h2⟩ => ⟨_, h1, by rw [HP.out], h2⟩)
    · have q4 := hW 4 (by decide)
      simp only at q4
      have q6 := hW 6 (by decide)
      simp only at q6
      have q8 := hW 8 (by decide)
      simp only at q8
      rw [q4, q6, q8]
      clear hW
      refine stepAt_value rfl rfl rfl (.bool true) w8 ?_ ⟨rfl, Below.refl _ _⟩
      go_simp
    · have q4 := hW 4 (by decide)
      simp only at q4
      have q9 := hW 9 (by decide)
      simp only at q9
      rw [q4, q9]
      clear hW
      refine stepAt_value rfl rfl rfl (.bool true) w8 ?_ ⟨rfl, Below.refl _ _⟩
      go_simp
    · have q10 := hW 10 (by decide)
      simp only at q10
      rw [q10]
      clear hW
      refine stepAt_value rfl rfl rfl (.bool true) w8 ?_ ⟨rfl, Below.refl _ _⟩
      go_simp
    · have q11 := hW 11 (by decide)
      simp only at q11
      rw [q11]
      clear hW
      exact stepAt_load_msg rfl rfl rfl (.tmp 1) rfl g M sl rfl (HK.out.below hG HK.out.lt) HF.out ⟨rfl, Below.refl _ _⟩
    · have q11 := hW 11 (by decide)
      simp only at q11
      have q12 := hW 12 (by decide)
      simp only at q12
      rw [q11, q12]
      clear hW
      refine stepAt_call rfl rfl rfl 12 #[.agg (mc M sl).toArray] (by go_simp) ((wroot_any w8 (HT.out.below (HB.out.trans (hG.mono HB.out.size)) HT.out.size) M sl HM.out ((HR.out.keep hG).more hG.size) hl5).mono fun e w' ⟨h1, h2⟩ => ⟨_, h1, by rw [HD.out], h2⟩)
    · have q11 := hW 11 (by decide)
      simp only at q11
      rw [q11]
      clear hW
      exact stepAt_load_msg rfl rfl rfl (.tmp 1) rfl g M sl rfl (HK.out.below hG HK.out.lt) HF.out ⟨rfl, Below.refl _ _⟩
    · have q11 := hW 11 (by decide)
      simp only at q11
      have q14 := hW 14 (by decide)
      simp only at q14
      rw [q11, q14]
      clear hW
      refine stepAt_call rfl rfl rfl 13 #[.agg (mc M sl).toArray] (by go_simp) ((refroot_any w8 M sl HM.out ((HR.out.keep hG).more hG.size) hl5).mono fun e w' ⟨h1, h2⟩ => ⟨_, h1, by rw [HD.out], h2⟩)
    · have q11 := hW 11 (by decide)
      simp only at q11
      have q13 := hW 13 (by decide)
      simp only at q13
      have q15 := hW 15 (by decide)
      simp only at q15
      rw [q11, q13, q15]
      clear hW
      refine stepAt_value rfl rfl rfl (.bool true) w8 ?_ ⟨rfl, Below.refl _ _⟩
      have he := heq w8
      go_simp
    · have q11 := hW 11 (by decide)
      simp only at q11
      have q16 := hW 16 (by decide)
      simp only at q16
      rw [q11, q16]
      clear hW
      refine stepAt_value rfl rfl rfl (.bool true) w8 ?_ ⟨rfl, Below.refl _ _⟩
      go_simp
  case fin =>
    intro vals w8 hG hV
    have q17 := hV 17 (by omega)
    simp only at q17
    simp only [List.take_succ_cons, List.take_zero, List.drop_succ_cons, List.drop_zero, putAll, Act.put, List.setIfInBounds_toArray, List.set_cons_zero, List.set_cons_succ, Nat.reduceAdd]
    rw [q17]
    have HBF := Lib.hid (HB.out.trans (hG.mono HB.out.size))
    clear hV q17
    go_wp2_with fail
    go_ret
    exact ⟨rfl, HBF.out⟩
end Go.Proofs.YtickcajihaejkaaDoor
