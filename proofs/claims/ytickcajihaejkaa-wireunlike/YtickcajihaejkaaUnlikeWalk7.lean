/-
  WireUnlike, walked.
-/
import Derived.Test.YtickcajihaejkaaAlive7
import Derived.Test.YtickcajihaejkaaWRef
import Derived.Test.YtickcajihaejkaaFreeLaws
import Derived.Test.YtickcajihaejkaaWSame
import Derived.Deep.DeepCutAuto
namespace Go.Proofs.Ytickcajihaejkaa
open Go.RowKit
set_option maxRecDepth 100000

theorem tag_sizeU {r : List UInt8} (h : r.length = 16) : (Try.prog.info? 28).map (·.size) = some (bv r).length := by
  rw [bv_length, h]
  kernel_rfl
theorem mc_tagU {M : Msg} (h : M.Fits) (sl : Value) {r : List UInt8} (hr : r.length = 16) : splice (mc M sl) 37 (bv r) = mc { M with G := r } sl := by
  rw [mc_copyG h sl r (by omega), List.drop_eq_nil_of_le (by rw [h.G, hr]; omega), List.append_nil]
theorem str_same (a b : List UInt8) : ((⟨a.toArray⟩ : ByteArray).toList == (⟨b.toArray⟩ : ByteArray).toList) = decide (a = b) := by
  by_cases h : a = b
  · subst h
    simp
  · rw [decide_eq_false h, beq_eq_false_iff_ne]
    exact toList_ne (fun e => h (by simpa using congrArg (fun x => x.data.toList) e))
theorem bool_iff {a b : Bool} (h : a = true ↔ b = true) : (a == b) = true := by cases a <;> cases b <;> simp_all

set_option maxHeartbeats 8000000 in
theorem unlike_any (w : World) (M M2 : Msg) (sl sl2 : Value) (hf : M.Fits) (hf2 : M2.Fits) (hr : BRow w w.heap.size sl M.l) (hr2 : BRow w w.heap.size sl2 M2.l) :
    Calls Try.prog 5 #[.agg (mc M sl).toArray, .agg (mc M2 sl2).toArray] w fun e w' => e = .returned (.bool true) ∧ Below w.heap.size w w' := by
  have hb0 := ((Below.refl w.heap.size w).alloc (Nat.le_refl _) (.cells (mc M sl).toArray 30)).alloc (by simp) (.cells (mc M2 sl2).toArray 30)
  have hk1 : Blk _ w.heap.size 30 (mc M sl) := (Blk.new w 30 (mc M sl).toArray).alloc (.cells (mc M2 sl2).toArray 30)
  have hk2 : Blk _ (w.heap.size + 1) 30 (mc M2 sl2) := Blk.newAt (w.alloc (.cells (mc M sl).toArray 30)) 30 (mc M2 sl2).toArray (w.heap.size + 1) (by simp)
  have HR0 := Lib.hid (hr.bits hb0)
  have HQ0 := Lib.hid (hr2.bits hb0)
  have HB0 := Lib.hid hb0
  obtain ⟨w0, hw0⟩ : ∃ x, (w.alloc (.cells (mc M sl).toArray 30)).alloc (.cells (mc M2 sl2).toArray 30) = x := ⟨_, rfl⟩
  rw [hw0] at hk1 hk2 HR0 HQ0 HB0
  obtain ⟨g, hg⟩ : ∃ x, w.heap.size = x := ⟨_, rfl⟩
  rw [hg] at hk1 hk2 HB0 ⊢
  have HK0 := Lib.hid hk1
  have HT0 := Lib.hid hk2
  have HW0 := Lib.hid hw0
  have HG := Lib.hid hg
  have HF := Lib.hid hf
  have HF2 := Lib.hid hf2
  have HF3 := Lib.hid (show Msg.Fits { M2 with G := M.G } from ⟨hf2.T, hf.G, hf2.b⟩)
  have HRL := Lib.hid hf.G
  clear hk1 hk2 hw0 hg hf hf2 hr hr2 hb0
  go_enter Try.func5, Try.ntmps5
  go_upto_region 1 with fail
  rw [HW0.out, HG.out]
  go_wp2_with fail
  refine (alive_any w0).mono ?_
  rintro e w1 ⟨rfl, hb1⟩
  have HK1 := Lib.hid (HK0.out.below hb1 HK0.out.lt)
  have HT1 := Lib.hid (HT0.out.below hb1 HT0.out.lt)
  have HR1 := Lib.hid (HR0.out.bits hb1)
  have HQ1 := Lib.hid (HQ0.out.bits hb1)
  have HB1 := Lib.hid (HB0.out.trans (hb1.mono (Nat.le_of_lt HK0.out.lt)))
  clear hb1 HK0 HT0 HR0 HQ0 HB0
  clear HW0
  go_wp2_with ((with_reducible refine wpList_load_msgG (.tmp 2) ?_ ?_ g M sl ?_ HK1.out HF.out ?_); rfl; rfl; rfl)
  refine (great_any w1 M sl HF.out HR1.out).mono ?_
  rintro e w2 ⟨rfl, hb2⟩
  have HK2 := Lib.hid (HK1.out.below hb2 HK1.out.lt)
  have HT2 := Lib.hid (HT1.out.below hb2 HT1.out.lt)
  have HR2 := Lib.hid (HR1.out.bits hb2)
  have HQ2 := Lib.hid (HQ1.out.bits hb2)
  have HB2 := Lib.hid (HB1.out.trans (hb2.mono (Nat.le_of_lt HK1.out.lt)))
  clear hb2 HK1 HT1 HR1 HQ1 HB1
  by_cases hl : 200 < (M.l.length : Int)
  · rw [show decide (200 < (M.l.length : Int)) = true by simpa using hl]
    go_wp2_with fail
    go_ret
    exact ⟨rfl, HG.out ▸ HB2.out⟩
  rw [show decide (200 < (M.l.length : Int)) = false by simpa using hl]
  have HLN := Lib.hid (show M.l.length ≤ 1000 by omega)
  clear hl
  go_wp2_with ((with_reducible refine wpList_load_msgG (.tmp 3) ?_ ?_ (g + 1) M2 sl2 ?_ HT2.out HF2.out ?_); rfl; rfl; rfl)
  refine (great_any w2 M2 sl2 HF2.out HQ2.out).mono ?_
  rintro e w3 ⟨rfl, hb3⟩
  have HK3 := Lib.hid (HK2.out.below hb3 HK2.out.lt)
  have HT3 := Lib.hid (HT2.out.below hb3 HT2.out.lt)
  have HR3 := Lib.hid (HR2.out.bits hb3)
  have HQ3 := Lib.hid (HQ2.out.bits hb3)
  have HB3 := Lib.hid (HB2.out.trans (hb3.mono (Nat.le_of_lt HK2.out.lt)))
  clear hb3 HK2 HT2 HR2 HQ2 HB2
  by_cases hl : 200 < (M2.l.length : Int)
  · rw [show decide (200 < (M2.l.length : Int)) = true by simpa using hl]
    go_wp2_with fail
    go_ret
    exact ⟨rfl, HG.out ▸ HB3.out⟩
  rw [show decide (200 < (M2.l.length : Int)) = false by simpa using hl]
  have HLN2 := Lib.hid (show M2.l.length ≤ 1000 by omega)
  clear hl
  go_wp2_with ((with_reducible refine wpList_load_msgG (.tmp 2) ?_ ?_ g M sl ?_ HK3.out HF.out ?_); rfl; rfl; rfl)
  refine (refgood_any w3 M sl HF.out HR3.out HLN.out).mono ?_
  rintro e w4 ⟨rfl, hb4⟩
  have HK4 := Lib.hid (HK3.out.below hb4 HK3.out.lt)
  have HT4 := Lib.hid (HT3.out.below hb4 HT3.out.lt)
  have HR4 := Lib.hid (HR3.out.bits hb4)
  have HQ4 := Lib.hid (HQ3.out.bits hb4)
  have HB4 := Lib.hid (HB3.out.trans (hb4.mono (Nat.le_of_lt HK3.out.lt)))
  clear hb4 HK3 HT3 HR3 HQ3 HB3
  cases hgd : msgGood M with
  | false =>
    clear hgd
    go_wp2_with fail
    go_ret
    exact ⟨rfl, HG.out ▸ HB4.out⟩
  | true =>
  have HM := Lib.hid (msg_ranged hgd HF.out)
  have HGD := Lib.hid hgd
  clear hgd
  go_wp2_with ((with_reducible refine wpList_load_msgG (.tmp 3) ?_ ?_ (g + 1) M2 sl2 ?_ HT4.out HF2.out ?_); rfl; rfl; rfl)
  refine (refgood_any w4 M2 sl2 HF2.out HQ4.out HLN2.out).mono ?_
  rintro e w5 ⟨rfl, hb5⟩
  have HK5 := Lib.hid (HK4.out.below hb5 HK4.out.lt)
  have HT5 := Lib.hid (HT4.out.below hb5 HT4.out.lt)
  have HR5 := Lib.hid (HR4.out.bits hb5)
  have HQ5 := Lib.hid (HQ4.out.bits hb5)
  have HB5 := Lib.hid (HB4.out.trans (hb5.mono (Nat.le_of_lt HK4.out.lt)))
  clear hb5 HK4 HT4 HR4 HQ4 HB4
  cases hgd : msgGood M2 with
  | false =>
    clear hgd
    go_wp2_with fail
    go_ret
    exact ⟨rfl, HG.out ▸ HB5.out⟩
  | true =>
  have HM2 := Lib.hid (msg_ranged hgd HF2.out)
  have HGD2 := Lib.hid hgd
  clear hgd
  obtain ⟨P, hP⟩ : ∃ P : ByteArray, ⟨(msgP M).toArray⟩ = P := ⟨_, rfl⟩
  obtain ⟨P2, hP2⟩ : ∃ P : ByteArray, ⟨(msgP M2).toArray⟩ = P := ⟨_, rfl⟩
  obtain ⟨S, hS⟩ : ∃ P : ByteArray, ⟨(msgB M).toArray⟩ = P := ⟨_, rfl⟩
  obtain ⟨S2, hS2⟩ : ∃ P : ByteArray, ⟨(msgB M2).toArray⟩ = P := ⟨_, rfl⟩
  obtain ⟨Z1, hZ1⟩ : ∃ P, msgSame M M2 = P := ⟨_, rfl⟩
  obtain ⟨Z2, hZ2⟩ : ∃ P, msgSame M { M2 with G := M.G } = P := ⟨_, rfl⟩
  have HM3 := Lib.hid (show Msg.Ranged { M2 with G := M.G } from msg_ranged (show msgGood { M2 with G := M.G } = true from HGD2.out) HF3.out)
  have HEQ1 := Lib.hid (show ((S.toList == S2.toList) == Z1) = true by
    rw [← hS, ← hS2, ← hZ1, str_same]
    apply bool_iff
    rw [decide_eq_true_iff, msgSame_iff]
    exact ⟨msgB_inj HM.out HM2.out, fun h => by rw [h]⟩)
  have HEQ2 := Lib.hid (show ((P.toList == P2.toList) == Z2) = true by
    rw [← hP, ← hP2, ← hZ2, str_same]
    apply bool_iff
    rw [decide_eq_true_iff, msgSame_iff]
    exact ⟨fun h => msgP_inj HM.out HM3.out (h.trans rfl) rfl, fun h => by rw [h]; rfl⟩)
  have HP := Lib.hid hP
  have HP2 := Lib.hid hP2
  have HZ1 := Lib.hid hZ1
  have HZ2 := Lib.hid hZ2
  have HEN1 := Lib.hid (encode_any w5 M sl HF.out HR5.out)
  rw [show encB M = msgB M by simp [encB, HGD.out], HGD.out, hS] at HEN1
  have HS2 := Lib.hid hS2
  clear hP hP2 hS hS2 hZ1 hZ2
  go_wp2_with ((with_reducible refine wpList_load_msgG (.tmp 2) ?_ ?_ g M sl ?_ HK5.out HF.out ?_); rfl; rfl; rfl)
  refine HEN1.out.mono ?_
  rintro e w6 ⟨rfl, hb6⟩
  have HK6 := Lib.hid (HK5.out.below hb6 HK5.out.lt)
  have HT6 := Lib.hid (HT5.out.below hb6 HT5.out.lt)
  have HR6 := Lib.hid (HR5.out.bits hb6)
  have HQ6 := Lib.hid (HQ5.out.bits hb6)
  have HB6 := Lib.hid (HB5.out.trans (hb6.mono (Nat.le_of_lt HK5.out.lt)))
  clear hb6 HK5 HT5 HR5 HQ5 HB5
  clear HEN1
  have HEN2 := Lib.hid (encode_any w6 M2 sl2 HF2.out HQ6.out)
  rw [show encB M2 = msgB M2 by simp [encB, HGD2.out], HGD2.out, HS2.out] at HEN2
  go_wp2_with ((with_reducible refine wpList_load_msgG (.tmp 3) ?_ ?_ (g + 1) M2 sl2 ?_ HT6.out HF2.out ?_); rfl; rfl; rfl)
  refine HEN2.out.mono ?_
  rintro e w7 ⟨rfl, hb7⟩
  have HK7 := Lib.hid (HK6.out.below hb7 HK6.out.lt)
  have HT7 := Lib.hid (HT6.out.below hb7 HT6.out.lt)
  have HR7 := Lib.hid (HR6.out.bits hb7)
  have HQ7 := Lib.hid (HQ6.out.bits hb7)
  have HB7 := Lib.hid (HB6.out.trans (hb7.mono (Nat.le_of_lt HK6.out.lt)))
  clear hb7 HK6 HT6 HR6 HQ6 HB6
  clear HEN2 HS2
  have hZ := zero_new w7
  have hK8 := hZ.setRow (mc M2 sl2)
  have hK9 := hK8.setRow (mc { M2 with G := M.G } sl2)
  have hb9 : Below w7.heap.size w7 (((w7.alloc (.cells zcells 30)).setRow w7.heap.size (mc M2 sl2).toArray).setRow w7.heap.size (mc { M2 with G := M.G } sl2).toArray) := below_setRow (below_setRow ((Below.refl _ _).alloc (Nat.le_refl _) (.cells zcells 30)) (Nat.le_refl _) (mc M2 sl2).toArray) (Nat.le_refl _) _
  have hT8 : Blk ((w7.alloc (.cells zcells 30)).setRow w7.heap.size (mc M2 sl2).toArray) g 30 (mc M sl) := (HK7.out.alloc _).setRow_other _ (Nat.ne_of_lt HK7.out.lt)
  have HZ := Lib.hid hZ
  have HC8 := Lib.hid hK8
  have HK8 := Lib.hid hT8
  have HC9 := Lib.hid hK9
  have HK9 := Lib.hid (HK7.out.below hb9 HK7.out.lt)
  have HT9 := Lib.hid (HT7.out.below hb9 HT7.out.lt)
  have HR9 := Lib.hid (HR7.out.bits hb9)
  have HQ9 := Lib.hid (HQ7.out.bits hb9)
  have HB9 := Lib.hid (HB7.out.trans (hb9.mono (Nat.le_of_lt HK7.out.lt)))
  have HO := Lib.hid HQ7.out.one
  clear hZ hK8 hK9 hb9 hT8 HB7 HR7 HQ7
  obtain ⟨c, hc⟩ : ∃ c, w7.heap.size = c := ⟨_, rfl⟩
  obtain ⟨w8, hw8⟩ : ∃ x, (w7.alloc (.cells zcells 30)).setRow w7.heap.size (mc M2 sl2).toArray = x := ⟨_, rfl⟩
  rw [hw8] at HC8 HK8 HC9 HK9 HT9 HR9 HQ9 HB9
  obtain ⟨w9, hw9⟩ : ∃ x, w8.setRow w7.heap.size (mc { M2 with G := M.G } sl2).toArray = x := ⟨_, rfl⟩
  rw [hw9] at HC9 HK9 HT9 HR9 HQ9 HB9
  have HW8 := Lib.hid hw8
  have HW9 := Lib.hid hw9
  have HCC := Lib.hid hc
  rw [hc] at HC9 HC8 HZ
  clear hw8 hw9 hc
  go_upto_region 8 with (first
    | ((with_reducible refine wpList_load_msgG (.tmp 3) ?_ ?_ (g + 1) M2 sl2 ?_ HT7.out HF2.out ?_); rfl; rfl; rfl)
    | ((with_reducible refine wpList_store_msg (.tmp 9) (.tmp 38) ?_ ?_ w7.heap.size zeroMsg M2 (.slice none 0 0) sl2 ?_ ?_ ?_ zeroMsg_fits HF2.out ?_ ?_); rfl; rfl; rfl; rfl; (rw [HCC.out]; exact HZ.out); exact HO.out))
  rw [zcells_lit, HW8.out]
  go_upto_region 9 with (first
    | ((with_reducible refine wpList_load_bytesG 28 (.tmp 39) ?_ ?_ g 37 M.G ?_ 16 5 Try.underlying28 ?_ ?_ ?_); rfl; rfl; rfl; exact tag_sizeU HRL.out; (exact fun j v hj => (HK8.out.cell _).trans (mc_G HF.out sl j v hj)))
    | ((with_reducible refine wpList_store_part ?_ 28 (.tmp 41) (.tmp 40) ?_ w7.heap.size 37 (bv M.G) ?_ ?_ 30 (mc M2 sl2) ?_ ?_ ?_ ?_ ?_); rfl; rfl; rfl; rfl; (rw [HCC.out]; exact HC8.out); exact tag_sizeU HRL.out; (rw [mc_length HF2.out, bv_length, HRL.out]; omega); exact bv_one M.G))
  rw [mc_tagU HF2.out sl2 HRL.out, HW9.out, HCC.out]
  clear HZ HC8 HK8 HO HW8 HW9 HCC HK7 HT7
  refine wp_region_free (P := Try.prog) 18 (fun w' => Below w9.heap.size w9 w') (fun oq v w' => match oq with
      | 0 => v = .string S
      | 1 => v = .string S2
      | 2 => v = .bool (S.toList == S2.toList)
      | 3 => v = .agg (mc M sl).toArray
      | 4 => v = .agg (mc M2 sl2).toArray
      | 5 => v = .bool Z1
      | 6 => v = .bool true
      | 7 => v = .bool true
      | 8 => v = .agg (mc M sl).toArray
      | 9 => v = .string P
      | 10 => v = .agg (mc M2 sl2).toArray
      | 11 => v = .string P2
      | 12 => v = .bool (P.toList == P2.toList)
      | 13 => v = .agg (mc M sl).toArray
      | 14 => v = .agg (mc { M2 with G := M.G } sl2).toArray
      | 15 => v = .bool Z2
      | 16 => v = .bool true
      | 17 => v = .bool true
      | _ => True) (by kernel_rfl) (by kernel_rfl) (Below.refl _ _).drew ?gb ?vb ?steps ?fin
  case gb => exact fun a b h1 h2 => h1.trans (h2.mono h1.size)
  case vb =>
    intro oq v a b h hb
    match oq with
    | 0 => exact h
    | 1 => exact h
    | 2 => exact h
    | 3 => exact h
    | 4 => exact h
    | 5 => exact h
    | 6 => exact h
    | 7 => exact h
    | 8 => exact h
    | 9 => exact h
    | 10 => exact h
    | 11 => exact h
    | 12 => exact h
    | 13 => exact h
    | 14 => exact h
    | 15 => exact h
    | 16 => exact h
    | 17 => exact h
    | _ + 18 => trivial
  case steps =>
    intro vals
    simp only [List.take_succ_cons, List.take_zero, freeSteps, Act.put, List.setIfInBounds_toArray, List.set_cons_zero, List.set_cons_succ, Nat.reduceAdd]
    refine ⟨fun w8 hG hW => ?_, fun w8 hG hW => ?_, fun w8 hG hW => ?_, fun w8 hG hW => ?_, fun w8 hG hW => ?_, fun w8 hG hW => ?_, fun w8 hG hW => ?_, fun w8 hG hW => ?_, fun w8 hG hW => ?_, fun w8 hG hW => ?_, fun w8 hG hW => ?_, fun w8 hG hW => ?_, fun w8 hG hW => ?_, fun w8 hG hW => ?_, fun w8 hG hW => ?_, fun w8 hG hW => ?_, fun w8 hG hW => ?_, fun w8 hG hW => ?_, trivial⟩
    · clear hW
      refine stepAt_value rfl rfl rfl (.string S) w8 ?_ ⟨rfl, Below.refl _ _⟩
      go_simp
    · clear hW
      refine stepAt_value rfl rfl rfl (.string S2) w8 ?_ ⟨rfl, Below.refl _ _⟩
      go_simp
    · have q0 := hW 0 (by decide)
      simp only at q0
      have q1 := hW 1 (by decide)
      simp only at q1
      rw [q0, q1]
      clear hW
      refine stepAt_value rfl rfl rfl (.bool (S.toList == S2.toList)) w8 ?_ ⟨rfl, Below.refl _ _⟩
      go_simp
    · clear hW
      exact stepAt_load_msg rfl rfl rfl (.tmp 2) rfl g M sl rfl (HK9.out.below hG HK9.out.lt) HF.out ⟨rfl, Below.refl _ _⟩
    · clear hW
      exact stepAt_load_msg rfl rfl rfl (.tmp 3) rfl (g + 1) M2 sl2 rfl (HT9.out.below hG HT9.out.lt) HF2.out ⟨rfl, Below.refl _ _⟩
    · have q3 := hW 3 (by decide)
      simp only at q3
      have q4 := hW 4 (by decide)
      simp only at q4
      rw [q3, q4]
      clear hW
      refine stepAt_call rfl rfl rfl 11 #[.agg (mc M sl).toArray, .agg (mc M2 sl2).toArray] (by go_simp) ((msame_any w8 M M2 sl sl2 HF.out HF2.out ((HR9.out.keep hG).more hG.size) ((HQ9.out.keep hG).more hG.size) HLN.out).mono fun e w' ⟨h1, h2⟩ => ⟨_, h1, by rw [HZ1.out], h2⟩)
    · have q2 := hW 2 (by decide)
      simp only at q2
      have q5 := hW 5 (by decide)
      simp only at q5
      rw [q2, q5]
      clear hW
      refine stepAt_value rfl rfl rfl (.bool true) w8 ?_ ⟨rfl, Below.refl _ _⟩
      have hx := HEQ1.out
      go_simp
    · have q6 := hW 6 (by decide)
      simp only at q6
      rw [q6]
      clear hW
      refine stepAt_value rfl rfl rfl (.bool true) w8 ?_ ⟨rfl, Below.refl _ _⟩
      go_simp
    · have q7 := hW 7 (by decide)
      simp only at q7
      rw [q7]
      clear hW
      exact stepAt_load_msg rfl rfl rfl (.tmp 2) rfl g M sl rfl (HK9.out.below hG HK9.out.lt) HF.out ⟨rfl, Below.refl _ _⟩
    · have q7 := hW 7 (by decide)
      simp only at q7
      have q8 := hW 8 (by decide)
      simp only at q8
      rw [q7, q8]
      clear hW
      refine stepAt_call rfl rfl rfl 15 #[.agg (mc M sl).toArray] (by go_simp) ((wplain_any w8 M sl HM.out ((HR9.out.keep hG).more hG.size) HLN.out).mono fun e w' ⟨h1, h2⟩ => ⟨_, h1, by rw [HP.out], h2⟩)
    · have q7 := hW 7 (by decide)
      simp only at q7
      rw [q7]
      clear hW
      exact stepAt_load_msg rfl rfl rfl (.tmp 3) rfl (g + 1) M2 sl2 rfl (HT9.out.below hG HT9.out.lt) HF2.out ⟨rfl, Below.refl _ _⟩
    · have q7 := hW 7 (by decide)
      simp only at q7
      have q10 := hW 10 (by decide)
      simp only at q10
      rw [q7, q10]
      clear hW
      refine stepAt_call rfl rfl rfl 15 #[.agg (mc M2 sl2).toArray] (by go_simp) ((wplain_any w8 M2 sl2 HM2.out ((HQ9.out.keep hG).more hG.size) HLN2.out).mono fun e w' ⟨h1, h2⟩ => ⟨_, h1, by rw [HP2.out], h2⟩)
    · have q7 := hW 7 (by decide)
      simp only at q7
      have q9 := hW 9 (by decide)
      simp only at q9
      have q11 := hW 11 (by decide)
      simp only at q11
      rw [q7, q9, q11]
      clear hW
      refine stepAt_value rfl rfl rfl (.bool (P.toList == P2.toList)) w8 ?_ ⟨rfl, Below.refl _ _⟩
      go_simp
    · have q7 := hW 7 (by decide)
      simp only at q7
      rw [q7]
      clear hW
      exact stepAt_load_msg rfl rfl rfl (.tmp 2) rfl g M sl rfl (HK9.out.below hG HK9.out.lt) HF.out ⟨rfl, Below.refl _ _⟩
    · have q7 := hW 7 (by decide)
      simp only at q7
      rw [q7]
      clear hW
      exact stepAt_load_msg rfl rfl rfl (.tmp 9) rfl c { M2 with G := M.G } sl2 rfl (HC9.out.below hG HC9.out.lt) HF3.out ⟨rfl, Below.refl _ _⟩
    · have q7 := hW 7 (by decide)
      simp only at q7
      have q13 := hW 13 (by decide)
      simp only at q13
      have q14 := hW 14 (by decide)
      simp only at q14
      rw [q7, q13, q14]
      clear hW
      refine stepAt_call rfl rfl rfl 11 #[.agg (mc M sl).toArray, .agg (mc { M2 with G := M.G } sl2).toArray] (by go_simp) ((msame_any w8 M { M2 with G := M.G } sl sl2 HF.out HF3.out ((HR9.out.keep hG).more hG.size) ((HQ9.out.keep hG).more hG.size) HLN.out).mono fun e w' ⟨h1, h2⟩ => ⟨_, h1, by rw [HZ2.out], h2⟩)
    · have q7 := hW 7 (by decide)
      simp only at q7
      have q12 := hW 12 (by decide)
      simp only at q12
      have q15 := hW 15 (by decide)
      simp only at q15
      rw [q7, q12, q15]
      clear hW
      refine stepAt_value rfl rfl rfl (.bool true) w8 ?_ ⟨rfl, Below.refl _ _⟩
      have hx := HEQ2.out
      go_simp
    · have q7 := hW 7 (by decide)
      simp only at q7
      have q16 := hW 16 (by decide)
      simp only at q16
      rw [q7, q16]
      clear hW
      refine stepAt_value rfl rfl rfl (.bool true) w8 ?_ ⟨rfl, Below.refl _ _⟩
      go_simp
  case fin =>
    intro vals w8 hG hV
    have q17 := hV 17 (by omega)
    simp only at q17
    simp only [List.take_succ_cons, List.take_zero, List.drop_succ_cons, List.drop_zero, putAll, Act.put, List.setIfInBounds_toArray, List.set_cons_zero, List.set_cons_succ, Nat.reduceAdd]
    rw [q17]
    have HBF := Lib.hid (HB9.out.trans (hG.mono (Nat.le_of_lt HK9.out.lt)))
    clear hV q17
    go_wp2_with fail
    go_ret
    exact ⟨rfl, HG.out ▸ HBF.out⟩
end Go.Proofs.Ytickcajihaejkaa
