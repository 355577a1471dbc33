/-
  WireTags, walked.
-/
import Derived.Test.YtickcajihaejkaaAlive7
import Derived.Test.YtickcajihaejkaaWRef
import Derived.Test.YtickcajihaejkaaFreeLaws
import Derived.Test.YtickcajihaejkaaWSame
import Derived.Deep.DeepCutAuto
namespace Go.Proofs.Ytickcajihaejkaa
open Go.RowKit
set_option maxRecDepth 100000

theorem tag_size {r : List UInt8} (h : r.length = 16) : (Try.prog.info? 28).map (·.size) = some (bv r).length := by
  rw [bv_length, h]
  kernel_rfl

/-- A tag into a message. -/
theorem mc_tag {M : Msg} (h : M.Fits) (sl : Value) {r : List UInt8} (hr : r.length = 16) : splice (mc M sl) 37 (bv r) = mc { M with G := r } sl := by
  rw [mc_copyG h sl r (by omega), List.drop_eq_nil_of_le (by rw [h.G, hr]; omega), List.append_nil]

set_option maxHeartbeats 8000000 in
theorem tags_any (w : World) (M : Msg) (sl : Value) (r : List UInt8) (hf : M.Fits) (hr : BRow w w.heap.size sl M.l) (hrl : r.length = 16) :
    Calls Try.prog 7 #[.agg (mc M sl).toArray, .agg (bv r).toArray] w fun e w' => e = .returned (.bool true) ∧ Below w.heap.size w w' := by
  have hb0 := ((Below.refl w.heap.size w).alloc (Nat.le_refl _) (.cells (mc M sl).toArray 30)).alloc (by simp) (.cells (bv r).toArray 28)
  have hk1 : Blk _ w.heap.size 30 (mc M sl) := (Blk.new w 30 (mc M sl).toArray).alloc (.cells (bv r).toArray 28)
  have hk2 : Blk _ (w.heap.size + 1) 28 (bv r) := Blk.newAt (w.alloc (.cells (mc M sl).toArray 30)) 28 (bv r).toArray (w.heap.size + 1) (by simp)
  have HR0 := Lib.hid (hr.bits hb0)
  have HB0 := Lib.hid hb0
  obtain ⟨w0, hw0⟩ : ∃ x, (w.alloc (.cells (mc M sl).toArray 30)).alloc (.cells (bv r).toArray 28) = x := ⟨_, rfl⟩
  rw [hw0] at hk1 hk2 HR0 HB0
  obtain ⟨g, hg⟩ : ∃ x, w.heap.size = x := ⟨_, rfl⟩
  rw [hg] at hk1 hk2 HB0 ⊢
  have HK0 := Lib.hid hk1
  have HT0 := Lib.hid hk2
  have HW0 := Lib.hid hw0
  have HG := Lib.hid hg
  have HF := Lib.hid hf
  have HRL := Lib.hid hrl
  clear hk1 hk2 hw0 hg hf hr hb0 hrl
  go_enter Try.func7, Try.ntmps7
  go_upto_region 1 with fail
  rw [HW0.out, HG.out]
  go_wp2_with fail
  refine (alive_any w0).mono ?_
  rintro e w1 ⟨rfl, hb1⟩
  have HK1 := Lib.hid (HK0.out.below hb1 HK0.out.lt)
  have HT1 := Lib.hid (HT0.out.below hb1 HT0.out.lt)
  have HR1 := Lib.hid (HR0.out.bits hb1)
  have HB1 := Lib.hid (HB0.out.trans (hb1.mono (Nat.le_of_lt HK0.out.lt)))
  clear hb1 HK0 HT0 HR0 HB0
  clear HW0
  go_wp2_with ((with_reducible refine wpList_load_msgG (.tmp 2) ?_ ?_ g M sl ?_ HK1.out HF.out ?_); rfl; rfl; rfl)
  refine (great_any w1 M sl HF.out HR1.out).mono ?_
  rintro e w2 ⟨rfl, hb2⟩
  have HK2 := Lib.hid (HK1.out.below hb2 HK1.out.lt)
  have HT2 := Lib.hid (HT1.out.below hb2 HT1.out.lt)
  have HR2 := Lib.hid (HR1.out.bits hb2)
  have HB2 := Lib.hid (HB1.out.trans (hb2.mono (Nat.le_of_lt HK1.out.lt)))
  clear hb2 HK1 HT1 HR1 HB1
  by_cases hl : 200 < (M.l.length : Int)
  · rw [show decide (200 < (M.l.length : Int)) = true by simpa using hl]
    go_wp2_with fail
    go_ret
    exact ⟨rfl, HG.out ▸ HB2.out⟩
  rw [show decide (200 < (M.l.length : Int)) = false by simpa using hl]
  have hl' : M.l.length ≤ 200 := by omega
  clear hl
  go_wp2_with ((with_reducible refine wpList_load_msgG (.tmp 2) ?_ ?_ g M sl ?_ HK2.out HF.out ?_); rfl; rfl; rfl)
  refine (refgood_any w2 M sl HF.out HR2.out (by omega)).mono ?_
  rintro e w3 ⟨rfl, hb3⟩
  have HK3 := Lib.hid (HK2.out.below hb3 HK2.out.lt)
  have HT3 := Lib.hid (HT2.out.below hb3 HT2.out.lt)
  have HR3 := Lib.hid (HR2.out.bits hb3)
  have HB3 := Lib.hid (HB2.out.trans (hb3.mono (Nat.le_of_lt HK2.out.lt)))
  clear hb3 HK2 HT2 HR2 HB2
  cases hgd : msgGood M with
  | false =>
    clear hgd
    go_wp2_with fail
    go_ret
    exact ⟨rfl, HG.out ▸ HB3.out⟩
  | true =>
  have HM := Lib.hid (msg_ranged hgd HF.out)
  have hgd' : msgGood { M with G := r } = true := hgd
  have HF' := Lib.hid (show Msg.Fits { M with G := r } from ⟨HF.out.T, HRL.out, HF.out.b⟩)
  -- the sizes
  obtain ⟨P, hP⟩ : ∃ P : ByteArray, ⟨(msgP M).toArray⟩ = P := ⟨_, rfl⟩
  obtain ⟨S, hS⟩ : ∃ P : ByteArray, ⟨(msgB M).toArray⟩ = P := ⟨_, rfl⟩
  obtain ⟨S2, hS2⟩ : ∃ P : ByteArray, ⟨(msgP M ++ r).toArray⟩ = P := ⟨_, rfl⟩
  obtain ⟨GA, hGA⟩ : ∃ P : ByteArray, ⟨M.G.toArray⟩ = P := ⟨_, rfl⟩
  obtain ⟨GB, hGB⟩ : ∃ P : ByteArray, ⟨r.toArray⟩ = P := ⟨_, rfl⟩
  have z1 : S.size = P.size + 16 := by rw [← hS, ← hP]; simp [ByteArray.size, msgB, HF.out.G]
  have z2 : S2.size = P.size + 16 := by rw [← hS2, ← hP]; simp [ByteArray.size, HRL.out]
  have z3 : P.size ≤ 100 := by
    rw [← hP]
    simp only [ByteArray.size, List.size_toArray]
    rw [msgP_length HM.out]
    split
    · omega
    · split <;> omega
  have HX1 := Lib.hid (show S.extract 0 P.size = P by rw [← hS, ← hP]; apply ByteArray.ext; simp [ByteArray.size, ByteArray.data_extract, msgB])
  have HX2 := Lib.hid (show S2.extract 0 P.size = P by rw [← hS2, ← hP]; apply ByteArray.ext; simp [ByteArray.size, ByteArray.data_extract])
  have HY1 := Lib.hid (show S.extract P.size S.size = GA by rw [← hS, ← hP, ← hGA]; apply ByteArray.ext; simp [ByteArray.size, ByteArray.data_extract, msgB])
  have HY2 := Lib.hid (show S2.extract P.size S2.size = GB by rw [← hS2, ← hP, ← hGB]; apply ByteArray.ext; simp [ByteArray.size, ByteArray.data_extract])
  have eN : IntKind.i64.wrap ((S.size : Int) - 16) = (P.size : Int) := by rw [show (S.size : Int) - 16 = (P.size : Int) by omega]; rw [IntKind.wrap_i64]; omega
  have HGA := Lib.hid hGA
  have HGB := Lib.hid hGB
  have HE1 := Lib.hid (show encB M = msgB M by simp [encB, hgd])
  have HE2 := Lib.hid (show encB { M with G := r } = msgP M ++ r by simp only [encB, hgd', if_pos]; rfl)
  -- another tag in a copy
  have hZ := zero_new w3
  have hK4 := hZ.setRow (mc M sl)
  have hK5 := hK4.setRow (mc { M with G := r } sl)
  have hb5 : Below w3.heap.size w3 (((w3.alloc (.cells zcells 30)).setRow w3.heap.size (mc M sl).toArray).setRow w3.heap.size (mc { M with G := r } sl).toArray) := below_setRow (below_setRow ((Below.refl _ _).alloc (Nat.le_refl _) (.cells zcells 30)) (Nat.le_refl _) (mc M sl).toArray) (Nat.le_refl _) _
  have hT4 : Blk ((w3.alloc (.cells zcells 30)).setRow w3.heap.size (mc M sl).toArray) (g + 1) 28 (bv r) := (HT3.out.alloc _).setRow_other _ (Nat.ne_of_lt HT3.out.lt)
  have HZ := Lib.hid hZ
  have HK4 := Lib.hid hK4
  have HT4 := Lib.hid hT4
  have HC5 := Lib.hid hK5
  have HK5 := Lib.hid (HK3.out.below hb5 HK3.out.lt)
  have HT5 := Lib.hid (HT3.out.below hb5 HT3.out.lt)
  have HR5 := Lib.hid (HR3.out.bits hb5)
  have HB5 := Lib.hid (HB3.out.trans (hb5.mono (Nat.le_of_lt HK3.out.lt)))
  have HO := Lib.hid HR3.out.one
  clear hZ hK4 hK5 hb5 hT4 HT3 HB3 HR3
  obtain ⟨c, hc⟩ : ∃ c, w3.heap.size = c := ⟨_, rfl⟩
  obtain ⟨w4, hw4⟩ : ∃ x, (w3.alloc (.cells zcells 30)).setRow w3.heap.size (mc M sl).toArray = x := ⟨_, rfl⟩
  rw [hw4] at HK4 HT4 HC5 HK5 HT5 HR5 HB5
  obtain ⟨w5, hw5⟩ : ∃ x, w4.setRow w3.heap.size (mc { M with G := r } sl).toArray = x := ⟨_, rfl⟩
  rw [hw5] at HC5 HK5 HT5 HR5 HB5
  have HW4 := Lib.hid hw4
  have HW5 := Lib.hid hw5
  have HCC := Lib.hid hc
  rw [hc] at HC5 HK4 HZ
  clear hw4 hw5 hc hgd'
  have HGD := Lib.hid hgd
  clear hgd hGA hGB
  go_upto_region 6 with (first
    | ((with_reducible refine wpList_load_msgG (.tmp 2) ?_ ?_ g M sl ?_ HK3.out HF.out ?_); rfl; rfl; rfl)
    | ((with_reducible refine wpList_store_msg (.tmp 5) (.tmp 20) ?_ ?_ w3.heap.size zeroMsg M (.slice none 0 0) sl ?_ ?_ ?_ zeroMsg_fits HF.out ?_ ?_); rfl; rfl; rfl; rfl; (rw [HCC.out]; exact HZ.out); exact HO.out))
  rw [zcells_lit, HW4.out]
  go_upto_region 7 with (first
    | ((with_reducible refine wpList_load_bytesG 28 (.tmp 3) ?_ ?_ (g + 1) 0 r ?_ 16 5 Try.underlying28 ?_ ?_ ?_); rfl; rfl; rfl; exact tag_size HRL.out; (exact fun j v hj => by rw [Nat.zero_add]; exact (HT4.out.cell j).trans hj))
    | ((with_reducible refine wpList_store_part ?_ 28 (.tmp 22) (.tmp 21) ?_ w3.heap.size 37 (bv r) ?_ ?_ 30 (mc M sl) ?_ ?_ ?_ ?_ ?_); rfl; rfl; rfl; rfl; (rw [HCC.out]; exact HK4.out); exact tag_size HRL.out; (rw [mc_length HF.out, bv_length, HRL.out]; omega); exact bv_one r))
  rw [mc_tag HF.out sl HRL.out, HW5.out, HCC.out]
  clear HZ HK4 HT4 HO HW4 HW5 HCC HK3
  have HEN1 := Lib.hid (encode_any w5 M sl HF.out HR5.out)
  rw [HE1.out, HGD.out, hS] at HEN1
  have HS2 := Lib.hid hS2
  clear hS hS2 hP
  go_wp2_with ((with_reducible refine wpList_load_msgG (.tmp 2) ?_ ?_ g M sl ?_ HK5.out HF.out ?_); rfl; rfl; rfl)
  refine HEN1.out.mono ?_
  rintro e w6 ⟨rfl, hb6⟩
  have HK6 := Lib.hid (HK5.out.below hb6 HK5.out.lt)
  have HT6 := Lib.hid (HT5.out.below hb6 HT5.out.lt)
  have HC6 := Lib.hid (HC5.out.below hb6 HC5.out.lt)
  have HR6 := Lib.hid (HR5.out.bits hb6)
  have HB6 := Lib.hid (HB5.out.trans (hb6.mono (Nat.le_of_lt HK5.out.lt)))
  clear hb6 HK5 HT5 HC5 HR5 HB5
  clear HEN1
  have HEN2 := Lib.hid (encode_any w6 { M with G := r } sl HF'.out HR6.out)
  rw [HE2.out, show msgGood { M with G := r } = true from HGD.out, HS2.out] at HEN2
  go_wp2_with ((with_reducible refine wpList_load_msgG (.tmp 5) ?_ ?_ c { M with G := r } sl ?_ HC6.out HF'.out ?_); rfl; rfl; rfl)
  refine HEN2.out.mono ?_
  rintro e w7 ⟨rfl, hb7⟩
  have HK7 := Lib.hid (HK6.out.below hb7 HK6.out.lt)
  have HT7 := Lib.hid (HT6.out.below hb7 HT6.out.lt)
  have HC7 := Lib.hid (HC6.out.below hb7 HC6.out.lt)
  have HR7 := Lib.hid (HR6.out.bits hb7)
  have HB7 := Lib.hid (HB6.out.trans (hb7.mono (Nat.le_of_lt HK6.out.lt)))
  clear hb7 HK6 HT6 HC6 HR6 HB6
  clear HEN2
  have d1 : ((S.size : Int) != (S2.size : Int)) = false := by rw [z1, z2]; simp
  have d2 : ¬ ((S.size : Int) < 16) := by omega
  have d3 : ¬ (S.size < 16) := by omega
  go_upto_region 12 with fail
  refine wp_region_free (P := Try.prog) 24 (fun w' => Below w7.heap.size w7 w') (fun oq v w' => match oq with
      | 0 => v = .string S
      | 1 => v = .int .i64 (P.size : Int)
      | 2 => v = .string P
      | 3 => v = .string S2
      | 4 => v = .int .i64 (P.size : Int)
      | 5 => v = .string P
      | 6 => v = .bool true
      | 7 => v = .bool true
      | 8 => v = .string S
      | 9 => v = .int .i64 (P.size : Int)
      | 10 => v = .string GA
      | 11 => v = .pointer (some ⟨g, 37, none⟩)
      | 12 => v = .slice (some ⟨g, 37, none⟩) 16 16
      | 13 => v = .string GA
      | 14 => v = .bool true
      | 15 => v = .bool true
      | 16 => v = .bool true
      | 17 => v = .string S2
      | 18 => v = .int .i64 (P.size : Int)
      | 19 => v = .string GB
      | 20 => v = .slice (some ⟨g + 1, 0, none⟩) 16 16
      | 21 => v = .string GB
      | 22 => v = .bool true
      | 23 => v = .bool true
      | _ => True) (by kernel_rfl) (by kernel_rfl) (Below.refl _ _).drew ?gb ?vb ?steps ?fin
  case gb => exact fun a b h1 h2 => h1.trans (h2.mono h1.size)
  case vb =>
    intro oq v a b h hb
    match oq with
    | 0 => exact h
    | 1 => exact h
    | 2 => exact h
    | 3 => exact h
    | 4 => exact h
    | 5 => exact h
    | 6 => exact h
    | 7 => exact h
    | 8 => exact h
    | 9 => exact h
    | 10 => exact h
    | 11 => exact h
    | 12 => exact h
    | 13 => exact h
    | 14 => exact h
    | 15 => exact h
    | 16 => exact h
    | 17 => exact h
    | 18 => exact h
    | 19 => exact h
    | 20 => exact h
    | 21 => exact h
    | 22 => exact h
    | 23 => exact h
    | _ + 24 => trivial
  case steps =>
    intro vals
    simp only [List.take_succ_cons, List.take_zero, freeSteps, Act.put, List.setIfInBounds_toArray, List.set_cons_zero, List.set_cons_succ, Nat.reduceAdd]
    refine ⟨fun w8 hG hW => ?_, fun w8 hG hW => ?_, fun w8 hG hW => ?_, fun w8 hG hW => ?_, fun w8 hG hW => ?_, fun w8 hG hW => ?_, fun w8 hG hW => ?_, fun w8 hG hW => ?_, fun w8 hG hW => ?_, fun w8 hG hW => ?_, fun w8 hG hW => ?_, fun w8 hG hW => ?_, fun w8 hG hW => ?_, fun w8 hG hW => ?_, fun w8 hG hW => ?_, fun w8 hG hW => ?_, fun w8 hG hW => ?_, fun w8 hG hW => ?_, fun w8 hG hW => ?_, fun w8 hG hW => ?_, fun w8 hG hW => ?_, fun w8 hG hW => ?_, fun w8 hG hW => ?_, fun w8 hG hW => ?_, trivial⟩
    · clear hW
      refine stepAt_value rfl rfl rfl (.string S) w8 ?_ ⟨rfl, Below.refl _ _⟩
      go_simp
    · clear hW
      refine stepAt_value rfl rfl rfl (.int .i64 (P.size : Int)) w8 ?_ ⟨rfl, Below.refl _ _⟩
      go_simp
    · have q0 := hW 0 (by decide)
      simp only at q0
      have q1 := hW 1 (by decide)
      simp only at q1
      rw [q0, q1]
      clear hW
      refine stepAt_value rfl rfl rfl (.string P) w8 ?_ ⟨rfl, Below.refl _ _⟩
      have hx := HX1.out
      have hle1 : ¬ (S.size < P.size) := by omega
      have hlf1 : P.size ≤ S.size := by omega
      clear z1 z2
      go_simp
    · clear hW
      refine stepAt_value rfl rfl rfl (.string S2) w8 ?_ ⟨rfl, Below.refl _ _⟩
      go_simp
    · clear hW
      refine stepAt_value rfl rfl rfl (.int .i64 (P.size : Int)) w8 ?_ ⟨rfl, Below.refl _ _⟩
      go_simp
    · have q3 := hW 3 (by decide)
      simp only at q3
      have q4 := hW 4 (by decide)
      simp only at q4
      rw [q3, q4]
      clear hW
      refine stepAt_value rfl rfl rfl (.string P) w8 ?_ ⟨rfl, Below.refl _ _⟩
      have hx := HX2.out
      have hle1 : ¬ (S2.size < P.size) := by omega
      have hlf1 : P.size ≤ S2.size := by omega
      clear z1 z2
      go_simp
    · have q2 := hW 2 (by decide)
      simp only at q2
      have q5 := hW 5 (by decide)
      simp only at q5
      rw [q2, q5]
      clear hW
      refine stepAt_value rfl rfl rfl (.bool true) w8 ?_ ⟨rfl, Below.refl _ _⟩
      go_simp
    · have q6 := hW 6 (by decide)
      simp only at q6
      rw [q6]
      clear hW
      refine stepAt_value rfl rfl rfl (.bool true) w8 ?_ ⟨rfl, Below.refl _ _⟩
      go_simp
    · have q7 := hW 7 (by decide)
      simp only at q7
      rw [q7]
      clear hW
      refine stepAt_value rfl rfl rfl (.string S) w8 ?_ ⟨rfl, Below.refl _ _⟩
      go_simp
    · have q7 := hW 7 (by decide)
      simp only at q7
      rw [q7]
      clear hW
      refine stepAt_value rfl rfl rfl (.int .i64 (P.size : Int)) w8 ?_ ⟨rfl, Below.refl _ _⟩
      go_simp
    · have q7 := hW 7 (by decide)
      simp only at q7
      have q8 := hW 8 (by decide)
      simp only at q8
      have q9 := hW 9 (by decide)
      simp only at q9
      rw [q7, q8, q9]
      clear hW
      refine stepAt_value rfl rfl rfl (.string GA) w8 ?_ ⟨rfl, Below.refl _ _⟩
      have hx := HY1.out
      have hle1 : ¬ (S.size < P.size) := by omega
      have hlf1 : P.size ≤ S.size := by omega
      clear z1 z2
      go_simp
    · have q7 := hW 7 (by decide)
      simp only at q7
      rw [q7]
      clear hW
      refine stepAt_value rfl rfl rfl (.pointer (some ⟨g, 37, none⟩)) w8 ?_ ⟨rfl, Below.refl _ _⟩
      go_simp
    · have q7 := hW 7 (by decide)
      simp only at q7
      have q11 := hW 11 (by decide)
      simp only at q11
      rw [q7, q11]
      clear hW
      refine stepAt_value rfl rfl rfl (.slice (some ⟨g, 37, none⟩) 16 16) w8 ?_ ⟨rfl, Below.refl _ _⟩
      go_simp
    · have q7 := hW 7 (by decide)
      simp only at q7
      have q12 := hW 12 (by decide)
      simp only at q12
      rw [q7, q12]
      clear hW
      refine stepAt_value rfl rfl rfl (.string GA) w8 ?_ ⟨rfl, Below.refl _ _⟩
      have hcv := tag_str (HK7.out.below hG HK7.out.lt) HF.out
      rw [HGA.out] at hcv
      go_simp
    · have q7 := hW 7 (by decide)
      simp only at q7
      have q10 := hW 10 (by decide)
      simp only at q10
      have q13 := hW 13 (by decide)
      simp only at q13
      rw [q7, q10, q13]
      clear hW
      refine stepAt_value rfl rfl rfl (.bool true) w8 ?_ ⟨rfl, Below.refl _ _⟩
      go_simp
    · have q7 := hW 7 (by decide)
      simp only at q7
      have q14 := hW 14 (by decide)
      simp only at q14
      rw [q7, q14]
      clear hW
      refine stepAt_value rfl rfl rfl (.bool true) w8 ?_ ⟨rfl, Below.refl _ _⟩
      go_simp
    · have q15 := hW 15 (by decide)
      simp only at q15
      rw [q15]
      clear hW
      refine stepAt_value rfl rfl rfl (.bool true) w8 ?_ ⟨rfl, Below.refl _ _⟩
      go_simp
    · have q16 := hW 16 (by decide)
      simp only at q16
      rw [q16]
      clear hW
      refine stepAt_value rfl rfl rfl (.string S2) w8 ?_ ⟨rfl, Below.refl _ _⟩
      go_simp
    · have q16 := hW 16 (by decide)
      simp only at q16
      rw [q16]
      clear hW
      refine stepAt_value rfl rfl rfl (.int .i64 (P.size : Int)) w8 ?_ ⟨rfl, Below.refl _ _⟩
      go_simp
    · have q16 := hW 16 (by decide)
      simp only at q16
      have q17 := hW 17 (by decide)
      simp only at q17
      have q18 := hW 18 (by decide)
      simp only at q18
      rw [q16, q17, q18]
      clear hW
      refine stepAt_value rfl rfl rfl (.string GB) w8 ?_ ⟨rfl, Below.refl _ _⟩
      have hx := HY2.out
      have hle1 : ¬ (S2.size < P.size) := by omega
      have hlf1 : P.size ≤ S2.size := by omega
      clear z1 z2
      go_simp
    · have q16 := hW 16 (by decide)
      simp only at q16
      rw [q16]
      clear hW
      refine stepAt_value rfl rfl rfl (.slice (some ⟨g + 1, 0, none⟩) 16 16) w8 ?_ ⟨rfl, Below.refl _ _⟩
      go_simp
    · have q16 := hW 16 (by decide)
      simp only at q16
      have q20 := hW 20 (by decide)
      simp only at q20
      rw [q16, q20]
      clear hW
      refine stepAt_value rfl rfl rfl (.string GB) w8 ?_ ⟨rfl, Below.refl _ _⟩
      have hcv := bytes_str (w := w8) (g := g + 1) (off := 0) HRL.out (fun j v hj => by rw [Nat.zero_add]; exact ((HT7.out.below hG HT7.out.lt).cell j).trans hj)
      rw [HGB.out] at hcv
      go_simp
    · have q16 := hW 16 (by decide)
      simp only at q16
      have q19 := hW 19 (by decide)
      simp only at q19
      have q21 := hW 21 (by decide)
      simp only at q21
      rw [q16, q19, q21]
      clear hW
      refine stepAt_value rfl rfl rfl (.bool true) w8 ?_ ⟨rfl, Below.refl _ _⟩
      go_simp
    · have q16 := hW 16 (by decide)
      simp only at q16
      have q22 := hW 22 (by decide)
      simp only at q22
      rw [q16, q22]
      clear hW
      refine stepAt_value rfl rfl rfl (.bool true) w8 ?_ ⟨rfl, Below.refl _ _⟩
      go_simp
  case fin =>
    intro vals w8 hG hV
    have q23 := hV 23 (by omega)
    simp only at q23
    simp only [List.take_succ_cons, List.take_zero, List.drop_succ_cons, List.drop_zero, putAll, Act.put, List.setIfInBounds_toArray, List.set_cons_zero, List.set_cons_succ, Nat.reduceAdd]
    rw [q23]
    have HBF := Lib.hid (HB7.out.trans (hG.mono (Nat.le_of_lt HK7.out.lt)))
    clear hV q23
    go_wp2_with fail
    go_ret
    exact ⟨rfl, HG.out ▸ HBF.out⟩
end Go.Proofs.Ytickcajihaejkaa
