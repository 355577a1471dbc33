/-
  WireLengths, walked.
-/
import Derived.Test.YtickcajihaejkaaAlive7
import Derived.Test.YtickcajihaejkaaWRef
import Derived.Test.YtickcajihaejkaaFreeLaws
import Derived.Deep.DeepCutAuto
namespace Go.Proofs.Ytickcajihaejkaa
open Go.RowKit
set_option maxRecDepth 10000

set_option maxHeartbeats 8000000 in
theorem lengths_any (w : World) (M : Msg) (sl : Value) (hf : M.Fits) (hr : BRow w w.heap.size sl M.l) :
    Calls Try.prog 6 #[.agg (mc M sl).toArray] w fun e w' => e = .returned (.bool true) ∧ Below w.heap.size w w' := by
  have hk0 := Blk.new w 30 (mc M sl).toArray
  have hb0 := (Below.refl w.heap.size w).alloc (Nat.le_refl _) (.cells (mc M sl).toArray 30)
  have HR := Lib.hid (hr.bits hb0)
  have HF := Lib.hid hf
  have HBL := Lib.hid hb0
  have HK := Lib.hid (show Blk _ w.heap.size 30 (mc M sl) from hk0)
  generalize hw0 : w.alloc (.cells (mc M sl).toArray 30) = w0 at *
  obtain ⟨g, hg⟩ : ∃ g, g = w.heap.size := ⟨_, rfl⟩
  have HW0 := Lib.hid hw0
  have HG := Lib.hid hg
  rw [← hg] at HK HBL ⊢
  clear hk0 hb0 hr hw0 hf hg
  go_enter Try.func6, Try.ntmps6
  go_upto_region 1 with fail
  rw [HW0.out, ← HG.out]
  go_wp2_with fail
  refine (alive_any w0).mono ?_
  rintro e w1 ⟨rfl, hb1⟩
  have HK1 := Lib.hid (HK.out.below hb1 HK.out.lt)
  have HR1 := Lib.hid (HR.out.bits hb1)
  have HB1 := Lib.hid (HBL.out.trans (hb1.mono (Nat.le_of_lt HK.out.lt)))
  clear hb1 HK HR HBL HW0
  go_wp2_with ((with_reducible refine wpList_load_msgG (.tmp 1) ?_ ?_ g M sl ?_ HK1.out HF.out ?_); rfl; rfl; rfl)
  refine (great_any w1 M sl HF.out HR1.out).mono ?_
  rintro e w2 ⟨rfl, hb2⟩
  have HK2 := Lib.hid (HK1.out.below hb2 HK1.out.lt)
  have HR2 := Lib.hid (HR1.out.bits hb2)
  have HB2 := Lib.hid (HB1.out.trans (hb2.mono (Nat.le_of_lt HK1.out.lt)))
  clear hb2 HK1 HR1 HB1
  by_cases hl : 200 < (M.l.length : Int)
  · rw [show decide (200 < (M.l.length : Int)) = true by simpa using hl]
    go_wp2_with fail
    go_ret
    exact ⟨rfl, HB2.out⟩
  rw [show decide (200 < (M.l.length : Int)) = false by simpa using hl]
  have hl' : M.l.length ≤ 200 := by omega
  clear hl
  go_wp2_with ((with_reducible refine wpList_load_msgG (.tmp 1) ?_ ?_ g M sl ?_ HK2.out HF.out ?_); rfl; rfl; rfl)
  refine (refgood_any w2 M sl HF.out HR2.out (by omega)).mono ?_
  rintro e w3 ⟨rfl, hb3⟩
  have HK3 := Lib.hid (HK2.out.below hb3 HK2.out.lt)
  have HR3 := Lib.hid (HR2.out.bits hb3)
  have HB3 := Lib.hid (HB2.out.trans (hb3.mono (Nat.le_of_lt HK2.out.lt)))
  clear hb3 HK2 HR2 HB2
  cases hgd : msgGood M with
  | false =>
    clear hgd
    go_wp2_with fail
    go_ret
    exact ⟨rfl, HB3.out⟩
  | true =>
    have HM := Lib.hid (msg_ranged hgd HF.out)
    have HGD := Lib.hid hgd
    have HE := Lib.hid (encode_any w3 M sl HF.out HR3.out)
    rw [hgd] at HE
    have HEB := Lib.hid (show encB M = msgB M by simp [encB, hgd])
    rw [HEB.out] at HE
    clear hgd
    go_wp2_with ((with_reducible refine wpList_load_msgG (.tmp 1) ?_ ?_ g M sl ?_ HK3.out HF.out ?_); rfl; rfl; rfl)
    refine HE.out.mono ?_
    rintro e w4 ⟨rfl, hb4⟩
    have HK4 := Lib.hid (HK3.out.below hb4 HK3.out.lt)
    have HR4 := Lib.hid (HR3.out.bits hb4)
    have HB4 := Lib.hid (HB3.out.trans (hb4.mono (Nat.le_of_lt HK3.out.lt)))
    clear hb4 HK3 HR3 HB3 HE
    obtain ⟨ao, cap, b, off, hsl, _, _, _⟩ := HR4.out
    obtain ⟨_, _, _, _, c36⟩ := HK4.out.msg HF.out
    have c36' := c36.trans (congrArg some hsl)
    obtain ⟨L, hL⟩ : ∃ L, L = M.l.length := ⟨_, rfl⟩
    have HLN := Lib.hid (show M.l.length ≤ 1000 by omega)
    rw [← hL] at c36' hl'
    have hq0 : (0 : Int) ≤ (L : Int) / 8 := by omega
    have hq1 : (L : Int) / 8 ≤ 25 := by omega
    have HN := Lib.hid (show ((msgB M).length : Int) = if M.k = 1 then 63 else if M.k = 2 then 55 else 53 + (L : Int) / 8 + 1 by
      rw [msgB_length HM.out, hL]
      rcases HM.out.k with q | q | q <;> rw [q] <;> simp <;> omega)
    have hpl : (msgP M).length + 16 = (msgB M).length := by unfold msgB; rw [List.length_append, HF.out.G]
    obtain ⟨S, hS⟩ : ∃ P : ByteArray, ⟨(msgB M).toArray⟩ = P := ⟨_, rfl⟩
    obtain ⟨P, hP⟩ : ∃ P : ByteArray, ⟨(msgP M).toArray⟩ = P := ⟨_, rfl⟩
    have hSz : S.size = (msgB M).length := by rw [← hS]; simp [ByteArray.size]
    have hPz : P.size + 16 = S.size := by rw [hSz, ← hpl, ← hP]; simp [ByteArray.size]
    have hcut : S.extract 0 P.size = P := by
      rw [← hS, ← hP]
      apply ByteArray.ext
      simp [ByteArray.size, ByteArray.data_extract, msgB]
    rw [hS]
    rw [← hSz] at HN
    have HP := Lib.hid hP
    have HX := Lib.hid hcut
    clear hsl c36 hL hpl hS hSz hP hcut
    have k5 := HK4.out.alloc (.cells #[Value.int IntKind.i64 0, Value.int IntKind.i64 63, Value.int IntKind.i64 55, Value.int IntKind.i64 (53 + (L : Int) / 8 + 1)] 3)
    have b5 := HB4.out.alloc (Nat.le_of_lt HK4.out.lt) (.cells #[Value.int IntKind.i64 0, Value.int IntKind.i64 63, Value.int IntKind.i64 55, Value.int IntKind.i64 (53 + (L : Int) / 8 + 1)] 3)
    have HR5 := Lib.hid (HR4.out.bits ((Below.refl _ _).alloc (Nat.le_refl _) (.cells #[Value.int IntKind.i64 0, Value.int IntKind.i64 63, Value.int IntKind.i64 55, Value.int IntKind.i64 (53 + (L : Int) / 8 + 1)] 3)))
    obtain ⟨c0, _, _, _, _⟩ := k5.msg HF.out
    have HK5 := Lib.hid k5
    have HB5 := Lib.hid b5
    have HC0 := Lib.hid c0
    clear k5 b5 c0
    rcases HM.out.k with q | q | q
    · rw [q] at HC0 HN
      have c0 := HC0.out
      have hn : (S.size : Int) = 63 := by have := HN.out; simpa using this
      clear q HC0 HN
      go_upto_region 7 with fail
      obtain ⟨w5, hw5⟩ : ∃ x, w4.alloc (.cells #[Value.int IntKind.i64 0, Value.int IntKind.i64 63, Value.int IntKind.i64 55, Value.int IntKind.i64 (53 + (L : Int) / 8 + 1)] 3) = x := ⟨_, rfl⟩
      rw [hw5] at HK5 HB5 HR5 ⊢
      rw [← hn]
      clear c0 hw5 c36'
      have eN : IntKind.i64.wrap ((S.size : Int) - 16) = (P.size : Int) := by rw [show (S.size : Int) - 16 = (P.size : Int) by omega]; rw [IntKind.wrap_i64]; omega
      clear hn hq0 hq1
      refine wp_region_free (P := Try.prog) 24 (fun w' => Below w5.heap.size w5 w') (fun oq v w' => match oq with
          | 0 => v = .bool true
          | 1 => v = .bool true
          | 2 => v = .string S
          | 3 => v = .int .i64 (S.size : Int)
          | 4 => v = .int .i64 (S.size : Int)
          | 5 => v = .bool true
          | 6 => v = .bool true
          | 7 => v = .bool true
          | 8 => v = .agg (mc M sl).toArray
          | 9 => v = .string P
          | 10 => v = .int .i64 (P.size : Int)
          | 11 => v = .int .i64 (S.size : Int)
          | 12 => v = .int .i64 (P.size : Int)
          | 13 => v = .bool true
          | 14 => v = .bool true
          | 15 => v = .bool true
          | 16 => v = .string S
          | 17 => v = .int .i64 (S.size : Int)
          | 18 => v = .int .i64 (P.size : Int)
          | 19 => v = .string P
          | 20 => v = .agg (mc M sl).toArray
          | 21 => v = .string P
          | 22 => v = .bool true
          | 23 => v = .bool true
          | _ => True) (by kernel_rfl) (by kernel_rfl) (Below.refl _ _).drew ?gb ?vb ?steps ?fin
      case gb => exact fun a b h1 h2 => h1.trans (h2.mono h1.size)
      case vb =>
        intro oq v a b h hb
        match oq with
        | 0 => exact h
        | 1 => exact h
        | 2 => exact h
        | 3 => exact h
        | 4 => exact h
        | 5 => exact h
        | 6 => exact h
        | 7 => exact h
        | 8 => exact h
        | 9 => exact h
        | 10 => exact h
        | 11 => exact h
        | 12 => exact h
        | 13 => exact h
        | 14 => exact h
        | 15 => exact h
        | 16 => exact h
        | 17 => exact h
        | 18 => exact h
        | 19 => exact h
        | 20 => exact h
        | 21 => exact h
        | 22 => exact h
        | 23 => exact h
        | _ + 24 => trivial
      case steps =>
        intro vals
        simp only [List.take_succ_cons, List.take_zero, freeSteps, Act.put, List.setIfInBounds_toArray, List.set_cons_zero, List.set_cons_succ, Nat.reduceAdd]
        refine ⟨fun w8 hG hW => ?_, fun w8 hG hW => ?_, fun w8 hG hW => ?_, fun w8 hG hW => ?_, fun w8 hG hW => ?_, fun w8 hG hW => ?_, fun w8 hG hW => ?_, fun w8 hG hW => ?_, fun w8 hG hW => ?_, fun w8 hG hW => ?_, fun w8 hG hW => ?_, fun w8 hG hW => ?_, fun w8 hG hW => ?_, fun w8 hG hW => ?_, fun w8 hG hW => ?_, fun w8 hG hW => ?_, fun w8 hG hW => ?_, fun w8 hG hW => ?_, fun w8 hG hW => ?_, fun w8 hG hW => ?_, fun w8 hG hW => ?_, fun w8 hG hW => ?_, fun w8 hG hW => ?_, fun w8 hG hW => ?_, trivial⟩
        · clear hW
          refine stepAt_value rfl rfl rfl (.bool true) w8 ?_ ⟨rfl, Below.refl _ _⟩
          go_simp
        · have q0 := hW 0 (by decide)
          simp only at q0
          rw [q0]
          clear hW
          refine stepAt_value rfl rfl rfl (.bool true) w8 ?_ ⟨rfl, Below.refl _ _⟩
          go_simp
        · have q1 := hW 1 (by decide)
          simp only at q1
          rw [q1]
          clear hW
          refine stepAt_value rfl rfl rfl (.string S) w8 ?_ ⟨rfl, Below.refl _ _⟩
          go_simp
        · have q1 := hW 1 (by decide)
          simp only at q1
          have q2 := hW 2 (by decide)
          simp only at q2
          rw [q1, q2]
          clear hW
          refine stepAt_value rfl rfl rfl (.int .i64 (S.size : Int)) w8 ?_ ⟨rfl, Below.refl _ _⟩
          go_simp
        · have q1 := hW 1 (by decide)
          simp only at q1
          rw [q1]
          clear hW
          refine stepAt_value rfl rfl rfl (.int .i64 (S.size : Int)) w8 ?_ ⟨rfl, Below.refl _ _⟩
          go_simp
        · have q1 := hW 1 (by decide)
          simp only at q1
          have q3 := hW 3 (by decide)
          simp only at q3
          have q4 := hW 4 (by decide)
          simp only at q4
          rw [q1, q3, q4]
          clear hW
          refine stepAt_value rfl rfl rfl (.bool true) w8 ?_ ⟨rfl, Below.refl _ _⟩
          go_simp
        · have q1 := hW 1 (by decide)
          simp only at q1
          have q5 := hW 5 (by decide)
          simp only at q5
          rw [q1, q5]
          clear hW
          refine stepAt_value rfl rfl rfl (.bool true) w8 ?_ ⟨rfl, Below.refl _ _⟩
          go_simp
        · have q6 := hW 6 (by decide)
          simp only at q6
          rw [q6]
          clear hW
          refine stepAt_value rfl rfl rfl (.bool true) w8 ?_ ⟨rfl, Below.refl _ _⟩
          go_simp
        · have q7 := hW 7 (by decide)
          simp only at q7
          rw [q7]
          clear hW
          exact stepAt_load_msg rfl rfl rfl (.tmp 1) rfl g M sl rfl (HK5.out.below hG HK5.out.lt) HF.out ⟨rfl, Below.refl _ _⟩
        · have q7 := hW 7 (by decide)
          simp only at q7
          have q8 := hW 8 (by decide)
          simp only at q8
          rw [q7, q8]
          clear hW
          refine stepAt_call rfl rfl rfl 15 #[.agg (mc M sl).toArray] (by go_simp) ((wplain_any w8 M sl HM.out ((HR5.out.keep hG).more hG.size) HLN.out).mono fun e w' ⟨h1, h2⟩ => ⟨_, h1, by rw [HP.out], h2⟩)
        · have q7 := hW 7 (by decide)
          simp only at q7
          have q9 := hW 9 (by decide)
          simp only at q9
          rw [q7, q9]
          clear hW
          refine stepAt_value rfl rfl rfl (.int .i64 (P.size : Int)) w8 ?_ ⟨rfl, Below.refl _ _⟩
          go_simp
        · have q7 := hW 7 (by decide)
          simp only at q7
          rw [q7]
          clear hW
          refine stepAt_value rfl rfl rfl (.int .i64 (S.size : Int)) w8 ?_ ⟨rfl, Below.refl _ _⟩
          go_simp
        · have q7 := hW 7 (by decide)
          simp only at q7
          have q11 := hW 11 (by decide)
          simp only at q11
          rw [q7, q11]
          clear hW
          refine stepAt_value rfl rfl rfl (.int .i64 (P.size : Int)) w8 ?_ ⟨rfl, Below.refl _ _⟩
          go_simp
        · have q7 := hW 7 (by decide)
          simp only at q7
          have q10 := hW 10 (by decide)
          simp only at q10
          have q12 := hW 12 (by decide)
          simp only at q12
          rw [q7, q10, q12]
          clear hW
          refine stepAt_value rfl rfl rfl (.bool true) w8 ?_ ⟨rfl, Below.refl _ _⟩
          go_simp
        · have q7 := hW 7 (by decide)
          simp only at q7
          have q13 := hW 13 (by decide)
          simp only at q13
          rw [q7, q13]
          clear hW
          refine stepAt_value rfl rfl rfl (.bool true) w8 ?_ ⟨rfl, Below.refl _ _⟩
          go_simp
        · have q14 := hW 14 (by decide)
          simp only at q14
          rw [q14]
          clear hW
          refine stepAt_value rfl rfl rfl (.bool true) w8 ?_ ⟨rfl, Below.refl _ _⟩
          go_simp
        · have q15 := hW 15 (by decide)
          simp only at q15
          rw [q15]
          clear hW
          refine stepAt_value rfl rfl rfl (.string S) w8 ?_ ⟨rfl, Below.refl _ _⟩
          go_simp
        · have q15 := hW 15 (by decide)
          simp only at q15
          rw [q15]
          clear hW
          refine stepAt_value rfl rfl rfl (.int .i64 (S.size : Int)) w8 ?_ ⟨rfl, Below.refl _ _⟩
          go_simp
        · have q15 := hW 15 (by decide)
          simp only at q15
          have q17 := hW 17 (by decide)
          simp only at q17
          rw [q15, q17]
          clear hW
          refine stepAt_value rfl rfl rfl (.int .i64 (P.size : Int)) w8 ?_ ⟨rfl, Below.refl _ _⟩
          go_simp
        · have q15 := hW 15 (by decide)
          simp only at q15
          have q16 := hW 16 (by decide)
          simp only at q16
          have q18 := hW 18 (by decide)
          simp only at q18
          rw [q15, q16, q18]
          clear hW
          refine stepAt_value rfl rfl rfl (.string P) w8 ?_ ⟨rfl, Below.refl _ _⟩
          have hx := HX.out
          have hle : ¬ (S.size < P.size) := by omega
          go_simp
        · have q15 := hW 15 (by decide)
          simp only at q15
          rw [q15]
          clear hW
          exact stepAt_load_msg rfl rfl rfl (.tmp 1) rfl g M sl rfl (HK5.out.below hG HK5.out.lt) HF.out ⟨rfl, Below.refl _ _⟩
        · have q15 := hW 15 (by decide)
          simp only at q15
          have q20 := hW 20 (by decide)
          simp only at q20
          rw [q15, q20]
          clear hW
          refine stepAt_call rfl rfl rfl 15 #[.agg (mc M sl).toArray] (by go_simp) ((wplain_any w8 M sl HM.out ((HR5.out.keep hG).more hG.size) HLN.out).mono fun e w' ⟨h1, h2⟩ => ⟨_, h1, by rw [HP.out], h2⟩)
        · have q15 := hW 15 (by decide)
          simp only at q15
          have q19 := hW 19 (by decide)
          simp only at q19
          have q21 := hW 21 (by decide)
          simp only at q21
          rw [q15, q19, q21]
          clear hW
          refine stepAt_value rfl rfl rfl (.bool true) w8 ?_ ⟨rfl, Below.refl _ _⟩
          go_simp
        · have q15 := hW 15 (by decide)
          simp only at q15
          have q22 := hW 22 (by decide)
          simp only at q22
          rw [q15, q22]
          clear hW
          refine stepAt_value rfl rfl rfl (.bool true) w8 ?_ ⟨rfl, Below.refl _ _⟩
          go_simp
      case fin =>
        intro vals w8 hG hV
        have q23 := hV 23 (by omega)
        simp only at q23
        simp only [List.take_succ_cons, List.take_zero, List.drop_succ_cons, List.drop_zero, putAll, Act.put, List.setIfInBounds_toArray, List.set_cons_zero, List.set_cons_succ, Nat.reduceAdd]
        rw [q23]
        have HBF := Lib.hid (HB5.out.trans (hG.mono (Nat.le_of_lt HK5.out.lt)))
        clear hV q23
        go_wp2_with fail
        go_ret
        exact ⟨rfl, HBF.out⟩
    · rw [q] at HC0 HN
      have c0 := HC0.out
      have hn : (S.size : Int) = 55 := by have := HN.out; simpa using this
      clear q HC0 HN
      go_upto_region 7 with fail
      obtain ⟨w5, hw5⟩ : ∃ x, w4.alloc (.cells #[Value.int IntKind.i64 0, Value.int IntKind.i64 63, Value.int IntKind.i64 55, Value.int IntKind.i64 (53 + (L : Int) / 8 + 1)] 3) = x := ⟨_, rfl⟩
      rw [hw5] at HK5 HB5 HR5 ⊢
      rw [← hn]
      clear c0 hw5 c36'
      have eN : IntKind.i64.wrap ((S.size : Int) - 16) = (P.size : Int) := by rw [show (S.size : Int) - 16 = (P.size : Int) by omega]; rw [IntKind.wrap_i64]; omega
      clear hn hq0 hq1
      refine wp_region_free (P := Try.prog) 24 (fun w' => Below w5.heap.size w5 w') (fun oq v w' => match oq with
          | 0 => v = .bool true
          | 1 => v = .bool true
          | 2 => v = .string S
          | 3 => v = .int .i64 (S.size : Int)
          | 4 => v = .int .i64 (S.size : Int)
          | 5 => v = .bool true
          | 6 => v = .bool true
          | 7 => v = .bool true
          | 8 => v = .agg (mc M sl).toArray
          | 9 => v = .string P
          | 10 => v = .int .i64 (P.size : Int)
          | 11 => v = .int .i64 (S.size : Int)
          | 12 => v = .int .i64 (P.size : Int)
          | 13 => v = .bool true
          | 14 => v = .bool true
          | 15 => v = .bool true
          | 16 => v = .string S
          | 17 => v = .int .i64 (S.size : Int)
          | 18 => v = .int .i64 (P.size : Int)
          | 19 => v = .string P
          | 20 => v = .agg (mc M sl).toArray
          | 21 => v = .string P
          | 22 => v = .bool true
          | 23 => v = .bool true
          | _ => True) (by kernel_rfl) (by kernel_rfl) (Below.refl _ _).drew ?gb ?vb ?steps ?fin
      case gb => exact fun a b h1 h2 => h1.trans (h2.mono h1.size)
      case vb =>
        intro oq v a b h hb
        match oq with
        | 0 => exact h
        | 1 => exact h
        | 2 => exact h
        | 3 => exact h
        | 4 => exact h
        | 5 => exact h
        | 6 => exact h
        | 7 => exact h
        | 8 => exact h
        | 9 => exact h
        | 10 => exact h
        | 11 => exact h
        | 12 => exact h
        | 13 => exact h
        | 14 => exact h
        | 15 => exact h
        | 16 => exact h
        | 17 => exact h
        | 18 => exact h
        | 19 => exact h
        | 20 => exact h
        | 21 => exact h
        | 22 => exact h
        | 23 => exact h
        | _ + 24 => trivial
      case steps =>
        intro vals
        simp only [List.take_succ_cons, List.take_zero, freeSteps, Act.put, List.setIfInBounds_toArray, List.set_cons_zero, List.set_cons_succ, Nat.reduceAdd]
        refine ⟨fun w8 hG hW => ?_, fun w8 hG hW => ?_, fun w8 hG hW => ?_, fun w8 hG hW => ?_, fun w8 hG hW => ?_, fun w8 hG hW => ?_, fun w8 hG hW => ?_, fun w8 hG hW => ?_, fun w8 hG hW => ?_, fun w8 hG hW => ?_, fun w8 hG hW => ?_, fun w8 hG hW => ?_, fun w8 hG hW => ?_, fun w8 hG hW => ?_, fun w8 hG hW => ?_, fun w8 hG hW => ?_, fun w8 hG hW => ?_, fun w8 hG hW => ?_, fun w8 hG hW => ?_, fun w8 hG hW => ?_, fun w8 hG hW => ?_, fun w8 hG hW => ?_, fun w8 hG hW => ?_, fun w8 hG hW => ?_, trivial⟩
        · clear hW
          refine stepAt_value rfl rfl rfl (.bool true) w8 ?_ ⟨rfl, Below.refl _ _⟩
          go_simp
        · have q0 := hW 0 (by decide)
          simp only at q0
          rw [q0]
          clear hW
          refine stepAt_value rfl rfl rfl (.bool true) w8 ?_ ⟨rfl, Below.refl _ _⟩
          go_simp
        · have q1 := hW 1 (by decide)
          simp only at q1
          rw [q1]
          clear hW
          refine stepAt_value rfl rfl rfl (.string S) w8 ?_ ⟨rfl, Below.refl _ _⟩
          go_simp
        · have q1 := hW 1 (by decide)
          simp only at q1
          have q2 := hW 2 (by decide)
          simp only at q2
          rw [q1, q2]
          clear hW
          refine stepAt_value rfl rfl rfl (.int .i64 (S.size : Int)) w8 ?_ ⟨rfl, Below.refl _ _⟩
          go_simp
        · have q1 := hW 1 (by decide)
          simp only at q1
          rw [q1]
          clear hW
          refine stepAt_value rfl rfl rfl (.int .i64 (S.size : Int)) w8 ?_ ⟨rfl, Below.refl _ _⟩
          go_simp
        · have q1 := hW 1 (by decide)
          simp only at q1
          have q3 := hW 3 (by decide)
          simp only at q3
          have q4 := hW 4 (by decide)
          simp only at q4
          rw [q1, q3, q4]
          clear hW
          refine stepAt_value rfl rfl rfl (.bool true) w8 ?_ ⟨rfl, Below.refl _ _⟩
          go_simp
        · have q1 := hW 1 (by decide)
          simp only at q1
          have q5 := hW 5 (by decide)
          simp only at q5
          rw [q1, q5]
          clear hW
          refine stepAt_value rfl rfl rfl (.bool true) w8 ?_ ⟨rfl, Below.refl _ _⟩
          go_simp
        · have q6 := hW 6 (by decide)
          simp only at q6
          rw [q6]
          clear hW
          refine stepAt_value rfl rfl rfl (.bool true) w8 ?_ ⟨rfl, Below.refl _ _⟩
          go_simp
        · have q7 := hW 7 (by decide)
          simp only at q7
          rw [q7]
          clear hW
          exact stepAt_load_msg rfl rfl rfl (.tmp 1) rfl g M sl rfl (HK5.out.below hG HK5.out.lt) HF.out ⟨rfl, Below.refl _ _⟩
        · have q7 := hW 7 (by decide)
          simp only at q7
          have q8 := hW 8 (by decide)
          simp only at q8
          rw [q7, q8]
          clear hW
          refine stepAt_call rfl rfl rfl 15 #[.agg (mc M sl).toArray] (by go_simp) ((wplain_any w8 M sl HM.out ((HR5.out.keep hG).more hG.size) HLN.out).mono fun e w' ⟨h1, h2⟩ => ⟨_, h1, by rw [HP.out], h2⟩)
        · have q7 := hW 7 (by decide)
          simp only at q7
          have q9 := hW 9 (by decide)
          simp only at q9
          rw [q7, q9]
          clear hW
          refine stepAt_value rfl rfl rfl (.int .i64 (P.size : Int)) w8 ?_ ⟨rfl, Below.refl _ _⟩
          go_simp
        · have q7 := hW 7 (by decide)
          simp only at q7
          rw [q7]
          clear hW
          refine stepAt_value rfl rfl rfl (.int .i64 (S.size : Int)) w8 ?_ ⟨rfl, Below.refl _ _⟩
          go_simp
        · have q7 := hW 7 (by decide)
          simp only at q7
          have q11 := hW 11 (by decide)
          simp only at q11
          rw [q7, q11]
          clear hW
          refine stepAt_value rfl rfl rfl (.int .i64 (P.size : Int)) w8 ?_ ⟨rfl, Below.refl _ _⟩
          go_simp
        · have q7 := hW 7 (by decide)
          simp only at q7
          have q10 := hW 10 (by decide)
          simp only at q10
          have q12 := hW 12 (by decide)
          simp only at q12
          rw [q7, q10, q12]
          clear hW
          refine stepAt_value rfl rfl rfl (.bool true) w8 ?_ ⟨rfl, Below.refl _ _⟩
          go_simp
        · have q7 := hW 7 (by decide)
          simp only at q7
          have q13 := hW 13 (by decide)
          simp only at q13
          rw [q7, q13]
          clear hW
          refine stepAt_value rfl rfl rfl (.bool true) w8 ?_ ⟨rfl, Below.refl _ _⟩
          go_simp
        · have q14 := hW 14 (by decide)
          simp only at q14
          rw [q14]
          clear hW
          refine stepAt_value rfl rfl rfl (.bool true) w8 ?_ ⟨rfl, Below.refl _ _⟩
          go_simp
        · have q15 := hW 15 (by decide)
          simp only at q15
          rw [q15]
          clear hW
          refine stepAt_value rfl rfl rfl (.string S) w8 ?_ ⟨rfl, Below.refl _ _⟩
          go_simp
        · have q15 := hW 15 (by decide)
          simp only at q15
          rw [q15]
          clear hW
          refine stepAt_value rfl rfl rfl (.int .i64 (S.size : Int)) w8 ?_ ⟨rfl, Below.refl _ _⟩
          go_simp
        · have q15 := hW 15 (by decide)
          simp only at q15
          have q17 := hW 17 (by decide)
          simp only at q17
          rw [q15, q17]
          clear hW
          refine stepAt_value rfl rfl rfl (.int .i64 (P.size : Int)) w8 ?_ ⟨rfl, Below.refl _ _⟩
          go_simp
        · have q15 := hW 15 (by decide)
          simp only at q15
          have q16 := hW 16 (by decide)
          simp only at q16
          have q18 := hW 18 (by decide)
          simp only at q18
          rw [q15, q16, q18]
          clear hW
          refine stepAt_value rfl rfl rfl (.string P) w8 ?_ ⟨rfl, Below.refl _ _⟩
          have hx := HX.out
          have hle : ¬ (S.size < P.size) := by omega
          go_simp
        · have q15 := hW 15 (by decide)
          simp only at q15
          rw [q15]
          clear hW
          exact stepAt_load_msg rfl rfl rfl (.tmp 1) rfl g M sl rfl (HK5.out.below hG HK5.out.lt) HF.out ⟨rfl, Below.refl _ _⟩
        · have q15 := hW 15 (by decide)
          simp only at q15
          have q20 := hW 20 (by decide)
          simp only at q20
          rw [q15, q20]
          clear hW
          refine stepAt_call rfl rfl rfl 15 #[.agg (mc M sl).toArray] (by go_simp) ((wplain_any w8 M sl HM.out ((HR5.out.keep hG).more hG.size) HLN.out).mono fun e w' ⟨h1, h2⟩ => ⟨_, h1, by rw [HP.out], h2⟩)
        · have q15 := hW 15 (by decide)
          simp only at q15
          have q19 := hW 19 (by decide)
          simp only at q19
          have q21 := hW 21 (by decide)
          simp only at q21
          rw [q15, q19, q21]
          clear hW
          refine stepAt_value rfl rfl rfl (.bool true) w8 ?_ ⟨rfl, Below.refl _ _⟩
          go_simp
        · have q15 := hW 15 (by decide)
          simp only at q15
          have q22 := hW 22 (by decide)
          simp only at q22
          rw [q15, q22]
          clear hW
          refine stepAt_value rfl rfl rfl (.bool true) w8 ?_ ⟨rfl, Below.refl _ _⟩
          go_simp
      case fin =>
        intro vals w8 hG hV
        have q23 := hV 23 (by omega)
        simp only at q23
        simp only [List.take_succ_cons, List.take_zero, List.drop_succ_cons, List.drop_zero, putAll, Act.put, List.setIfInBounds_toArray, List.set_cons_zero, List.set_cons_succ, Nat.reduceAdd]
        rw [q23]
        have HBF := Lib.hid (HB5.out.trans (hG.mono (Nat.le_of_lt HK5.out.lt)))
        clear hV q23
        go_wp2_with fail
        go_ret
        exact ⟨rfl, HBF.out⟩
    · rw [q] at HC0 HN
      have c0 := HC0.out
      have hn : (S.size : Int) = 53 + (L : Int) / 8 + 1 := by have := HN.out; simpa using this
      clear q HC0 HN
      go_upto_region 7 with fail
      obtain ⟨w5, hw5⟩ : ∃ x, w4.alloc (.cells #[Value.int IntKind.i64 0, Value.int IntKind.i64 63, Value.int IntKind.i64 55, Value.int IntKind.i64 (53 + (L : Int) / 8 + 1)] 3) = x := ⟨_, rfl⟩
      rw [hw5] at HK5 HB5 HR5 ⊢
      rw [← hn]
      clear c0 hw5 c36'
      have eN : IntKind.i64.wrap ((S.size : Int) - 16) = (P.size : Int) := by rw [show (S.size : Int) - 16 = (P.size : Int) by omega]; rw [IntKind.wrap_i64]; omega
      clear hn hq0 hq1
      refine wp_region_free (P := Try.prog) 24 (fun w' => Below w5.heap.size w5 w') (fun oq v w' => match oq with
          | 0 => v = .bool true
          | 1 => v = .bool true
          | 2 => v = .string S
          | 3 => v = .int .i64 (S.size : Int)
          | 4 => v = .int .i64 (S.size : Int)
          | 5 => v = .bool true
          | 6 => v = .bool true
          | 7 => v = .bool true
          | 8 => v = .agg (mc M sl).toArray
          | 9 => v = .string P
          | 10 => v = .int .i64 (P.size : Int)
          | 11 => v = .int .i64 (S.size : Int)
          | 12 => v = .int .i64 (P.size : Int)
          | 13 => v = .bool true
          | 14 => v = .bool true
          | 15 => v = .bool true
          | 16 => v = .string S
          | 17 => v = .int .i64 (S.size : Int)
          | 18 => v = .int .i64 (P.size : Int)
          | 19 => v = .string P
          | 20 => v = .agg (mc M sl).toArray
          | 21 => v = .string P
          | 22 => v = .bool true
          | 23 => v = .bool true
          | _ => True) (by kernel_rfl) (by kernel_rfl) (Below.refl _ _).drew ?gb ?vb ?steps ?fin
      case gb => exact fun a b h1 h2 => h1.trans (h2.mono h1.size)
      case vb =>
        intro oq v a b h hb
        match oq with
        | 0 => exact h
        | 1 => exact h
        | 2 => exact h
        | 3 => exact h
        | 4 => exact h
        | 5 => exact h
        | 6 => exact h
        | 7 => exact h
        | 8 => exact h
        | 9 => exact h
        | 10 => exact h
        | 11 => exact h
        | 12 => exact h
        | 13 => exact h
        | 14 => exact h
        | 15 => exact h
        | 16 => exact h
        | 17 => exact h
        | 18 => exact h
        | 19 => exact h
        | 20 => exact h
        | 21 => exact h
        | 22 => exact h
        | 23 => exact h
        | _ + 24 => trivial
      case steps =>
        intro vals
        simp only [List.take_succ_cons, List.take_zero, freeSteps, Act.put, List.setIfInBounds_toArray, List.set_cons_zero, List.set_cons_succ, Nat.reduceAdd]
        refine ⟨fun w8 hG hW => ?_, fun w8 hG hW => ?_, fun w8 hG hW => ?_, fun w8 hG hW => ?_, fun w8 hG hW => ?_, fun w8 hG hW => ?_, fun w8 hG hW => ?_, fun w8 hG hW => ?_, fun w8 hG hW => ?_, fun w8 hG hW => ?_, fun w8 hG hW => ?_, fun w8 hG hW => ?_, fun w8 hG hW => ?_, fun w8 hG hW => ?_, fun w8 hG hW => ?_, fun w8 hG hW => ?_, fun w8 hG hW => ?_, fun w8 hG hW => ?_, fun w8 hG hW => ?_, fun w8 hG hW => ?_, fun w8 hG hW => ?_, fun w8 hG hW => ?_, fun w8 hG hW => ?_, fun w8 hG hW => ?_, trivial⟩
        · clear hW
          refine stepAt_value rfl rfl rfl (.bool true) w8 ?_ ⟨rfl, Below.refl _ _⟩
          go_simp
        · have q0 := hW 0 (by decide)
          simp only at q0
          rw [q0]
          clear hW
          refine stepAt_value rfl rfl rfl (.bool true) w8 ?_ ⟨rfl, Below.refl _ _⟩
          go_simp
        · have q1 := hW 1 (by decide)
          simp only at q1
          rw [q1]
          clear hW
          refine stepAt_value rfl rfl rfl (.string S) w8 ?_ ⟨rfl, Below.refl _ _⟩
          go_simp
        · have q1 := hW 1 (by decide)
          simp only at q1
          have q2 := hW 2 (by decide)
          simp only at q2
          rw [q1, q2]
          clear hW
          refine stepAt_value rfl rfl rfl (.int .i64 (S.size : Int)) w8 ?_ ⟨rfl, Below.refl _ _⟩
          go_simp
        · have q1 := hW 1 (by decide)
          simp only at q1
          rw [q1]
          clear hW
          refine stepAt_value rfl rfl rfl (.int .i64 (S.size : Int)) w8 ?_ ⟨rfl, Below.refl _ _⟩
          go_simp
        · have q1 := hW 1 (by decide)
          simp only at q1
          have q3 := hW 3 (by decide)
          simp only at q3
          have q4 := hW 4 (by decide)
          simp only at q4
          rw [q1, q3, q4]
          clear hW
          refine stepAt_value rfl rfl rfl (.bool true) w8 ?_ ⟨rfl, Below.refl _ _⟩
          go_simp
        · have q1 := hW 1 (by decide)
          simp only at q1
          have q5 := hW 5 (by decide)
          simp only at q5
          rw [q1, q5]
          clear hW
          refine stepAt_value rfl rfl rfl (.bool true) w8 ?_ ⟨rfl, Below.refl _ _⟩
          go_simp
        · have q6 := hW 6 (by decide)
          simp only at q6
          rw [q6]
          clear hW
          refine stepAt_value rfl rfl rfl (.bool true) w8 ?_ ⟨rfl, Below.refl _ _⟩
          go_simp
        · have q7 := hW 7 (by decide)
          simp only at q7
          rw [q7]
          clear hW
          exact stepAt_load_msg rfl rfl rfl (.tmp 1) rfl g M sl rfl (HK5.out.below hG HK5.out.lt) HF.out ⟨rfl, Below.refl _ _⟩
        · have q7 := hW 7 (by decide)
          simp only at q7
          have q8 := hW 8 (by decide)
          simp only at q8
          rw [q7, q8]
          clear hW
          refine stepAt_call rfl rfl rfl 15 #[.agg (mc M sl).toArray] (by go_simp) ((wplain_any w8 M sl HM.out ((HR5.out.keep hG).more hG.size) HLN.out).mono fun e w' ⟨h1, h2⟩ => ⟨_, h1, by rw [HP.out], h2⟩)
        · have q7 := hW 7 (by decide)
          simp only at q7
          have q9 := hW 9 (by decide)
          simp only at q9
          rw [q7, q9]
          clear hW
          refine stepAt_value rfl rfl rfl (.int .i64 (P.size : Int)) w8 ?_ ⟨rfl, Below.refl _ _⟩
          go_simp
        · have q7 := hW 7 (by decide)
          simp only at q7
          rw [q7]
          clear hW
          refine stepAt_value rfl rfl rfl (.int .i64 (S.size : Int)) w8 ?_ ⟨rfl, Below.refl _ _⟩
          go_simp
        · have q7 := hW 7 (by decide)
          simp only at q7
          have q11 := hW 11 (by decide)
          simp only at q11
          rw [q7, q11]
          clear hW
          refine stepAt_value rfl rfl rfl (.int .i64 (P.size : Int)) w8 ?_ ⟨rfl, Below.refl _ _⟩
          go_simp
        · have q7 := hW 7 (by decide)
          simp only at q7
          have q10 := hW 10 (by decide)
          simp only at q10
          have q12 := hW 12 (by decide)
          simp only at q12
          rw [q7, q10, q12]
          clear hW
          refine stepAt_value rfl rfl rfl (.bool true) w8 ?_ ⟨rfl, Below.refl _ _⟩
          go_simp
        · have q7 := hW 7 (by decide)
          simp only at q7
          have q13 := hW 13 (by decide)
          simp only at q13
          rw [q7, q13]
          clear hW
          refine stepAt_value rfl rfl rfl (.bool true) w8 ?_ ⟨rfl, Below.refl _ _⟩
          go_simp
        · have q14 := hW 14 (by decide)
          simp only at q14
          rw [q14]
          clear hW
          refine stepAt_value rfl rfl rfl (.bool true) w8 ?_ ⟨rfl, Below.refl _ _⟩
          go_simp
        · have q15 := hW 15 (by decide)
          simp only at q15
          rw [q15]
          clear hW
          refine stepAt_value rfl rfl rfl (.string S) w8 ?_ ⟨rfl, Below.refl _ _⟩
          go_simp
        · have q15 := hW 15 (by decide)
          simp only at q15
          rw [q15]
          clear hW
          refine stepAt_value rfl rfl rfl (.int .i64 (S.size : Int)) w8 ?_ ⟨rfl, Below.refl _ _⟩
          go_simp
        · have q15 := hW 15 (by decide)
          simp only at q15
          have q17 := hW 17 (by decide)
          simp only at q17
          rw [q15, q17]
          clear hW
          refine stepAt_value rfl rfl rfl (.int .i64 (P.size : Int)) w8 ?_ ⟨rfl, Below.refl _ _⟩
          go_simp
        · have q15 := hW 15 (by decide)
          simp only at q15
          have q16 := hW 16 (by decide)
          simp only at q16
          have q18 := hW 18 (by decide)
          simp only at q18
          rw [q15, q16, q18]
          clear hW
          refine stepAt_value rfl rfl rfl (.string P) w8 ?_ ⟨rfl, Below.refl _ _⟩
          have hx := HX.out
          have hle : ¬ (S.size < P.size) := by omega
          go_simp
        · have q15 := hW 15 (by decide)
          simp only at q15
          rw [q15]
          clear hW
          exact stepAt_load_msg rfl rfl rfl (.tmp 1) rfl g M sl rfl (HK5.out.below hG HK5.out.lt) HF.out ⟨rfl, Below.refl _ _⟩
        · have q15 := hW 15 (by decide)
          simp only at q15
          have q20 := hW 20 (by decide)
          simp only at q20
          rw [q15, q20]
          clear hW
          refine stepAt_call rfl rfl rfl 15 #[.agg (mc M sl).toArray] (by go_simp) ((wplain_any w8 M sl HM.out ((HR5.out.keep hG).more hG.size) HLN.out).mono fun e w' ⟨h1, h2⟩ => ⟨_, h1, by rw [HP.out], h2⟩)
        · have q15 := hW 15 (by decide)
          simp only at q15
          have q19 := hW 19 (by decide)
          simp only at q19
          have q21 := hW 21 (by decide)
          simp only at q21
          rw [q15, q19, q21]
          clear hW
          refine stepAt_value rfl rfl rfl (.bool true) w8 ?_ ⟨rfl, Below.refl _ _⟩
          go_simp
        · have q15 := hW 15 (by decide)
          simp only at q15
          have q22 := hW 22 (by decide)
          simp only at q22
          rw [q15, q22]
          clear hW
          refine stepAt_value rfl rfl rfl (.bool true) w8 ?_ ⟨rfl, Below.refl _ _⟩
          go_simp
      case fin =>
        intro vals w8 hG hV
        have q23 := hV 23 (by omega)
        simp only at q23
        simp only [List.take_succ_cons, List.take_zero, List.drop_succ_cons, List.drop_zero, putAll, Act.put, List.setIfInBounds_toArray, List.set_cons_zero, List.set_cons_succ, Nat.reduceAdd]
        rw [q23]
        have HBF := Lib.hid (HB5.out.trans (hG.mono (Nat.le_of_lt HK5.out.lt)))
        clear hV q23
        go_wp2_with fail
        go_ret
        exact ⟨rfl, HBF.out⟩
end Go.Proofs.Ytickcajihaejkaa
