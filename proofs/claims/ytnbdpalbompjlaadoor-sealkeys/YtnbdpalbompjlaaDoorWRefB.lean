/-
  What the document's Plain and Bytes answer, of a message whose numbers fit.
-/
import Derived.Test.YtnbdpalbompjlaaDoorM20
import Derived.Test.YtnbdpalbompjlaaDoorRefPut
import Derived.Test.YtnbdpalbompjlaaDoorRefRow
namespace Go.Proofs.YtnbdpalbompjlaaDoor
open Go.RowKit
set_option maxRecDepth 10000

theorem refput_w1 (w : World) (n : Nat) (hn : n < 2 ^ 64) : Calls Tryd.prog 46 #[.int .u64 n, .int .i64 1] w fun e w' => e = .returned (.string ⟨(leB n 1).toArray⟩) ∧ Below w.heap.size w w' := refput_any w n 1 hn
theorem refput_w2 (w : World) (n : Nat) (hn : n < 2 ^ 64) : Calls Tryd.prog 46 #[.int .u64 n, .int .i64 2] w fun e w' => e = .returned (.string ⟨(leB n 2).toArray⟩) ∧ Below w.heap.size w w' := refput_any w n 2 hn
theorem refput_w4 (w : World) (n : Nat) (hn : n < 2 ^ 64) : Calls Tryd.prog 46 #[.int .u64 n, .int .i64 4] w fun e w' => e = .returned (.string ⟨(leB n 4).toArray⟩) ∧ Below w.heap.size w w' := refput_any w n 4 hn
theorem refput_w8 (w : World) (n : Nat) (hn : n < 2 ^ 64) : Calls Tryd.prog 46 #[.int .u64 n, .int .i64 8] w fun e w' => e = .returned (.string ⟨(leB n 8).toArray⟩) ∧ Below w.heap.size w w' := refput_any w n 8 hn
theorem bz (a : List UInt8) : (⟨a.toArray⟩ : ByteArray).size = a.length := by simp [ByteArray.size]

set_option maxRecDepth 100000 in
set_option maxHeartbeats 8000000 in
theorem refplain_any (w : World) (M : Msg) (sl : Value) (hm : M.Ranged) (hr : BRow w w.heap.size sl M.l) (hl : M.l.length ≤ 500) :
    Calls Tryd.prog 39 #[.agg (mc M sl).toArray] w fun e w' => e = .returned (.string ⟨(msgP M).toArray⟩) ∧ Below w.heap.size w w' := by
  obtain ⟨i0, hi, hz0, hz1, hz2⟩ := info_parts Tryd.infoU8
  have HI := Lib.hid hi
  have hk0 := Blk.new w 32 (mc M sl).toArray
  have hb0 := (Below.refl w.heap.size w).alloc (Nat.le_refl _) (.cells (mc M sl).toArray 32)
  have HR := Lib.hid (hr.bits hb0)
  have HF := Lib.hid hm.fits
  have HM := Lib.hid hm
  have HBL := Lib.hid hb0
  have HK := Lib.hid (show Blk _ w.heap.size 32 (mc M sl) from hk0)
  generalize hw0 : w.alloc (.cells (mc M sl).toArray 32) = w0 at *
  obtain ⟨g, hg⟩ : ∃ g, g = w.heap.size := ⟨_, rfl⟩
  have HW0 := Lib.hid hw0
  have HG := Lib.hid hg
  rw [← hg] at HK HBL ⊢
  obtain ⟨K, hK⟩ : ∃ K : Nat, M.k = K := ⟨M.k.toNat, by have := hm.k; omega⟩
  obtain ⟨S, hS⟩ : ∃ S : Nat, M.s = S := ⟨M.s.toNat, by have := hm.s; omega⟩
  obtain ⟨m, hmm⟩ : ∃ m : Nat, M.m = m := ⟨M.m.toNat, by have := hm.m; omega⟩
  have hKb : K ≤ 3 := by have := hm.k; omega
  have hSb : S < 4294967296 := by have := hm.s; omega
  have hmb : m < 65536 := by have := hm.m; omega
  have hbb := hm.fits.b
  have HKE := Lib.hid hK
  have HSE := Lib.hid hS
  have HME := Lib.hid hmm
  have u1 : IntKind.u64.wrap (K : Int) = (K : Int) := by rw [IntKind.wrap_u64]; omega
  have u2 : IntKind.u64.wrap (S : Int) = (S : Int) := by rw [IntKind.wrap_u64]; omega
  have u3 : IntKind.u64.wrap (m : Int) = (m : Int) := by rw [IntKind.wrap_u64]; omega
  obtain ⟨P1, hP1⟩ : ∃ P : ByteArray, P = ⟨(leB K 1).toArray⟩ := ⟨_, rfl⟩
  obtain ⟨P4, hP4⟩ : ∃ P : ByteArray, P = ⟨(leB S 4).toArray⟩ := ⟨_, rfl⟩
  obtain ⟨PT, hPT⟩ : ∃ P : ByteArray, P = ⟨M.T.toArray⟩ := ⟨_, rfl⟩
  obtain ⟨Q5, hQ5⟩ : ∃ P : ByteArray, P1 ++ P4 = P := ⟨_, rfl⟩
  obtain ⟨Q, hQ⟩ : ∃ P : ByteArray, Q5 ++ PT = P := ⟨_, rfl⟩
  have z1 : P1.size = 1 := by rw [hP1, bz, leB_length]
  have z4 : P4.size = 4 := by rw [hP4, bz, leB_length]
  have zT : PT.size = 32 := by rw [hPT, bz, hm.fits.T]
  have z5 : Q5.size = 5 := by rw [← hQ5, ByteArray.size_append, z1, z4]
  have zQ : Q.size = 37 := by rw [← hQ, ByteArray.size_append, z5, zT]
  have HQE := Lib.hid (show Q = ⟨(leB K 1 ++ leB S 4 ++ M.T).toArray⟩ by rw [← hQ, ← hQ5, hP1, hP4, hPT, cat_bytes, cat_bytes])
  have HP1 := Lib.hid hP1
  have HP4 := Lib.hid hP4
  have HPT := Lib.hid hPT
  have HQ5 := Lib.hid hQ5
  have HQ := Lib.hid hQ
  clear hk0 hb0 hr hm hw0 hg hP1 hP4 hPT hQ5 hQ hK hS hmm hi
  go_enter Tryd.func39, Tryd.ntmps39
  go_upto_region 1 with fail
  rw [HW0.out, ← HG.out]
  refine wp_region_free (P := Tryd.prog) 15 (fun w' => Below w0.heap.size w0 w') (fun oq v w' => match oq with
      | 0 => v = .pointer (some ⟨g, 0, none⟩)
      | 1 => v = .int .i64 (K : Int)
      | 2 => v = .int .u64 (K : Int)
      | 3 => v = .string P1
      | 4 => v = .pointer (some ⟨g, 1, none⟩)
      | 5 => v = .int .i64 (S : Int)
      | 6 => v = .int .u64 (S : Int)
      | 7 => v = .string P4
      | 8 => v = .string Q5
      | 9 => ∃ ad : Addr, v = .slice (some ad) 0 0
      | 10 => v = .pointer (some ⟨g, 2, none⟩)
      | 11 => v = .slice (some ⟨g, 2, none⟩) 32 32
      | 12 => Held w' 0 v (bv M.T)
      | 13 => v = .string PT
      | 14 => v = .string Q
      | _ => True) (by kernel_rfl) (by kernel_rfl) (Below.refl _ _).drew ?gb ?vb ?steps ?fin
  case gb => exact fun a b h1 h2 => h1.trans (h2.mono h1.size)
  case vb =>
    intro oq v a b h hb
    match oq with
    | 0 => exact h
    | 1 => exact h
    | 2 => exact h
    | 3 => exact h
    | 4 => exact h
    | 5 => exact h
    | 6 => exact h
    | 7 => exact h
    | 8 => exact h
    | 9 => exact h
    | 10 => exact h
    | 11 => exact h
    | 12 => exact Held.below h hb
    | 13 => exact h
    | 14 => exact h
    | _ + 15 => trivial
  case steps =>
    intro vals
    simp only [List.take_succ_cons, List.take_zero, freeSteps, Act.put, List.setIfInBounds_toArray, List.set_cons_zero, List.set_cons_succ, Nat.reduceAdd]
    refine ⟨fun w8 hG hW => ?_, fun w8 hG hW => ?_, fun w8 hG hW => ?_, fun w8 hG hW => ?_, fun w8 hG hW => ?_, fun w8 hG hW => ?_, fun w8 hG hW => ?_, fun w8 hG hW => ?_, fun w8 hG hW => ?_, fun w8 hG hW => ?_, fun w8 hG hW => ?_, fun w8 hG hW => ?_, fun w8 hG hW => ?_, fun w8 hG hW => ?_, fun w8 hG hW => ?_, trivial⟩
    · clear hW
      refine stepAt_value rfl rfl rfl (.pointer (some ⟨g, 0, none⟩)) w8 ?_ ⟨rfl, Below.refl _ _⟩
      go_simp
    · have q0 := hW 0 (by decide)
      simp only at q0
      rw [q0]
      clear hW
      refine stepAt_value rfl rfl rfl (.int .i64 (K : Int)) w8 ?_ ⟨rfl, Below.refl _ _⟩
      obtain ⟨c0, c1, c34, c35, c36⟩ := (HK.out.below hG HK.out.lt).msg HF.out
      rw [HKE.out] at c0
      go_simp
    · have q1 := hW 1 (by decide)
      simp only at q1
      rw [q1]
      clear hW
      refine stepAt_value rfl rfl rfl (.int .u64 (K : Int)) w8 ?_ ⟨rfl, Below.refl _ _⟩
      go_simp
    · have q2 := hW 2 (by decide)
      simp only at q2
      rw [q2]
      clear hW
      refine stepAt_call rfl rfl rfl 46 #[.int .u64 (K : Int), .int .i64 1] (by go_simp) ((refput_w1 w8 K (by omega)).mono fun e w' ⟨h1, h2⟩ => ⟨_, h1, by rw [HP1.out], h2⟩)
    · clear hW
      refine stepAt_value rfl rfl rfl (.pointer (some ⟨g, 1, none⟩)) w8 ?_ ⟨rfl, Below.refl _ _⟩
      go_simp
    · have q4 := hW 4 (by decide)
      simp only at q4
      rw [q4]
      clear hW
      refine stepAt_value rfl rfl rfl (.int .i64 (S : Int)) w8 ?_ ⟨rfl, Below.refl _ _⟩
      obtain ⟨c0, c1, c34, c35, c36⟩ := (HK.out.below hG HK.out.lt).msg HF.out
      rw [HSE.out] at c1
      go_simp
    · have q5 := hW 5 (by decide)
      simp only at q5
      rw [q5]
      clear hW
      refine stepAt_value rfl rfl rfl (.int .u64 (S : Int)) w8 ?_ ⟨rfl, Below.refl _ _⟩
      go_simp
    · have q6 := hW 6 (by decide)
      simp only at q6
      rw [q6]
      clear hW
      refine stepAt_call rfl rfl rfl 46 #[.int .u64 (S : Int), .int .i64 4] (by go_simp) ((refput_w4 w8 S (by omega)).mono fun e w' ⟨h1, h2⟩ => ⟨_, h1, by rw [HP4.out], h2⟩)
    · have q3 := hW 3 (by decide)
      simp only at q3
      have q7 := hW 7 (by decide)
      simp only at q7
      rw [q3, q7]
      clear hW
      refine stepAt_value rfl rfl rfl (.string Q5) w8 ?_ ⟨rfl, Below.refl _ _⟩
      have hq := HQ5.out
      go_simp
    · clear hW
      refine stepAt_value rfl rfl rfl (.slice (some ⟨w8.heap.size, 0, none⟩) 0 0) (w8.alloc (.cells #[] 5)) ?_ ⟨⟨_, rfl⟩, (Below.refl _ _).alloc (Nat.le_refl _) _⟩
      go_simp
    · clear hW
      refine stepAt_value rfl rfl rfl (.pointer (some ⟨g, 2, none⟩)) w8 ?_ ⟨rfl, Below.refl _ _⟩
      go_simp
    · have q10 := hW 10 (by decide)
      simp only at q10
      rw [q10]
      clear hW
      refine stepAt_value rfl rfl rfl (.slice (some ⟨g, 2, none⟩) 32 32) w8 ?_ ⟨rfl, Below.refl _ _⟩
      go_simp
    · obtain ⟨ad, qb⟩ := hW 9 (by decide)
      have q11 := hW 11 (by decide)
      simp only at q11
      rw [qb, q11]
      clear hW
      exact stepAt_append_empty rfl rfl rfl (.tmp 13) (.tmp 15) 86 86 rfl rfl 5 i0 (.int .u8 0) 1 Tryd.underlying86 HI.out hz0 hz1 hz2 rfl _ rfl 32 (bv M.T) (src_target (HK.out.below hG HK.out.lt) HF.out) (by omega) (by unfold maxLen; omega) (by omega) fun v' w' h1 h2 => ⟨h1.mono (Nat.zero_le _), h2⟩
    · obtain hh := hW 12 (by decide)
      clear hW
      refine stepAt_call rfl rfl rfl 56 #[vals 12] (by go_simp) ((wtext_any w8 0 _ M.T hh).mono fun e w' ⟨h1, h2⟩ => ⟨_, h1, by rw [HPT.out], h2⟩)
    · have q8 := hW 8 (by decide)
      simp only at q8
      have q13 := hW 13 (by decide)
      simp only at q13
      rw [q8, q13]
      clear hW
      refine stepAt_value rfl rfl rfl (.string Q) w8 ?_ ⟨rfl, Below.refl _ _⟩
      have hq := HQ.out
      go_simp
  case fin =>
    intro vals w8 hG hV
    have q14 := hV 14 (by omega)
    simp only at q14
    simp only [List.take_succ_cons, List.take_zero, List.drop_succ_cons, List.drop_zero, putAll, Act.put, List.setIfInBounds_toArray, List.set_cons_zero, List.set_cons_succ, Nat.reduceAdd]
    rw [q14]
    clear hV q14
    have HB8 := Lib.hid (HBL.out.trans (hG.mono (Nat.le_of_lt HK.out.lt)))
    have HK8 := Lib.hid (HK.out.below hG HK.out.lt)
    have HR8 := Lib.hid (HR.out.bits hG)
    clear hG
    obtain ⟨c0, c1, c34, c35, c36⟩ := HK8.out.msg HF.out
    rw [HKE.out] at c0
    rw [HME.out] at c34
    rcases HM.out.k with q | q | q
    · obtain rfl : K = 1 := by have := HKE.out; omega
      obtain ⟨P2, hP2⟩ : ∃ P : ByteArray, P = ⟨(leB m 2).toArray⟩ := ⟨_, rfl⟩
      obtain ⟨P8, hP8⟩ : ∃ P : ByteArray, P = ⟨(leB M.b 8).toArray⟩ := ⟨_, rfl⟩
      obtain ⟨R2, hR2⟩ : ∃ P : ByteArray, Q ++ P2 = P := ⟨_, rfl⟩
      obtain ⟨R10, hR10⟩ : ∃ P : ByteArray, R2 ++ P8 = P := ⟨_, rfl⟩
      have z2 : P2.size = 2 := by rw [hP2, bz, leB_length]
      have z8 : P8.size = 8 := by rw [hP8, bz, leB_length]
      have zR2 : R2.size = 39 := by rw [← hR2, ByteArray.size_append, zQ, z2]
      have HRE := Lib.hid (show R10 = ⟨(msgP M).toArray⟩ by
        rw [← hR10, ← hR2, HQE.out, hP2, hP8, cat_bytes, cat_bytes]
        simp only [msgP, msgR, q, HSE.out, HME.out, if_true, List.append_assoc]
        rfl)
      have HP2 := Lib.hid hP2
      have HP8 := Lib.hid hP8
      have HR10 := Lib.hid hR10
      clear hP2 hP8 hR10 q c1 c35 c36
      go_wp2_with fail
      refine (refput_w2 w8 m (by omega)).mono ?_
      rintro e w9 ⟨rfl, hb9⟩
      rw [← HP2.out]
      have HB9 := Lib.hid (HB8.out.trans (hb9.mono (Nat.le_of_lt HK8.out.lt)))
      have HK9 := Lib.hid (HK8.out.below hb9 HK8.out.lt)
      clear c0 c34 hb9
      obtain ⟨c0, _, _, c35, _⟩ := HK9.out.msg HF.out
      rw [HKE.out] at c0
      go_wp2_with fail
      refine (refput_w8 w9 M.b hbb).mono ?_
      rintro e w10 ⟨rfl, hb10⟩
      rw [← HP8.out]
      have HB10 := Lib.hid (HB9.out.trans (hb10.mono (Nat.le_of_lt HK9.out.lt)))
      have hR10 := HR10.out
      clear c0 c35 hb10
      go_wp2_with fail
      rw [HRE.out]
      go_ret
      exact ⟨rfl, HB10.out⟩
    · obtain rfl : K = 2 := by have := HKE.out; omega
      obtain ⟨P2, hP2⟩ : ∃ P : ByteArray, P = ⟨(leB m 2).toArray⟩ := ⟨_, rfl⟩
      obtain ⟨R2, hR2⟩ : ∃ P : ByteArray, Q ++ P2 = P := ⟨_, rfl⟩
      have z2 : P2.size = 2 := by rw [hP2, bz, leB_length]
      have HRE := Lib.hid (show R2 = ⟨(msgP M).toArray⟩ by
        rw [← hR2, HQE.out, hP2, cat_bytes]
        simp only [msgP, msgR, q, HSE.out, HME.out, List.append_assoc]
        rfl)
      have HP2 := Lib.hid hP2
      clear hP2 q c1 c35 c36
      go_wp2_with fail
      refine (refput_w2 w8 m (by omega)).mono ?_
      rintro e w9 ⟨rfl, hb9⟩
      rw [← HP2.out]
      have HB9 := Lib.hid (HB8.out.trans (hb9.mono (Nat.le_of_lt HK8.out.lt)))
      have HK9 := Lib.hid (HK8.out.below hb9 HK8.out.lt)
      clear c0 c34 hb9
      obtain ⟨c0, _, _, c35, _⟩ := HK9.out.msg HF.out
      rw [HKE.out] at c0
      go_wp2_with fail
      rw [HRE.out]
      go_ret
      exact ⟨rfl, HB9.out⟩
    · obtain rfl : K = 3 := by have := HKE.out; omega
      obtain ⟨PR, hPR⟩ : ∃ P : ByteArray, P = bstr (encR M.l) := ⟨_, rfl⟩
      obtain ⟨R, hR⟩ : ∃ P : ByteArray, Q ++ PR = P := ⟨_, rfl⟩
      have zR : PR.size ≤ 1000 := by rw [hPR, bstr_size, encR_length]; omega
      obtain ⟨zr, hzr⟩ : ∃ z, PR.size = z := ⟨_, rfl⟩
      rw [hzr] at zR
      have hsum : ¬ 9223372036854775807 < 37 + zr := by omega
      have HRE := Lib.hid (show R = ⟨(msgP M).toArray⟩ by
        rw [← hR, HQE.out, hPR, bstr, cat_bytes]
        simp only [msgP, msgR, q, HSE.out, List.append_assoc]
        rfl)
      have HPR := Lib.hid hPR
      obtain ⟨ao, cap, hsl⟩ := HR8.out.form
      obtain ⟨L, hL⟩ : ∃ L, L = M.l.length := ⟨_, rfl⟩
      rw [← hL] at hsl hl
      have HL := Lib.hid hL.symm
      rw [hsl] at c36
      have HSL := Lib.hid hsl
      clear hsl hL hPR q c1 c34 c35
      go_wp2_with fail
      refine (refrow_any w8 ao L cap M.l HL.out (by rw [← HSL.out]; exact HR8.out) hl).mono ?_
      rintro e w9 ⟨rfl, hb9⟩
      rw [← HPR.out]
      have HB9 := Lib.hid (HB8.out.trans (hb9.mono (Nat.le_of_lt HK8.out.lt)))
      clear c0 c36 hb9
      go_wp2_with fail
      rw [HRE.out]
      go_ret
      exact ⟨rfl, HB9.out⟩

end Go.Proofs.YtnbdpalbompjlaaDoor
