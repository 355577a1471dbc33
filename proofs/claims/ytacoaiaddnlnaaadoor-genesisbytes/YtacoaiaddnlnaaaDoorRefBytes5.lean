/-
  What the reference's Bytes answers, of a configuration that can be.
-/
import Derived.Test.YtacoaiaddnlnaaaDoorRefGood
import Derived.Test.YtacoaiaddnlnaaaDoorBytes
import Derived.Test.YtacoaiaddnlnaaaDoorRefPut
import Derived.Test.YtacoaiaddnlnaaaDoorFreeLaws
namespace Go.Proofs.YtacoaiaddnlnaaaDoor
open Go.RowKit

theorem refput_4 (w : World) (n : Nat) (hn : n < 2 ^ 64) : Calls Tryd.prog 19 #[.int .u64 n, .int .i64 4] w fun e w' => e = .returned (.string ⟨(leB n 4).toArray⟩) ∧ Below w.heap.size w w' := refput_any w n 4 hn
theorem refput_8 (w : World) (n : Nat) (hn : n < 2 ^ 64) : Calls Tryd.prog 19 #[.int .u64 n, .int .i64 8] w fun e w' => e = .returned (.string ⟨(leB n 8).toArray⟩) ∧ Below w.heap.size w w' := refput_any w n 8 hn
theorem refput_1 (w : World) (n : Nat) (hn : n < 2 ^ 64) : Calls Tryd.prog 19 #[.int .u64 n, .int .i64 1] w fun e w' => e = .returned (.string ⟨(leB n 1).toArray⟩) ∧ Below w.heap.size w w' := refput_any w n 1 hn
theorem cat_mk (a b : List UInt8) : (⟨a.toArray⟩ : ByteArray) ++ ⟨b.toArray⟩ = ⟨(a ++ b).toArray⟩ := by apply ByteArray.ext; simp
theorem size_mk (a : List UInt8) : (⟨a.toArray⟩ : ByteArray).size = a.length := by simp [ByteArray.size]
theorem mk_data (k : ByteArray) : (⟨k.data.toList.toArray⟩ : ByteArray) = k := by apply ByteArray.ext; simp

set_option maxRecDepth 100000 in
set_option maxHeartbeats 8000000 in
theorem refBytes_any (w : World) (nao : Option Addr) (nlen ncap b off : Nat) (n1 n2 n3 n4 n5 n6 n7 n8 n9 n10 n11 : Int) (vs : List (Int × ByteArray)) (hl : vs.length = nlen) (hst : Stakes vs) (hgood : goodB (nums nlen n1 n2 n3 n4 n5 n6 n7 n8 n9 n10 n11) vs = true) (hs : Lies w w.heap.size nao b off (vc vs)) :
    Calls Tryd.prog 9 #[.agg #[.slice nao nlen ncap, .int .i64 n1, .int .i64 n2, .int .i64 n3, .int .i64 n4, .int .i64 n5, .int .i64 n6, .int .i64 n7, .int .i64 n8, .int .i64 n9, .int .i64 n10, .int .i64 n11]] w fun e w' => e = .returned (.string ⟨(cfgB (nums nlen n1 n2 n3 n4 n5 n6 n7 n8 n9 n10 n11) vs).toArray⟩) ∧ Below w.heap.size w w' := by
  have HS := Lib.hid hs
  have HL := Lib.hid hl
  have HST := Lib.hid hst
  have HGD := Lib.hid hgood
  have hLE := good_len hgood
  have hB0 := (Below.refl w.heap.size w).alloc (Nat.le_refl _) (.cells #[.slice nao nlen ncap, .int .i64 n1, .int .i64 n2, .int .i64 n3, .int .i64 n4, .int .i64 n5, .int .i64 n6, .int .i64 n7, .int .i64 n8, .int .i64 n9, .int .i64 n10, .int .i64 n11] 24)
  have hk0 := Blk.new w 24 #[.slice nao nlen ncap, .int .i64 n1, .int .i64 n2, .int .i64 n3, .int .i64 n4, .int .i64 n5, .int .i64 n6, .int .i64 n7, .int .i64 n8, .int .i64 n9, .int .i64 n10, .int .i64 n11]
  have HB0 := Lib.hid hB0
  have HK0 := Lib.hid hk0
  clear hs hl hst hB0 hk0 hgood
  go_enter Tryd.func9, Tryd.ntmps9
  go_wp2_with fail
  refine (refNumbers_any _ nao nlen ncap n1 n2 n3 n4 n5 n6 n7 n8 n9 n10 n11).mono ?_
  rintro e w1 ⟨g, rfl, hg, hb1⟩
  have HK := Lib.hid (HK0.out.below hb1 (by simp))
  have HB := Lib.hid (HB0.out.trans (hb1.mono HB0.out.size))
  have HG := Lib.hid hg
  have HLM := Lib.hid (fun (v : Int × Int) (hv : v ∈ nums nlen n1 n2 n3 n4 n5 n6 n7 n8 n9 n10 n11) => (⟨goodB_nums HGD.out hv, nums_most hv⟩ : _ ∧ _))
  obtain ⟨L, hLL⟩ : ∃ L, L = nums nlen n1 n2 n3 n4 n5 n6 n7 n8 n9 n10 n11 := ⟨_, rfl⟩
  have hlen : L.length = 12 := by rw [hLL]; rfl
  rw [← hLL] at HG HLM
  have HLL := Lib.hid hLL
  have HLen := Lib.hid hlen
  generalize w.heap.size = A0 at HK ⊢
  clear hLL hlen hg hb1 HK0 HB0
  go_wp2_with fail
  go_loopw [3, 5] (fun s i wr => ∃ (j k : Nat) (S : ByteArray), j ≤ 12 ∧ Hid (k = j * 2) ∧ i = .int .i64 k ∧ s = .string S ∧ Hid (S = ⟨(numsB (L.take j)).toArray⟩) ∧ Hid (Below w1.heap.size w1 wr)) (fun _ i _ => 24 - (intOf i).toNat)
  case atStart => exact ⟨0, 0, ByteArray.empty, Nat.zero_le _, Lib.hid rfl, rfl, rfl, Lib.hid rfl, Lib.hid (Below.refl _ _)⟩
  case round =>
    obtain ⟨j, k, S, hj, HKJ, rfl, rfl, HSS, HBel⟩ := hrel
    by_cases hlt : j < 12
    · obtain ⟨v, hv⟩ : ∃ v, L[j]? = some v := ⟨_, List.getElem?_eq_getElem (by rw [HLen.out]; exact hlt)⟩
      obtain ⟨c0, c1⟩ := HG.out.num HBel.out hv
      rw [← HKJ.out] at c0 c1
      have k1 : k < 24 := by rw [HKJ.out]; omega
      obtain ⟨hm1, hm2⟩ := HLM.out v (List.mem_of_getElem? hv)
      have HSn := Lib.hid (numsB_snoc L j v hv)
      obtain ⟨x, m⟩ := v
      simp only at c0 c1 hm1 hm2
      obtain ⟨X, rfl⟩ : ∃ X : Nat, x = X := ⟨x.toNat, by omega⟩
      have hu1 : IntKind.u64.wrap (X : Int) = (X : Int) := by rw [IntKind.wrap_u64]; omega
      obtain ⟨P, hP⟩ : ∃ P : ByteArray, P = ⟨(leB X 4).toArray⟩ := ⟨_, rfl⟩
      obtain ⟨sl, hsl⟩ : ∃ n, n = S.size := ⟨_, rfl⟩
      have zS : S.size = sl := hsl.symm
      have zP : P.size = 4 := by rw [hP, size_mk, leB_length]
      have hsl2 : sl ≤ 48 := by rw [hsl, HSS.out, size_mk, numsB_length, List.length_take]; omega
      have hsum : ¬ 9223372036854775807 < sl + 4 := by omega
      have HN := Lib.hid (show S ++ P = ⟨(numsB (L.take (j + 1))).toArray⟩ by rw [HSn.out, HSS.out, hP, cat_mk]; simp)
      have HP := Lib.hid hP
      clear hv hP hsl
      go_wp2_with fail
      refine (refput_4 wr X (by omega)).mono ?_
      rintro e w2 ⟨rfl, hb2⟩
      rw [← HP.out]
      have HB2 := Lib.hid (HBel.out.trans (hb2.mono HBel.out.size))
      clear hb2 c0 c1
      go_wp2_with fail
      go_roundw
      case rel => exact ⟨j + 1, k + 2, S ++ P, by omega, Lib.hid (by rw [HKJ.out]; omega), by go_num, rfl, HN, HB2⟩
      case measure => simp [intOf]; omega
    · have hjl : j = 12 := by omega
      have hkl : k = 24 := by rw [HKJ.out]; omega
      have HSS0 := Lib.hid (show S = ⟨(numsB L ++ valsB (vs.take 0)).toArray⟩ by rw [HSS.out, hjl, ← HLen.out, List.take_length]; simp [valsB])
      have c0 := (HK.out.below HBel.out HK.out.lt).cell 0
      simp only [List.getElem?_cons_zero] at c0
      have HNL := Lib.hid (show (numsB L).length = 48 by rw [numsB_length, HLen.out])
      have HBF := Lib.hid (HB.out.trans (HBel.out.mono HB.out.size))
      subst hkl
      rw [show ((24 : Nat) : Int) = 24 from rfl]
      clear hjl HSS HBel HK
      go_wp2_with fail
      go_loopw [3, 27] (fun s i wr => ∃ (j : Nat) (S : ByteArray), j ≤ nlen ∧ i = .int .i64 j ∧ s = .string S ∧ Hid (S = ⟨(numsB L ++ valsB (vs.take j)).toArray⟩) ∧ Hid (Below w.heap.size w wr)) (fun _ i _ => nlen - (intOf i).toNat)
      case atStart => exact ⟨0, S, Nat.zero_le _, rfl, rfl, HSS0, HBF⟩
      case round =>
        clear HSS0 HBF c0 HKJ
        obtain ⟨j2, S, hj2, rfl, rfl, HSS, HBel⟩ := hrel
        by_cases hlt2 : j2 < nlen
        · obtain ⟨y, hy⟩ : ∃ y, vs[j2]? = some y := ⟨_, List.getElem?_eq_getElem (by rw [HL.out]; exact hlt2)⟩
          have hr := HST.out y (List.mem_of_getElem? hy)
          have hcy := goodB_can HGD.out y (List.mem_of_getElem? hy)
          obtain ⟨ha, c0, c1⟩ := HS.out.val HBel.out hy
          have HSn := Lib.hid (valsB_snoc vs j2 y hy)
          have HTL := Lib.hid (Nat.le_trans (valsB_length (vs.take j2) fun x hx => goodB_can HGD.out x (List.mem_of_mem_take hx)) (Nat.mul_le_mul_right 41 (show (vs.take j2).length ≤ 64 by rw [List.length_take]; omega)))
          obtain ⟨x, k⟩ := y
          simp only [can, Bool.and_eq_true, decide_eq_true_eq] at c0 c1 hr hcy
          obtain ⟨hx0, hk1, hk2⟩ := hcy
          subst ha
          obtain ⟨X, rfl⟩ : ∃ X : Nat, x = X := ⟨x.toNat, by omega⟩
          have hu1 : IntKind.u64.wrap (X : Int) = (X : Int) := by rw [IntKind.wrap_u64]; omega
          have hu2 : IntKind.u64.wrap (k.size : Int) = (k.size : Int) := by rw [IntKind.wrap_u64]; omega
          obtain ⟨P8, hP8⟩ : ∃ P : ByteArray, P = ⟨(leB X 8).toArray⟩ := ⟨_, rfl⟩
          obtain ⟨P1, hP1⟩ : ∃ P : ByteArray, P = ⟨(leB k.size 1).toArray⟩ := ⟨_, rfl⟩
          obtain ⟨S1, hS1⟩ : ∃ P : ByteArray, S ++ P8 = P := ⟨_, rfl⟩
          obtain ⟨S2, hS2⟩ : ∃ P : ByteArray, S1 ++ P1 = P := ⟨_, rfl⟩
          obtain ⟨S3, hS3⟩ : ∃ P : ByteArray, S2 ++ k = P := ⟨_, rfl⟩
          obtain ⟨sl, hsl⟩ : ∃ n, n = S.size := ⟨_, rfl⟩
          have zS : S.size = sl := hsl.symm
          have zP8 : P8.size = 8 := by rw [hP8, size_mk, leB_length]
          have zP1 : P1.size = 1 := by rw [hP1, size_mk, leB_length]
          have zS1 : S1.size = sl + 8 := by rw [← hS1, ByteArray.size_append, zS, zP8]
          have zS2 : S2.size = sl + 8 + 1 := by rw [← hS2, ByteArray.size_append, zS1, zP1]
          have hsl2 : sl ≤ 3000 := by rw [hsl, HSS.out, size_mk, List.length_append, HNL.out]; have := HTL.out; omega
          have hsum : ¬ 9223372036854775807 < sl + 8 := by omega
          have hsum2 : ¬ 9223372036854775807 < sl + 8 + 1 := by omega
          have hsum3 : ¬ 9223372036854775807 < sl + 8 + 1 + k.size := by omega
          have HN := Lib.hid (show S3 = ⟨(numsB L ++ valsB (vs.take (j2 + 1))).toArray⟩ by
            rw [HSn.out, ← hS3, ← hS2, ← hS1, HSS.out, hP8, hP1, cat_mk, cat_mk]
            conv => lhs; rw [← mk_data k]
            rw [cat_mk]
            simp [valB])
          have HP8 := Lib.hid hP8
          have HP1 := Lib.hid hP1
          have HB2 := Lib.hid (HBel.out.alloc HBel.out.size (.cells #[.int .i64 (X : Int), .string k] 34))
          have HK := Lib.hid (Blk.new wr 34 #[.int .i64 (X : Int), .string k])
          clear hy hP8 hP1 hsl
          go_wp2_with fail
          generalize wr.alloc (.cells #[.int .i64 (X : Int), .string k] 34) = w5 at HK HB2 ⊢
          generalize wr.heap.size = A at HK ⊢
          clear c0 c1
          refine wp_region_free (P := Tryd.prog) 15 (fun w' => Below w5.heap.size w5 w') (fun oq v w' => match oq with
              | 0 => v = .string S
              | 1 => v = .pointer (some ⟨A, 0, none⟩)
              | 2 => v = .int .i64 (X : Int)
              | 3 => v = .int .u64 (X : Int)
              | 4 => v = .string P8
              | 5 => v = .string S1
              | 6 => v = .pointer (some ⟨A, 1, none⟩)
              | 7 => v = .string k
              | 8 => v = .int .i64 (k.size : Int)
              | 9 => v = .int .u64 (k.size : Int)
              | 10 => v = .string P1
              | 11 => v = .string S2
              | 12 => v = .pointer (some ⟨A, 1, none⟩)
              | 13 => v = .string k
              | 14 => v = .string S3
              | _ => True) (by kernel_rfl) (by kernel_rfl) (Below.refl _ _).drew ?gb ?vb ?steps ?fin
          case gb => exact fun a b h1 h2 => h1.trans (h2.mono h1.size)
          case vb =>
            intro oq v a b h hb
            match oq with
            | 0 => exact h
            | 1 => exact h
            | 2 => exact h
            | 3 => exact h
            | 4 => exact h
            | 5 => exact h
            | 6 => exact h
            | 7 => exact h
            | 8 => exact h
            | 9 => exact h
            | 10 => exact h
            | 11 => exact h
            | 12 => exact h
            | 13 => exact h
            | 14 => exact h
            | _ + 15 => trivial
          case steps =>
            intro vals
            simp only [List.take_succ_cons, List.take_zero, freeSteps, Act.put, List.setIfInBounds_toArray, List.set_cons_zero, List.set_cons_succ, Nat.reduceAdd]
            refine ⟨fun w8 hG hW => ?_, fun w8 hG hW => ?_, fun w8 hG hW => ?_, fun w8 hG hW => ?_, fun w8 hG hW => ?_, fun w8 hG hW => ?_, fun w8 hG hW => ?_, fun w8 hG hW => ?_, fun w8 hG hW => ?_, fun w8 hG hW => ?_, fun w8 hG hW => ?_, fun w8 hG hW => ?_, fun w8 hG hW => ?_, fun w8 hG hW => ?_, fun w8 hG hW => ?_, trivial⟩
            · clear hW
              refine stepAt_value rfl rfl rfl (.string S) w8 ?_ ⟨rfl, Below.refl _ _⟩
              go_simp
            · clear hW
              refine stepAt_value rfl rfl rfl (.pointer (some ⟨A, 0, none⟩)) w8 ?_ ⟨rfl, Below.refl _ _⟩
              go_simp
            · have q1 := hW 1 (by decide)
              simp only at q1
              rw [q1]
              clear hW
              refine stepAt_value rfl rfl rfl (.int .i64 (X : Int)) w8 ?_ ⟨rfl, Below.refl _ _⟩
              have q0 := (HK.out.below hG HK.out.lt).cell 0
              simp only [List.getElem?_cons_zero] at q0
              go_simp
            · have q2 := hW 2 (by decide)
              simp only at q2
              rw [q2]
              clear hW
              refine stepAt_value rfl rfl rfl (.int .u64 (X : Int)) w8 ?_ ⟨rfl, Below.refl _ _⟩
              go_simp
            · have q3 := hW 3 (by decide)
              simp only at q3
              rw [q3]
              clear hW
              refine stepAt_call rfl rfl rfl 19 #[.int .u64 (X : Int), .int .i64 8] (by go_simp) ((refput_8 w8 X (by omega)).mono fun e w' ⟨h1, h2⟩ => ⟨_, h1, by rw [HP8.out], h2⟩)
            · have q0 := hW 0 (by decide)
              simp only at q0
              have q4 := hW 4 (by decide)
              simp only at q4
              rw [q0, q4]
              clear hW
              refine stepAt_value rfl rfl rfl (.string S1) w8 ?_ ⟨rfl, Below.refl _ _⟩
              go_simp
            · clear hW
              refine stepAt_value rfl rfl rfl (.pointer (some ⟨A, 1, none⟩)) w8 ?_ ⟨rfl, Below.refl _ _⟩
              go_simp
            · have q6 := hW 6 (by decide)
              simp only at q6
              rw [q6]
              clear hW
              refine stepAt_value rfl rfl rfl (.string k) w8 ?_ ⟨rfl, Below.refl _ _⟩
              have q0 := (HK.out.below hG HK.out.lt).cell 1
              simp only [List.getElem?_cons_zero, List.getElem?_cons_succ] at q0
              go_simp
            · have q7 := hW 7 (by decide)
              simp only at q7
              rw [q7]
              clear hW
              refine stepAt_value rfl rfl rfl (.int .i64 (k.size : Int)) w8 ?_ ⟨rfl, Below.refl _ _⟩
              go_simp
            · have q8 := hW 8 (by decide)
              simp only at q8
              rw [q8]
              clear hW
              refine stepAt_value rfl rfl rfl (.int .u64 (k.size : Int)) w8 ?_ ⟨rfl, Below.refl _ _⟩
              go_simp
            · have q9 := hW 9 (by decide)
              simp only at q9
              rw [q9]
              clear hW
              refine stepAt_call rfl rfl rfl 19 #[.int .u64 (k.size : Int), .int .i64 1] (by go_simp) ((refput_1 w8 k.size (by omega)).mono fun e w' ⟨h1, h2⟩ => ⟨_, h1, by rw [HP1.out], h2⟩)
            · have q5 := hW 5 (by decide)
              simp only at q5
              have q10 := hW 10 (by decide)
              simp only at q10
              rw [q5, q10]
              clear hW
              refine stepAt_value rfl rfl rfl (.string S2) w8 ?_ ⟨rfl, Below.refl _ _⟩
              go_simp
            · clear hW
              refine stepAt_value rfl rfl rfl (.pointer (some ⟨A, 1, none⟩)) w8 ?_ ⟨rfl, Below.refl _ _⟩
              go_simp
            · have q12 := hW 12 (by decide)
              simp only at q12
              rw [q12]
              clear hW
              refine stepAt_value rfl rfl rfl (.string k) w8 ?_ ⟨rfl, Below.refl _ _⟩
              have q0 := (HK.out.below hG HK.out.lt).cell 1
              simp only [List.getElem?_cons_zero, List.getElem?_cons_succ] at q0
              go_simp
            · have q11 := hW 11 (by decide)
              simp only at q11
              have q13 := hW 13 (by decide)
              simp only at q13
              rw [q11, q13]
              clear hW
              refine stepAt_value rfl rfl rfl (.string S3) w8 ?_ ⟨rfl, Below.refl _ _⟩
              go_simp
          case fin =>
            intro vals w8 hG hV
            have q14 := hV 14 (by omega)
            simp only at q14
            simp only [List.take_succ_cons, List.take_zero, List.drop_succ_cons, List.drop_zero, putAll, Act.put, List.setIfInBounds_toArray, List.set_cons_zero, List.set_cons_succ, Nat.reduceAdd]
            rw [q14]
            have HBF := Lib.hid (HB2.out.trans (hG.mono HB2.out.size))
            generalize vals 0 = x0
            generalize vals 1 = x1
            generalize vals 2 = x2
            generalize vals 3 = x3
            generalize vals 4 = x4
            generalize vals 5 = x5
            generalize vals 6 = x6
            generalize vals 7 = x7
            generalize vals 8 = x8
            generalize vals 9 = x9
            generalize vals 10 = x10
            generalize vals 11 = x11
            generalize vals 12 = x12
            generalize vals 13 = x13
            clear hV q14 vals hG
            go_wp2_with fail
            go_roundw
            case rel => exact ⟨j2 + 1, S3, by omega, by go_num, rfl, HN, HBF⟩
            case measure => simp [intOf]; omega
        · have hjl : j2 = nlen := by omega
          have HF := Lib.hid (show S = ⟨(cfgB L vs).toArray⟩ by rw [HSS.out, hjl, ← HL.out, List.take_length, cfgB])
          clear hjl
          go_wp2_with fail
          go_ret
          rw [← HLL.out, ← HF.out]
          exact ⟨rfl, HBel.out⟩
end Go.Proofs.YtacoaiaddnlnaaaDoor
