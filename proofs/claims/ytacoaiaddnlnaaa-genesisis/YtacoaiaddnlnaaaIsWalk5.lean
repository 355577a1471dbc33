/-
  The walk of GenesisIs.
-/
import Derived.Test.YtacoaiaddnlnaaaAlive5
import Derived.Test.YtacoaiaddnlnaaaRefGood
import Derived.Test.YtacoaiaddnlnaaaOpenCfg
namespace Go.Proofs.Ytacoaiaddnlnaaa
open Go.RowKit

theorem totV_eq (o : Option Int) : totV o = .tuple #[.int .i64 (o.getD 0), .bool o.isSome] := by cases o <;> rfl

set_option maxRecDepth 100000 in
set_option maxHeartbeats 4000000 in
theorem is_any (w : World) (nao : Option Addr) (nlen ncap b off : Nat) (n1 n2 n3 n4 n5 n6 n7 n8 n9 n10 n11 : Int) (vs : List (Int × ByteArray)) (hl : vs.length = nlen) (hst : Stakes vs) (hs : Lies w w.heap.size nao b off (vc vs)) :
    Calls Try.prog 3 #[.agg #[.slice nao nlen ncap, .int .i64 n1, .int .i64 n2, .int .i64 n3, .int .i64 n4, .int .i64 n5, .int .i64 n6, .int .i64 n7, .int .i64 n8, .int .i64 n9, .int .i64 n10, .int .i64 n11]] w fun e w' => e = .returned (.bool true) ∧ Below w.heap.size w w' := by
  have HS := Lib.hid hs
  have HL := Lib.hid hl
  have HST := Lib.hid hst
  have HB0 := Lib.hid ((Below.refl w.heap.size w).alloc (Nat.le_refl _) (.cells #[.slice nao nlen ncap, .int .i64 n1, .int .i64 n2, .int .i64 n3, .int .i64 n4, .int .i64 n5, .int .i64 n6, .int .i64 n7, .int .i64 n8, .int .i64 n9, .int .i64 n10, .int .i64 n11] 24))
  have HK0 := Lib.hid (Blk.new w 24 #[.slice nao nlen ncap, .int .i64 n1, .int .i64 n2, .int .i64 n3, .int .i64 n4, .int .i64 n5, .int .i64 n6, .int .i64 n7, .int .i64 n8, .int .i64 n9, .int .i64 n10, .int .i64 n11])
  clear hs hl hst
  go_enter Try.func3, Try.ntmps3
  go_wp2_with fail
  refine (alive_any _).mono ?_
  rintro e w1 ⟨rfl, hb1⟩
  have HK := Lib.hid (HK0.out.below hb1 (by simp))
  have HB := Lib.hid (HB0.out.trans (hb1.mono HB0.out.size))
  generalize w.heap.size = A at HK ⊢
  clear hb1 HK0 HB0
  obtain ⟨q0, q1, q2, q3, q4, q5, q6, q7, q8, q9, q10, q11⟩ := HK.out.twelve
  go_wp2_with fail
  refine (tooMuch_any w1 nao nlen ncap b off n1 n2 n3 n4 n5 n6 n7 n8 n9 n10 n11 vs HL.out ((HS.out.keep HB.out).more HB.out.size)).mono ?_
  rintro e w2 ⟨rfl, hb2⟩
  have HK2 := Lib.hid (HK.out.below hb2 HK.out.lt)
  have HB2 := Lib.hid (HB.out.trans (hb2.mono HB.out.size))
  clear q0 q1 q2 q3 q4 q5 q6 q7 q8 q9 q10 q11 hb2 HK HB
  cases hgr : tooMuch vs with
  | true =>
    clear hgr
    go_wp2_with fail
    go_ret
    exact ⟨rfl, HB2.out⟩
  | false =>
    have hlen : nlen ≤ 100 := by rw [← HL.out]; simp [tooMuch] at hgr; omega
    clear hgr
    have q0 := HK2.out.cell 0
    simp only [List.getElem?_cons_zero] at q0
    go_wp2_with fail
    refine (total_any w2 nao nlen ncap b off vs HL.out (by omega) HST.out ((HS.out.keep HB2.out).more HB2.out.size)).mono ?_
    rintro e w3 ⟨rfl, hb3⟩
    rw [totV_eq]
    obtain ⟨Z, hZ⟩ : ∃ Z, Z = (totFrom 0 vs).getD 0 := ⟨_, rfl⟩
    obtain ⟨B, hB⟩ : ∃ B, B = (totFrom 0 vs).isSome := ⟨_, rfl⟩
    rw [← hZ, ← hB]
    have HZ := Lib.hid hZ
    have HBo := Lib.hid hB
    have HK3 := Lib.hid (HK2.out.below hb3 HK2.out.lt)
    have HB3 := Lib.hid (HB2.out.trans (hb3.mono HB2.out.size))
    clear q0 hb3 HK2 HB2 hZ hB
    have q0 := HK3.out.cell 0
    simp only [List.getElem?_cons_zero] at q0
    go_wp2_with fail
    refine (refTotal_any w3 nao nlen ncap b off vs HL.out (by omega) HST.out ((HS.out.keep HB3.out).more HB3.out.size)).mono ?_
    rintro e w4 ⟨rfl, hb4⟩
    rw [totV_eq, ← HZ.out, ← HBo.out]
    have HK := Lib.hid (HK3.out.below hb4 HK3.out.lt)
    have HB := Lib.hid (HB3.out.trans (hb4.mono HB3.out.size))
    clear q0 hb4 HK3 HB3
    obtain ⟨GB, hGB⟩ : ∃ G, G = goodB (nums nlen n1 n2 n3 n4 n5 n6 n7 n8 n9 n10 n11) vs := ⟨_, rfl⟩
    have HGB := Lib.hid hGB
    clear hGB HZ HBo
    go_wp2_with fail

    refine wp_region_free (P := Try.prog) 15 (fun w' => Below w4.heap.size w4 w') (fun oq v w' => match oq with
        | 0 => v = .int .i64 Z
        | 1 => v = .int .i64 Z
        | 2 => v = .bool true
        | 3 => v = .bool true
        | 4 => v = .bool B
        | 5 => v = .bool B
        | 6 => v = .bool true
        | 7 => v = .bool true
        | 8 => v = .bool true
        | 9 => v = .agg #[.slice nao nlen ncap, .int .i64 n1, .int .i64 n2, .int .i64 n3, .int .i64 n4, .int .i64 n5, .int .i64 n6, .int .i64 n7, .int .i64 n8, .int .i64 n9, .int .i64 n10, .int .i64 n11]
        | 10 => v = .bool GB
        | 11 => v = .agg #[.slice nao nlen ncap, .int .i64 n1, .int .i64 n2, .int .i64 n3, .int .i64 n4, .int .i64 n5, .int .i64 n6, .int .i64 n7, .int .i64 n8, .int .i64 n9, .int .i64 n10, .int .i64 n11]
        | 12 => v = .bool GB
        | 13 => v = .bool true
        | 14 => v = .bool true
        | _ => True) (by kernel_rfl) (by kernel_rfl) (Below.refl _ _).drew ?gb ?vb ?steps ?fin
    case gb => exact fun a b h1 h2 => h1.trans (h2.mono h1.size)
    case vb =>
      intro oq v a b h hb
      match oq with
      | 0 => exact h
      | 1 => exact h
      | 2 => exact h
      | 3 => exact h
      | 4 => exact h
      | 5 => exact h
      | 6 => exact h
      | 7 => exact h
      | 8 => exact h
      | 9 => exact h
      | 10 => exact h
      | 11 => exact h
      | 12 => exact h
      | 13 => exact h
      | 14 => exact h
      | _ + 15 => trivial
    case steps =>
      intro vals
      simp only [List.take_succ_cons, List.take_zero, freeSteps, Act.put, List.setIfInBounds_toArray, List.set_cons_zero, List.set_cons_succ, Nat.reduceAdd]
      refine ⟨fun w8 hG hW => ?_, fun w8 hG hW => ?_, fun w8 hG hW => ?_, fun w8 hG hW => ?_, fun w8 hG hW => ?_, fun w8 hG hW => ?_, fun w8 hG hW => ?_, fun w8 hG hW => ?_, fun w8 hG hW => ?_, fun w8 hG hW => ?_, fun w8 hG hW => ?_, fun w8 hG hW => ?_, fun w8 hG hW => ?_, fun w8 hG hW => ?_, fun w8 hG hW => ?_, trivial⟩
      · clear hW
        refine stepAt_value rfl rfl rfl (.int .i64 Z) w8 ?_ ⟨rfl, Below.refl _ _⟩
        go_simp
      · clear hW
        refine stepAt_value rfl rfl rfl (.int .i64 Z) w8 ?_ ⟨rfl, Below.refl _ _⟩
        go_simp
      · have q0 := hW 0 (by decide)
        simp only at q0
        have q1 := hW 1 (by decide)
        simp only at q1
        rw [q0, q1]
        clear hW
        refine stepAt_value rfl rfl rfl (.bool true) w8 ?_ ⟨rfl, Below.refl _ _⟩
        go_simp
      · have q2 := hW 2 (by decide)
        simp only at q2
        rw [q2]
        clear hW
        refine stepAt_value rfl rfl rfl (.bool true) w8 ?_ ⟨rfl, Below.refl _ _⟩
        go_simp
      · have q3 := hW 3 (by decide)
        simp only at q3
        rw [q3]
        clear hW
        refine stepAt_value rfl rfl rfl (.bool B) w8 ?_ ⟨rfl, Below.refl _ _⟩
        go_simp
      · have q3 := hW 3 (by decide)
        simp only at q3
        rw [q3]
        clear hW
        refine stepAt_value rfl rfl rfl (.bool B) w8 ?_ ⟨rfl, Below.refl _ _⟩
        go_simp
      · have q3 := hW 3 (by decide)
        simp only at q3
        have q4 := hW 4 (by decide)
        simp only at q4
        have q5 := hW 5 (by decide)
        simp only at q5
        rw [q3, q4, q5]
        clear hW
        refine stepAt_value rfl rfl rfl (.bool true) w8 ?_ ⟨rfl, Below.refl _ _⟩
        go_simp
      · have q3 := hW 3 (by decide)
        simp only at q3
        have q6 := hW 6 (by decide)
        simp only at q6
        rw [q3, q6]
        clear hW
        refine stepAt_value rfl rfl rfl (.bool true) w8 ?_ ⟨rfl, Below.refl _ _⟩
        go_simp
      · have q7 := hW 7 (by decide)
        simp only at q7
        rw [q7]
        clear hW
        refine stepAt_value rfl rfl rfl (.bool true) w8 ?_ ⟨rfl, Below.refl _ _⟩
        go_simp
      · have q8 := hW 8 (by decide)
        simp only at q8
        rw [q8]
        clear hW
        refine stepAt_value rfl rfl rfl (.agg #[.slice nao nlen ncap, .int .i64 n1, .int .i64 n2, .int .i64 n3, .int .i64 n4, .int .i64 n5, .int .i64 n6, .int .i64 n7, .int .i64 n8, .int .i64 n9, .int .i64 n10, .int .i64 n11]) w8 ?_ ⟨rfl, Below.refl _ _⟩
        obtain ⟨q0, q1, q2, q3, q4, q5, q6, q7, q8, q9, q10, q11⟩ := (HK.out.below hG HK.out.lt).twelve
        go_simp
      · have q8 := hW 8 (by decide)
        simp only at q8
        have q9 := hW 9 (by decide)
        simp only at q9
        rw [q8, q9]
        clear hW
        refine stepAt_call rfl rfl rfl 12 #[.agg #[.slice nao nlen ncap, .int .i64 n1, .int .i64 n2, .int .i64 n3, .int .i64 n4, .int .i64 n5, .int .i64 n6, .int .i64 n7, .int .i64 n8, .int .i64 n9, .int .i64 n10, .int .i64 n11]] (by go_simp) ((good_any w8 nao nlen ncap b off n1 n2 n3 n4 n5 n6 n7 n8 n9 n10 n11 vs HL.out (by omega) HST.out ((HS.out.keep (HB.out.trans (hG.mono HB.out.size))).more (Nat.le_trans HB.out.size hG.size))).mono fun e w' ⟨h1, h2⟩ => ⟨_, h1, by rw [HGB.out], h2⟩)
      · have q8 := hW 8 (by decide)
        simp only at q8
        rw [q8]
        clear hW
        refine stepAt_value rfl rfl rfl (.agg #[.slice nao nlen ncap, .int .i64 n1, .int .i64 n2, .int .i64 n3, .int .i64 n4, .int .i64 n5, .int .i64 n6, .int .i64 n7, .int .i64 n8, .int .i64 n9, .int .i64 n10, .int .i64 n11]) w8 ?_ ⟨rfl, Below.refl _ _⟩
        obtain ⟨q0, q1, q2, q3, q4, q5, q6, q7, q8, q9, q10, q11⟩ := (HK.out.below hG HK.out.lt).twelve
        go_simp
      · have q8 := hW 8 (by decide)
        simp only at q8
        have q11 := hW 11 (by decide)
        simp only at q11
        rw [q8, q11]
        clear hW
        refine stepAt_call rfl rfl rfl 13 #[.agg #[.slice nao nlen ncap, .int .i64 n1, .int .i64 n2, .int .i64 n3, .int .i64 n4, .int .i64 n5, .int .i64 n6, .int .i64 n7, .int .i64 n8, .int .i64 n9, .int .i64 n10, .int .i64 n11]] (by go_simp) ((refGood_any w8 nao nlen ncap b off n1 n2 n3 n4 n5 n6 n7 n8 n9 n10 n11 vs HL.out (by omega) HST.out ((HS.out.keep (HB.out.trans (hG.mono HB.out.size))).more (Nat.le_trans HB.out.size hG.size))).mono fun e w' ⟨h1, h2⟩ => ⟨_, h1, by rw [HGB.out], h2⟩)
      · have q8 := hW 8 (by decide)
        simp only at q8
        have q10 := hW 10 (by decide)
        simp only at q10
        have q12 := hW 12 (by decide)
        simp only at q12
        rw [q8, q10, q12]
        clear hW
        refine stepAt_value rfl rfl rfl (.bool true) w8 ?_ ⟨rfl, Below.refl _ _⟩
        go_simp
      · have q8 := hW 8 (by decide)
        simp only at q8
        have q13 := hW 13 (by decide)
        simp only at q13
        rw [q8, q13]
        clear hW
        refine stepAt_value rfl rfl rfl (.bool true) w8 ?_ ⟨rfl, Below.refl _ _⟩
        go_simp
    case fin =>
      intro vals w8 hG hV
      have q14 := hV 14 (by omega)
      simp only at q14
      simp only [List.take_succ_cons, List.take_zero, List.drop_succ_cons, List.drop_zero, putAll, Act.put, List.setIfInBounds_toArray, List.set_cons_zero, List.set_cons_succ, Nat.reduceAdd]
      rw [q14]
      have HBF := Lib.hid (HB.out.trans (hG.mono HB.out.size))
      clear hV q14
      go_wp2_with fail
      go_ret
      exact ⟨rfl, HBF.out⟩
end Go.Proofs.Ytacoaiaddnlnaaa
