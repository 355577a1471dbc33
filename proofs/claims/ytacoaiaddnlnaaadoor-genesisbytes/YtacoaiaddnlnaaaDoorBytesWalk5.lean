/-
  The walk of GenesisBytes.
-/
import Derived.Test.YtacoaiaddnlnaaaDoorRoots
import Derived.Test.YtacoaiaddnlnaaaDoorOpenCfg
namespace Go.Proofs.YtacoaiaddnlnaaaDoor
open Go.RowKit

set_option maxRecDepth 100000 in
set_option maxHeartbeats 8000000 in
theorem gbytes_any (w : World) (hT : Tabs w) (nao : Option Addr) (nlen ncap b off : Nat) (n1 n2 n3 n4 n5 n6 n7 n8 n9 n10 n11 : Int) (vs : List (Int × ByteArray)) (slot : Int) (hslot : I64 slot) (hl : vs.length = nlen) (hst : Stakes vs) (hs : Lies w w.heap.size nao b off (vc vs)) :
    Calls Tryd.prog 3 #[.agg #[.slice nao nlen ncap, .int .i64 n1, .int .i64 n2, .int .i64 n3, .int .i64 n4, .int .i64 n5, .int .i64 n6, .int .i64 n7, .int .i64 n8, .int .i64 n9, .int .i64 n10, .int .i64 n11], .int .i64 slot] w fun e w' => e = .returned (.bool true) ∧ Below w.heap.size w w' := by
  have HS := Lib.hid hs
  have HL := Lib.hid hl
  have HST := Lib.hid hst
  have HT := Lib.hid hT
  have HB0 := Lib.hid ((Below.refl w.heap.size w).alloc (Nat.le_refl _) (.cells #[.slice nao nlen ncap, .int .i64 n1, .int .i64 n2, .int .i64 n3, .int .i64 n4, .int .i64 n5, .int .i64 n6, .int .i64 n7, .int .i64 n8, .int .i64 n9, .int .i64 n10, .int .i64 n11] 24))
  have HK0 := Lib.hid (Blk.new w 24 #[.slice nao nlen ncap, .int .i64 n1, .int .i64 n2, .int .i64 n3, .int .i64 n4, .int .i64 n5, .int .i64 n6, .int .i64 n7, .int .i64 n8, .int .i64 n9, .int .i64 n10, .int .i64 n11])
  unfold I64 at hslot
  clear hs hl hst hT
  go_enter Tryd.func3, Tryd.ntmps3
  go_wp2_with fail
  refine (alive_any _).mono ?_
  rintro e w1 ⟨rfl, hb1⟩
  have HK1 := Lib.hid (HK0.out.below hb1 (by simp))
  have HB1 := Lib.hid (HB0.out.trans (hb1.mono HB0.out.size))
  generalize w.heap.size = A at HK1 ⊢
  clear hb1 HK0 HB0
  obtain ⟨q0, q1, q2, q3, q4, q5, q6, q7, q8, q9, q10, q11⟩ := HK1.out.twelve
  go_wp2_with fail
  refine (tooMuch_any w1 nao nlen ncap b off n1 n2 n3 n4 n5 n6 n7 n8 n9 n10 n11 vs HL.out ((HS.out.keep HB1.out).more HB1.out.size)).mono ?_
  rintro e w2 ⟨rfl, hb2⟩
  have HK2 := Lib.hid (HK1.out.below hb2 HK1.out.lt)
  have HB2 := Lib.hid (HB1.out.trans (hb2.mono HB1.out.size))
  clear q0 q1 q2 q3 q4 q5 q6 q7 q8 q9 q10 q11 hb2 HK1 HB1
  cases hgr : tooMuch vs with
  | true =>
    clear hgr
    go_wp2_with fail
    go_ret
    exact ⟨rfl, HB2.out⟩
  | false =>
  have hlen : nlen ≤ 100 := by rw [← HL.out]; simp [tooMuch] at hgr; omega
  clear hgr
  obtain ⟨q0, q1, q2, q3, q4, q5, q6, q7, q8, q9, q10, q11⟩ := HK2.out.twelve
  go_wp2_with fail
  refine (refGood_any w2 nao nlen ncap b off n1 n2 n3 n4 n5 n6 n7 n8 n9 n10 n11 vs HL.out (by omega) HST.out ((HS.out.keep HB2.out).more HB2.out.size)).mono ?_
  rintro e w3 ⟨rfl, hb3⟩
  have HK3 := Lib.hid (HK2.out.below hb3 HK2.out.lt)
  have HB3 := Lib.hid (HB2.out.trans (hb3.mono HB2.out.size))
  clear q0 q1 q2 q3 q4 q5 q6 q7 q8 q9 q10 q11 hb3 HK2 HB2
  cases hgd : goodB (nums nlen n1 n2 n3 n4 n5 n6 n7 n8 n9 n10 n11) vs with
  | false =>
    clear hgd
    go_wp2_with fail
    go_ret
    exact ⟨rfl, HB3.out⟩
  | true =>
  have h1 := goodB_nums hgd (v := (n1, 32)) (by simp [nums])
  simp only at h1
  obtain ⟨h1, h1'⟩ := h1
  have HGD := Lib.hid hgd
  clear hgd
  by_cases hs0 : slot < 0
  · go_wp2_with fail
    go_ret
    exact ⟨rfl, HB3.out⟩
  obtain ⟨E, hE⟩ : ∃ E, E = slot / n1 := ⟨_, rfl⟩
  have hE0 : 0 ≤ E := by rw [hE]; exact Int.ediv_nonneg (by omega) (by omega)
  have hE1 : E ≤ slot := by rw [hE]; exact Int.ediv_le_self _ (by omega)
  have hE2 : Int.tdiv slot n1 = E := by rw [hE, Int.tdiv_eq_ediv_of_nonneg (by omega)]
  have hE3 : slot / n1 = E := hE.symm
  have hE4 : IntKind.i64.wrap E = E := by rw [IntKind.wrap_i64]; omega
  have hn0 : ¬ n1 = 0 := by omega
  have HE := Lib.hid hE
  have HE2 := Lib.hid hE2
  have HE3 := Lib.hid hE3
  clear hE hE2 hE3
  obtain ⟨q0, q1, q2, q3, q4, q5, q6, q7, q8, q9, q10, q11⟩ := HK3.out.twelve
  go_wp2_with fail
  refine (epoch_any w3 nao nlen ncap n1 n2 n3 n4 n5 n6 n7 n8 n9 n10 n11 slot h1 (by omega) (by omega)).mono ?_
  rintro e w4 ⟨rfl, hb4⟩
  rw [← HE.out]
  have HK := Lib.hid (HK3.out.below hb4 HK3.out.lt)
  have HB := Lib.hid (HB3.out.trans (hb4.mono HB3.out.size))
  clear q0 q1 q2 q3 q4 q5 q6 q7 q8 q9 q10 q11 hb4 HK3 HB3
  obtain ⟨S, hS⟩ : ∃ S : ByteArray, S = ⟨(cfgB (nums nlen n1 n2 n3 n4 n5 n6 n7 n8 n9 n10 n11) vs).toArray⟩ := ⟨_, rfl⟩
  obtain ⟨D, hD⟩ : ∃ D, D = digest (markB ++ cfgB (nums nlen n1 n2 n3 n4 n5 n6 n7 n8 n9 n10 n11) vs) := ⟨_, rfl⟩
  have HSS := Lib.hid hS
  have HD := Lib.hid hD
  have hdl : D.length = 32 := by rw [hD]; exact digest_length _
  have heq := fun w' => root_eq w' D D hdl hdl
  simp only [BEq.rfl] at heq
  clear hS hD
  go_wp2_with fail
  refine wp_region_free (P := Tryd.prog) 24 (fun w' => Below w4.heap.size w4 w') (fun oq v w' => match oq with
      | 0 => v = .agg #[.slice nao nlen ncap, .int .i64 n1, .int .i64 n2, .int .i64 n3, .int .i64 n4, .int .i64 n5, .int .i64 n6, .int .i64 n7, .int .i64 n8, .int .i64 n9, .int .i64 n10, .int .i64 n11]
      | 1 => v = .string S
      | 2 => v = .agg #[.slice nao nlen ncap, .int .i64 n1, .int .i64 n2, .int .i64 n3, .int .i64 n4, .int .i64 n5, .int .i64 n6, .int .i64 n7, .int .i64 n8, .int .i64 n9, .int .i64 n10, .int .i64 n11]
      | 3 => v = .string S
      | 4 => v = .bool true
      | 5 => v = .bool true
      | 6 => v = .agg #[.slice nao nlen ncap, .int .i64 n1, .int .i64 n2, .int .i64 n3, .int .i64 n4, .int .i64 n5, .int .i64 n6, .int .i64 n7, .int .i64 n8, .int .i64 n9, .int .i64 n10, .int .i64 n11]
      | 7 => v = .agg (bv D).toArray
      | 8 => v = .agg #[.slice nao nlen ncap, .int .i64 n1, .int .i64 n2, .int .i64 n3, .int .i64 n4, .int .i64 n5, .int .i64 n6, .int .i64 n7, .int .i64 n8, .int .i64 n9, .int .i64 n10, .int .i64 n11]
      | 9 => v = .agg (bv D).toArray
      | 10 => v = .bool true
      | 11 => v = .bool true
      | 12 => v = .bool true
      | 13 => v = .int .i64 E
      | 14 => v = .bool true
      | 15 => v = .bool true
      | 16 => v = .bool true
      | 17 => v = .int .i64 slot
      | 18 => v = .pointer (some ⟨A, 1, none⟩)
      | 19 => v = .int .i64 n1
      | 20 => v = .int .i64 E
      | 21 => v = .int .i64 E
      | 22 => v = .bool true
      | 23 => v = .bool true
      | _ => True) (by kernel_rfl) (by kernel_rfl) (Below.refl _ _).drew ?gb ?vb ?steps ?fin
  case gb => exact fun a b h1 h2 => h1.trans (h2.mono h1.size)
  case vb =>
    intro oq v a b h hb
    match oq with
    | 0 => exact h
    | 1 => exact h
    | 2 => exact h
    | 3 => exact h
    | 4 => exact h
    | 5 => exact h
    | 6 => exact h
    | 7 => exact h
    | 8 => exact h
    | 9 => exact h
    | 10 => exact h
    | 11 => exact h
    | 12 => exact h
    | 13 => exact h
    | 14 => exact h
    | 15 => exact h
    | 16 => exact h
    | 17 => exact h
    | 18 => exact h
    | 19 => exact h
    | 20 => exact h
    | 21 => exact h
    | 22 => exact h
    | 23 => exact h
    | _ + 24 => trivial
  case steps =>
    intro vals
    simp only [List.take_succ_cons, List.take_zero, freeSteps, Act.put, List.setIfInBounds_toArray, List.set_cons_zero, List.set_cons_succ, Nat.reduceAdd]
    refine ⟨fun w8 hG hW => ?_, fun w8 hG hW => ?_, fun w8 hG hW => ?_, fun w8 hG hW => ?_, fun w8 hG hW => ?_, fun w8 hG hW => ?_, fun w8 hG hW => ?_, fun w8 hG hW => ?_, fun w8 hG hW => ?_, fun w8 hG hW => ?_, fun w8 hG hW => ?_, fun w8 hG hW => ?_, fun w8 hG hW => ?_, fun w8 hG hW => ?_, fun w8 hG hW => ?_, fun w8 hG hW => ?_, fun w8 hG hW => ?_, fun w8 hG hW => ?_, fun w8 hG hW => ?_, fun w8 hG hW => ?_, fun w8 hG hW => ?_, fun w8 hG hW => ?_, fun w8 hG hW => ?_, fun w8 hG hW => ?_, trivial⟩
    · clear hW
      refine stepAt_value rfl rfl rfl (.agg #[.slice nao nlen ncap, .int .i64 n1, .int .i64 n2, .int .i64 n3, .int .i64 n4, .int .i64 n5, .int .i64 n6, .int .i64 n7, .int .i64 n8, .int .i64 n9, .int .i64 n10, .int .i64 n11]) w8 ?_ ⟨rfl, Below.refl _ _⟩
      obtain ⟨q0, q1, q2, q3, q4, q5, q6, q7, q8, q9, q10, q11⟩ := (HK.out.below hG HK.out.lt).twelve
      go_simp
    · have q0 := hW 0 (by decide)
      simp only at q0
      rw [q0]
      clear hW
      refine stepAt_call rfl rfl rfl 8 #[.agg #[.slice nao nlen ncap, .int .i64 n1, .int .i64 n2, .int .i64 n3, .int .i64 n4, .int .i64 n5, .int .i64 n6, .int .i64 n7, .int .i64 n8, .int .i64 n9, .int .i64 n10, .int .i64 n11]] (by go_simp) ((bytes_any w8 nao nlen ncap b off n1 n2 n3 n4 n5 n6 n7 n8 n9 n10 n11 vs HL.out HST.out HGD.out ((HS.out.keep (HB.out.trans (hG.mono HB.out.size))).more (Nat.le_trans HB.out.size hG.size))).mono fun e w' ⟨h1, h2⟩ => ⟨_, h1, by rw [HSS.out], h2⟩)
    · clear hW
      refine stepAt_value rfl rfl rfl (.agg #[.slice nao nlen ncap, .int .i64 n1, .int .i64 n2, .int .i64 n3, .int .i64 n4, .int .i64 n5, .int .i64 n6, .int .i64 n7, .int .i64 n8, .int .i64 n9, .int .i64 n10, .int .i64 n11]) w8 ?_ ⟨rfl, Below.refl _ _⟩
      obtain ⟨q0, q1, q2, q3, q4, q5, q6, q7, q8, q9, q10, q11⟩ := (HK.out.below hG HK.out.lt).twelve
      go_simp
    · have q2 := hW 2 (by decide)
      simp only at q2
      rw [q2]
      clear hW
      refine stepAt_call rfl rfl rfl 9 #[.agg #[.slice nao nlen ncap, .int .i64 n1, .int .i64 n2, .int .i64 n3, .int .i64 n4, .int .i64 n5, .int .i64 n6, .int .i64 n7, .int .i64 n8, .int .i64 n9, .int .i64 n10, .int .i64 n11]] (by go_simp) ((refBytes_any w8 nao nlen ncap b off n1 n2 n3 n4 n5 n6 n7 n8 n9 n10 n11 vs HL.out HST.out HGD.out ((HS.out.keep (HB.out.trans (hG.mono HB.out.size))).more (Nat.le_trans HB.out.size hG.size))).mono fun e w' ⟨h1, h2⟩ => ⟨_, h1, by rw [HSS.out], h2⟩)
    · have q1 := hW 1 (by decide)
      simp only at q1
      have q3 := hW 3 (by decide)
      simp only at q3
      rw [q1, q3]
      clear hW
      refine stepAt_value rfl rfl rfl (.bool true) w8 ?_ ⟨rfl, Below.refl _ _⟩
      go_simp
    · have q4 := hW 4 (by decide)
      simp only at q4
      rw [q4]
      clear hW
      refine stepAt_value rfl rfl rfl (.bool true) w8 ?_ ⟨rfl, Below.refl _ _⟩
      go_simp
    · have q5 := hW 5 (by decide)
      simp only at q5
      rw [q5]
      clear hW
      refine stepAt_value rfl rfl rfl (.agg #[.slice nao nlen ncap, .int .i64 n1, .int .i64 n2, .int .i64 n3, .int .i64 n4, .int .i64 n5, .int .i64 n6, .int .i64 n7, .int .i64 n8, .int .i64 n9, .int .i64 n10, .int .i64 n11]) w8 ?_ ⟨rfl, Below.refl _ _⟩
      obtain ⟨q0, q1, q2, q3, q4, q5, q6, q7, q8, q9, q10, q11⟩ := (HK.out.below hG HK.out.lt).twelve
      go_simp
    · have q5 := hW 5 (by decide)
      simp only at q5
      have q6 := hW 6 (by decide)
      simp only at q6
      rw [q5, q6]
      clear hW
      refine stepAt_call rfl rfl rfl 10 #[.agg #[.slice nao nlen ncap, .int .i64 n1, .int .i64 n2, .int .i64 n3, .int .i64 n4, .int .i64 n5, .int .i64 n6, .int .i64 n7, .int .i64 n8, .int .i64 n9, .int .i64 n10, .int .i64 n11]] (by go_simp) ((cfgRoot_any w8 (HT.out.below (HB.out.trans (hG.mono HB.out.size)) HT.out.size) nao nlen ncap b off n1 n2 n3 n4 n5 n6 n7 n8 n9 n10 n11 vs HL.out HST.out HGD.out ((HS.out.keep (HB.out.trans (hG.mono HB.out.size))).more (Nat.le_trans HB.out.size hG.size))).mono fun e w' ⟨h1, h2⟩ => ⟨_, h1, by rw [HD.out], h2⟩)
    · have q5 := hW 5 (by decide)
      simp only at q5
      rw [q5]
      clear hW
      refine stepAt_value rfl rfl rfl (.agg #[.slice nao nlen ncap, .int .i64 n1, .int .i64 n2, .int .i64 n3, .int .i64 n4, .int .i64 n5, .int .i64 n6, .int .i64 n7, .int .i64 n8, .int .i64 n9, .int .i64 n10, .int .i64 n11]) w8 ?_ ⟨rfl, Below.refl _ _⟩
      obtain ⟨q0, q1, q2, q3, q4, q5, q6, q7, q8, q9, q10, q11⟩ := (HK.out.below hG HK.out.lt).twelve
      go_simp
    · have q5 := hW 5 (by decide)
      simp only at q5
      have q8 := hW 8 (by decide)
      simp only at q8
      rw [q5, q8]
      clear hW
      refine stepAt_call rfl rfl rfl 11 #[.agg #[.slice nao nlen ncap, .int .i64 n1, .int .i64 n2, .int .i64 n3, .int .i64 n4, .int .i64 n5, .int .i64 n6, .int .i64 n7, .int .i64 n8, .int .i64 n9, .int .i64 n10, .int .i64 n11]] (by go_simp) ((refCfgRoot_any w8 nao nlen ncap b off n1 n2 n3 n4 n5 n6 n7 n8 n9 n10 n11 vs HL.out HST.out HGD.out ((HS.out.keep (HB.out.trans (hG.mono HB.out.size))).more (Nat.le_trans HB.out.size hG.size))).mono fun e w' ⟨h1, h2⟩ => ⟨_, h1, by rw [HD.out], h2⟩)
    · have q5 := hW 5 (by decide)
      simp only at q5
      have q7 := hW 7 (by decide)
      simp only at q7
      have q9 := hW 9 (by decide)
      simp only at q9
      rw [q5, q7, q9]
      clear hW
      refine stepAt_value rfl rfl rfl (.bool true) w8 ?_ ⟨rfl, Below.refl _ _⟩
      have he := heq w8
      go_simp
    · have q5 := hW 5 (by decide)
      simp only at q5
      have q10 := hW 10 (by decide)
      simp only at q10
      rw [q5, q10]
      clear hW
      refine stepAt_value rfl rfl rfl (.bool true) w8 ?_ ⟨rfl, Below.refl _ _⟩
      go_simp
    · have q11 := hW 11 (by decide)
      simp only at q11
      rw [q11]
      clear hW
      refine stepAt_value rfl rfl rfl (.bool true) w8 ?_ ⟨rfl, Below.refl _ _⟩
      go_simp
    · have q12 := hW 12 (by decide)
      simp only at q12
      rw [q12]
      clear hW
      refine stepAt_value rfl rfl rfl (.int .i64 E) w8 ?_ ⟨rfl, Below.refl _ _⟩
      go_simp
    · have q12 := hW 12 (by decide)
      simp only at q12
      have q13 := hW 13 (by decide)
      simp only at q13
      rw [q12, q13]
      clear hW
      refine stepAt_value rfl rfl rfl (.bool true) w8 ?_ ⟨rfl, Below.refl _ _⟩
      go_simp
    · have q12 := hW 12 (by decide)
      simp only at q12
      have q14 := hW 14 (by decide)
      simp only at q14
      rw [q12, q14]
      clear hW
      refine stepAt_value rfl rfl rfl (.bool true) w8 ?_ ⟨rfl, Below.refl _ _⟩
      go_simp
    · have q15 := hW 15 (by decide)
      simp only at q15
      rw [q15]
      clear hW
      refine stepAt_value rfl rfl rfl (.bool true) w8 ?_ ⟨rfl, Below.refl _ _⟩
      go_simp
    · have q16 := hW 16 (by decide)
      simp only at q16
      rw [q16]
      clear hW
      refine stepAt_value rfl rfl rfl (.int .i64 slot) w8 ?_ ⟨rfl, Below.refl _ _⟩
      go_simp
    · have q16 := hW 16 (by decide)
      simp only at q16
      rw [q16]
      clear hW
      refine stepAt_value rfl rfl rfl (.pointer (some ⟨A, 1, none⟩)) w8 ?_ ⟨rfl, Below.refl _ _⟩
      go_simp
    · have q16 := hW 16 (by decide)
      simp only at q16
      have q18 := hW 18 (by decide)
      simp only at q18
      rw [q16, q18]
      clear hW
      refine stepAt_value rfl rfl rfl (.int .i64 n1) w8 ?_ ⟨rfl, Below.refl _ _⟩
      obtain ⟨q0, q1, q2, q3, q4, q5, q6, q7, q8, q9, q10, q11⟩ := (HK.out.below hG HK.out.lt).twelve
      go_simp
    · have q16 := hW 16 (by decide)
      simp only at q16
      have q17 := hW 17 (by decide)
      simp only at q17
      have q19 := hW 19 (by decide)
      simp only at q19
      rw [q16, q17, q19]
      clear hW
      refine stepAt_value rfl rfl rfl (.int .i64 E) w8 ?_ ⟨rfl, Below.refl _ _⟩
      have hE2 := HE2.out
      have hE3 := HE3.out
      go_simp
    · have q16 := hW 16 (by decide)
      simp only at q16
      rw [q16]
      clear hW
      refine stepAt_value rfl rfl rfl (.int .i64 E) w8 ?_ ⟨rfl, Below.refl _ _⟩
      go_simp
    · have q16 := hW 16 (by decide)
      simp only at q16
      have q20 := hW 20 (by decide)
      simp only at q20
      have q21 := hW 21 (by decide)
      simp only at q21
      rw [q16, q20, q21]
      clear hW
      refine stepAt_value rfl rfl rfl (.bool true) w8 ?_ ⟨rfl, Below.refl _ _⟩
      go_simp
    · have q16 := hW 16 (by decide)
      simp only at q16
      have q22 := hW 22 (by decide)
      simp only at q22
      rw [q16, q22]
      clear hW
      refine stepAt_value rfl rfl rfl (.bool true) w8 ?_ ⟨rfl, Below.refl _ _⟩
      go_simp
  case fin =>
    intro vals w8 hG hV
    have q23 := hV 23 (by omega)
    simp only at q23
    simp only [List.take_succ_cons, List.take_zero, List.drop_succ_cons, List.drop_zero, putAll, Act.put, List.setIfInBounds_toArray, List.set_cons_zero, List.set_cons_succ, Nat.reduceAdd]
    rw [q23]
    have HBF := Lib.hid (HB.out.trans (hG.mono HB.out.size))
    clear hV q23
    go_wp2_with fail
    go_ret
    exact ⟨rfl, HBF.out⟩
end Go.Proofs.YtacoaiaddnlnaaaDoor
