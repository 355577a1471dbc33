/-
  The walk of BoardStakes.
-/
import Derived.Test.YtginfmbcljlneaaDoorRow6
namespace Go.Proofs.YtginfmbcljlneaaDoor
open Go.RowKit
set_option maxRecDepth 100000

set_option maxHeartbeats 8000000 in
theorem boardStakes_any (w : World) (hT : Tabs w) (nao : Option Addr) (nlen ncap nb noff : Nat) (n1 n2 n3 n4 n5 n6 n7 n8 n9 n10 n11 : Int) (nvs : List (Int × ByteArray)) (nhl : nvs.length = nlen) (nhst : Stakes nvs) (nhs : Lies w w.heap.size nao nb noff (vc nvs)) (mao : Option Addr) (mlen mcap mb moff : Nat) (m1 m2 m3 m4 m5 m6 m7 m8 m9 m10 m11 : Int) (mvs : List (Int × ByteArray)) (mhl : mvs.length = mlen) (mhst : Stakes mvs) (mhs : Lies w w.heap.size mao mb moff (vc mvs)) (slot : Int) :
    Calls Tryd.prog 6 #[.agg #[.slice nao nlen ncap, .int .i64 n1, .int .i64 n2, .int .i64 n3, .int .i64 n4, .int .i64 n5, .int .i64 n6, .int .i64 n7, .int .i64 n8, .int .i64 n9, .int .i64 n10, .int .i64 n11], .agg #[.slice mao mlen mcap, .int .i64 m1, .int .i64 m2, .int .i64 m3, .int .i64 m4, .int .i64 m5, .int .i64 m6, .int .i64 m7, .int .i64 m8, .int .i64 m9, .int .i64 m10, .int .i64 m11], .int .i64 slot] w fun e w' => e = .returned (.bool true) ∧ Below w.heap.size w w' := by
  have HT := Lib.hid hT
  have HSn := Lib.hid nhs
  have HLn := Lib.hid nhl
  have HSTn := Lib.hid nhst
  have HSm := Lib.hid mhs
  have HLm := Lib.hid mhl
  have HSTm := Lib.hid mhst
  have HB0 := Lib.hid (((Below.refl w.heap.size w).alloc (Nat.le_refl _) (.cells #[.slice nao nlen ncap, .int .i64 n1, .int .i64 n2, .int .i64 n3, .int .i64 n4, .int .i64 n5, .int .i64 n6, .int .i64 n7, .int .i64 n8, .int .i64 n9, .int .i64 n10, .int .i64 n11] 24)).alloc (by simp) (.cells #[.slice mao mlen mcap, .int .i64 m1, .int .i64 m2, .int .i64 m3, .int .i64 m4, .int .i64 m5, .int .i64 m6, .int .i64 m7, .int .i64 m8, .int .i64 m9, .int .i64 m10, .int .i64 m11] 24))
  have HK0 := Lib.hid ((Blk.new w 24 #[.slice nao nlen ncap, .int .i64 n1, .int .i64 n2, .int .i64 n3, .int .i64 n4, .int .i64 n5, .int .i64 n6, .int .i64 n7, .int .i64 n8, .int .i64 n9, .int .i64 n10, .int .i64 n11]).alloc (.cells #[.slice mao mlen mcap, .int .i64 m1, .int .i64 m2, .int .i64 m3, .int .i64 m4, .int .i64 m5, .int .i64 m6, .int .i64 m7, .int .i64 m8, .int .i64 m9, .int .i64 m10, .int .i64 m11] 24))
  have HM0 := Lib.hid (Blk.newAt (w.alloc (.cells #[.slice nao nlen ncap, .int .i64 n1, .int .i64 n2, .int .i64 n3, .int .i64 n4, .int .i64 n5, .int .i64 n6, .int .i64 n7, .int .i64 n8, .int .i64 n9, .int .i64 n10, .int .i64 n11] 24)) 24 #[.slice mao mlen mcap, .int .i64 m1, .int .i64 m2, .int .i64 m3, .int .i64 m4, .int .i64 m5, .int .i64 m6, .int .i64 m7, .int .i64 m8, .int .i64 m9, .int .i64 m10, .int .i64 m11] (w.heap.size + 1) (by simp))
  clear nhs nhl nhst mhs mhl mhst hT
  go_enter Tryd.func6, Tryd.ntmps6
  go_wp2_with fail
  generalize (w.alloc (.cells #[.slice nao nlen ncap, .int .i64 n1, .int .i64 n2, .int .i64 n3, .int .i64 n4, .int .i64 n5, .int .i64 n6, .int .i64 n7, .int .i64 n8, .int .i64 n9, .int .i64 n10, .int .i64 n11] 24)).alloc (.cells #[.slice mao mlen mcap, .int .i64 m1, .int .i64 m2, .int .i64 m3, .int .i64 m4, .int .i64 m5, .int .i64 m6, .int .i64 m7, .int .i64 m8, .int .i64 m9, .int .i64 m10, .int .i64 m11] 24) = w0 at HB0 HK0 HM0 ⊢
  refine (alive_any w0 (HT.out.below HB0.out HT.out.size)).mono ?_
  rintro e w1 ⟨rfl, hb1⟩
  have HK1 := Lib.hid (HK0.out.below hb1 HK0.out.lt)
  have HM1 := Lib.hid (HM0.out.below hb1 HM0.out.lt)
  have HB1 := Lib.hid (HB0.out.trans (hb1.mono HB0.out.size))
  generalize w.heap.size + 1 = D at HM1 ⊢
  generalize w.heap.size = A at HK1 ⊢
  clear hb1 HK0 HM0 HB0
  obtain ⟨q0, q1, q2, q3, q4, q5, q6, q7, q8, q9, q10, q11⟩ := HK1.out.twelve
  go_wp2_with fail
  refine (tooMuch_any w1 nao nlen ncap nb noff n1 n2 n3 n4 n5 n6 n7 n8 n9 n10 n11 nvs HLn.out ((HSn.out.keep HB1.out).more HB1.out.size)).mono ?_
  rintro e w2 ⟨rfl, hb2⟩
  have HK2 := Lib.hid (HK1.out.below hb2 HK1.out.lt)
  have HM2 := Lib.hid (HM1.out.below hb2 HM1.out.lt)
  have HB2 := Lib.hid (HB1.out.trans (hb2.mono HB1.out.size))
  clear q0 q1 q2 q3 q4 q5 q6 q7 q8 q9 q10 q11 hb2 HK1 HM1 HB1
  cases hgr : tooMuch nvs with
  | true =>
    clear hgr
    go_wp2_with fail
    go_ret
    exact ⟨rfl, HB2.out⟩
  | false =>
    have hlen : nlen ≤ 100 := by rw [← HLn.out]; simp [tooMuch] at hgr; omega
    clear hgr
    obtain ⟨q0, q1, q2, q3, q4, q5, q6, q7, q8, q9, q10, q11⟩ := HK2.out.twelve
    go_wp2_with fail
    refine (refGood_any w2 nao nlen ncap nb noff n1 n2 n3 n4 n5 n6 n7 n8 n9 n10 n11 nvs HLn.out (by omega) HSTn.out ((HSn.out.keep HB2.out).more HB2.out.size)).mono ?_
    rintro e w3 ⟨rfl, hb3⟩
    have HK3 := Lib.hid (HK2.out.below hb3 HK2.out.lt)
    have HM3 := Lib.hid (HM2.out.below hb3 HM2.out.lt)
    have HB3 := Lib.hid (HB2.out.trans (hb3.mono HB2.out.size))
    clear q0 q1 q2 q3 q4 q5 q6 q7 q8 q9 q10 q11 hb3 HK2 HM2 HB2
    cases hgd : goodB (nums nlen n1 n2 n3 n4 n5 n6 n7 n8 n9 n10 n11) nvs with
    | false =>
      clear hgd
      go_wp2_with fail
      go_ret
      exact ⟨rfl, HB3.out⟩
    | true =>
      obtain ⟨hg1, hg2⟩ := good_len hgd
      obtain ⟨hk1, hk2, hk3⟩ := good_comm hgd
      obtain ⟨C, rfl⟩ : ∃ c : Nat, n2 = c := ⟨n2.toNat, by omega⟩
      have hC1 : 1 ≤ C := by omega
      have hC2 : C ≤ nlen := by omega
      have hC3 : C ≤ 16 := by omega
      clear hgd hk1 hk2 hk3
      obtain ⟨q0, q1, q2, q3, q4, q5, q6, q7, q8, q9, q10, q11⟩ := HM3.out.twelve
      go_wp2_with fail
      refine (tooMuch_any w3 mao mlen mcap mb moff m1 m2 m3 m4 m5 m6 m7 m8 m9 m10 m11 mvs HLm.out ((HSm.out.keep HB3.out).more HB3.out.size)).mono ?_
      rintro e w4 ⟨rfl, hb4⟩
      have HK4 := Lib.hid (HK3.out.below hb4 HK3.out.lt)
      have HM4 := Lib.hid (HM3.out.below hb4 HM3.out.lt)
      have HB4 := Lib.hid (HB3.out.trans (hb4.mono HB3.out.size))
      clear q0 q1 q2 q3 q4 q5 q6 q7 q8 q9 q10 q11 hb4 HK3 HM3 HB3
      cases hgr : tooMuch mvs with
      | true =>
        clear hgr
        go_wp2_with fail
        go_ret
        exact ⟨rfl, HB4.out⟩
      | false =>
        have hlen2 : mlen ≤ 100 := by rw [← HLm.out]; simp [tooMuch] at hgr; omega
        clear hgr
        obtain ⟨q0, q1, q2, q3, q4, q5, q6, q7, q8, q9, q10, q11⟩ := HM4.out.twelve
        go_wp2_with fail
        refine (refGood_any w4 mao mlen mcap mb moff m1 m2 m3 m4 m5 m6 m7 m8 m9 m10 m11 mvs HLm.out (by omega) HSTm.out ((HSm.out.keep HB4.out).more HB4.out.size)).mono ?_
        rintro e w5 ⟨rfl, hb5⟩
        have HK := Lib.hid (HK4.out.below hb5 HK4.out.lt)
        have HM := Lib.hid (HM4.out.below hb5 HM4.out.lt)
        have HB := Lib.hid (HB4.out.trans (hb5.mono HB4.out.size))
        clear q0 q1 q2 q3 q4 q5 q6 q7 q8 q9 q10 q11 hb5 HK4 HM4 HB4
        cases hgd2 : goodB (nums mlen m1 m2 m3 m4 m5 m6 m7 m8 m9 m10 m11) mvs with
        | false =>
          clear hgd2
          go_wp2_with fail
          go_ret
          exact ⟨rfl, HB.out⟩
        | true =>
          clear hgd2
          have e0 := HK.out.cell 0
          have e2 := HK.out.cell 2
          have f0 := HM.out.cell 0
          have f2 := HM.out.cell 2
          simp only [List.getElem?_cons_zero, List.getElem?_cons_succ] at e0 e2 f0 f2
          by_cases hll : nlen = mlen
          · subst hll
            by_cases hcc : (C : Int) = m2
            · subst hcc
              obtain ⟨L, hLL⟩ : ∃ L, L = comm slot nlen C := ⟨_, rfl⟩
              have HLL := Lib.hid hLL.symm
              have HLen := Lib.hid (show L.length ≤ 100000 by have := comm_le slot nlen C; rw [← hLL] at this; omega)
              clear hLL
              go_wp2_with fail
              clear e0 e2 f0 f2
              refine wp_region_free (P := Tryd.prog) 7 (fun w' => Below w5.heap.size w5 w') (fun oq v w' => match oq with
                  | 0 => v = .agg #[.slice nao nlen ncap, .int .i64 n1, .int .i64 (C : Int), .int .i64 n3, .int .i64 n4, .int .i64 n5, .int .i64 n6, .int .i64 n7, .int .i64 n8, .int .i64 n9, .int .i64 n10, .int .i64 n11]
                  | 1 => v = .int .i64 slot
                  | 2 => Row w' v L
                  | 3 => v = .agg #[.slice mao nlen mcap, .int .i64 m1, .int .i64 (C : Int), .int .i64 m3, .int .i64 m4, .int .i64 m5, .int .i64 m6, .int .i64 m7, .int .i64 m8, .int .i64 m9, .int .i64 m10, .int .i64 m11]
                  | 4 => v = .int .i64 slot
                  | 5 => Row w' v L
                  | 6 => v = .bool true
                  | _ => True) (by kernel_rfl) (by kernel_rfl) (Below.refl _ _).drew ?gb ?vb ?steps ?fin
              case gb => exact fun a b h1 h2 => h1.trans (h2.mono h1.size)
              case vb =>
                intro oq v a b h hb
                match oq with
                | 0 => exact h
                | 1 => exact h
                | 2 => exact h.keep hb
                | 3 => exact h
                | 4 => exact h
                | 5 => exact h.keep hb
                | 6 => exact h
                | _ + 7 => trivial
              case steps =>
                intro vals
                simp only [List.take_succ_cons, List.take_zero, freeSteps, Act.put, List.setIfInBounds_toArray, List.set_cons_zero, List.set_cons_succ, Nat.reduceAdd]
                refine ⟨fun w8 hG hW => ?_, fun w8 hG hW => ?_, fun w8 hG hW => ?_, fun w8 hG hW => ?_, fun w8 hG hW => ?_, fun w8 hG hW => ?_, fun w8 hG hW => ?_, trivial⟩
                · clear hW
                  refine stepAt_value rfl rfl rfl (.agg #[.slice nao nlen ncap, .int .i64 n1, .int .i64 (C : Int), .int .i64 n3, .int .i64 n4, .int .i64 n5, .int .i64 n6, .int .i64 n7, .int .i64 n8, .int .i64 n9, .int .i64 n10, .int .i64 n11]) w8 ?_ ⟨rfl, Below.refl _ _⟩
                  obtain ⟨q0, q1, q2, q3, q4, q5, q6, q7, q8, q9, q10, q11⟩ := (HK.out.below hG HK.out.lt).twelve
                  go_simp
                · clear hW
                  refine stepAt_value rfl rfl rfl (.int .i64 slot) w8 ?_ ⟨rfl, Below.refl _ _⟩
                  go_simp
                · have q0 := hW 0 (by decide)
                  simp only at q0
                  have q1 := hW 1 (by decide)
                  simp only at q1
                  rw [q0, q1]
                  clear hW
                  refine stepAt_call rfl rfl rfl 15 #[.agg #[.slice nao nlen ncap, .int .i64 n1, .int .i64 (C : Int), .int .i64 n3, .int .i64 n4, .int .i64 n5, .int .i64 n6, .int .i64 n7, .int .i64 n8, .int .i64 n9, .int .i64 n10, .int .i64 n11], .int .i64 slot] (by go_simp) ((members_any w8 (HT.out.below (HB.out.trans (hG.mono HB.out.size)) HT.out.size) nao nlen ncap n1 C n3 n4 n5 n6 n7 n8 n9 n10 n11 slot C rfl hg2 (by omega) hC1 hC2).mono fun e w' ⟨v, h1, h2, h3⟩ => ⟨_, h1, by have h4 := h2.row; rw [HLL.out] at h4; exact h4, h3⟩)
                · clear hW
                  refine stepAt_value rfl rfl rfl (.agg #[.slice mao nlen mcap, .int .i64 m1, .int .i64 (C : Int), .int .i64 m3, .int .i64 m4, .int .i64 m5, .int .i64 m6, .int .i64 m7, .int .i64 m8, .int .i64 m9, .int .i64 m10, .int .i64 m11]) w8 ?_ ⟨rfl, Below.refl _ _⟩
                  obtain ⟨q0, q1, q2, q3, q4, q5, q6, q7, q8, q9, q10, q11⟩ := (HM.out.below hG HM.out.lt).twelve
                  go_simp
                · clear hW
                  refine stepAt_value rfl rfl rfl (.int .i64 slot) w8 ?_ ⟨rfl, Below.refl _ _⟩
                  go_simp
                · have q3 := hW 3 (by decide)
                  simp only at q3
                  have q4 := hW 4 (by decide)
                  simp only at q4
                  rw [q3, q4]
                  clear hW
                  refine stepAt_call rfl rfl rfl 15 #[.agg #[.slice mao nlen mcap, .int .i64 m1, .int .i64 (C : Int), .int .i64 m3, .int .i64 m4, .int .i64 m5, .int .i64 m6, .int .i64 m7, .int .i64 m8, .int .i64 m9, .int .i64 m10, .int .i64 m11], .int .i64 slot] (by go_simp) ((members_any w8 (HT.out.below (HB.out.trans (hG.mono HB.out.size)) HT.out.size) mao nlen mcap m1 C m3 m4 m5 m6 m7 m8 m9 m10 m11 slot C rfl hg2 (by omega) hC1 hC2).mono fun e w' ⟨v, h1, h2, h3⟩ => ⟨_, h1, by have h4 := h2.row; rw [HLL.out] at h4; exact h4, h3⟩)
                · have HX2 : Row w8 (vals 2) L := hW 2 (by decide)
                  have HX5 : Row w8 (vals 5) L := hW 5 (by decide)
                  clear hW
                  generalize vals 2 = u2 at HX2 ⊢
                  generalize vals 5 = u5 at HX5 ⊢
                  refine stepAt_call rfl rfl rfl 14 #[u2, u5] (by go_simp) ((same_row HX2 HX5 HLen.out).mono fun e w' ⟨h1, h2⟩ => ⟨_, h1, by simp, h2⟩)
              case fin =>
                intro vals w8 hG hV
                have q6 := hV 6 (by omega)
                simp only at q6
                simp only [List.take_succ_cons, List.take_zero, List.drop_succ_cons, List.drop_zero, putAll, Act.put, List.setIfInBounds_toArray, List.set_cons_zero, List.set_cons_succ, Nat.reduceAdd]
                rw [q6]
                have HBF := Lib.hid (HB.out.trans (hG.mono HB.out.size))
                clear hV q6
                go_wp2_with fail
                go_ret
                exact ⟨rfl, HBF.out⟩
            · go_wp2_with fail
              go_ret
              exact ⟨rfl, HB.out⟩
          · have hll2 : ¬ ((nlen : Int) = (mlen : Int)) := by omega
            go_wp2_with fail
            go_ret
            exact ⟨rfl, HB.out⟩
end Go.Proofs.YtginfmbcljlneaaDoor
