/-
  The walk of BoardIs.
-/
import Derived.Test.YtginfmbcljlneaaDoorRow6
namespace Go.Proofs.YtginfmbcljlneaaDoor
open Go.RowKit
set_option maxRecDepth 100000

set_option maxHeartbeats 8000000 in
theorem boardIs_any (w : World) (hT : Tabs w) (nao : Option Addr) (nlen ncap nb noff : Nat) (n1 n2 n3 n4 n5 n6 n7 n8 n9 n10 n11 : Int) (nvs : List (Int × ByteArray)) (nhl : nvs.length = nlen) (nhst : Stakes nvs) (nhs : Lies w w.heap.size nao nb noff (vc nvs)) (slot who : Int) (rao : Option Addr) (rlen rcap rb roff : Nat) (row : List Bool) (hr : row.length = rlen) (hrs : Lies w w.heap.size rao rb roff (ov row)) :
    Calls Tryd.prog 3 #[.agg #[.slice nao nlen ncap, .int .i64 n1, .int .i64 n2, .int .i64 n3, .int .i64 n4, .int .i64 n5, .int .i64 n6, .int .i64 n7, .int .i64 n8, .int .i64 n9, .int .i64 n10, .int .i64 n11], .int .i64 slot, .int .i64 who, .slice rao rlen rcap] w fun e w' => e = .returned (.bool true) ∧ Below w.heap.size w w' := by
  have HT := Lib.hid hT
  have HR := Lib.hid hr
  have HRS := Lib.hid hrs
  have HS := Lib.hid nhs
  have HL := Lib.hid nhl
  have HST := Lib.hid nhst
  have HB0 := Lib.hid ((Below.refl w.heap.size w).alloc (Nat.le_refl _) (.cells #[.slice nao nlen ncap, .int .i64 n1, .int .i64 n2, .int .i64 n3, .int .i64 n4, .int .i64 n5, .int .i64 n6, .int .i64 n7, .int .i64 n8, .int .i64 n9, .int .i64 n10, .int .i64 n11] 24))
  have HK0 := Lib.hid (Blk.new w 24 #[.slice nao nlen ncap, .int .i64 n1, .int .i64 n2, .int .i64 n3, .int .i64 n4, .int .i64 n5, .int .i64 n6, .int .i64 n7, .int .i64 n8, .int .i64 n9, .int .i64 n10, .int .i64 n11])
  clear nhs nhl nhst hr hrs hT
  go_enter Tryd.func3, Tryd.ntmps3
  go_wp2_with fail
  generalize w.alloc (.cells #[.slice nao nlen ncap, .int .i64 n1, .int .i64 n2, .int .i64 n3, .int .i64 n4, .int .i64 n5, .int .i64 n6, .int .i64 n7, .int .i64 n8, .int .i64 n9, .int .i64 n10, .int .i64 n11] 24) = w0 at HB0 HK0 ⊢
  refine (alive_any w0 (HT.out.below HB0.out HT.out.size)).mono ?_
  rintro e w1 ⟨rfl, hb1⟩
  have HK := Lib.hid (HK0.out.below hb1 HK0.out.lt)
  have HB := Lib.hid (HB0.out.trans (hb1.mono HB0.out.size))
  generalize w.heap.size = A at HK ⊢
  clear hb1 HK0 HB0
  obtain ⟨q0, q1, q2, q3, q4, q5, q6, q7, q8, q9, q10, q11⟩ := HK.out.twelve
  go_wp2_with fail
  refine (tooMuch_any w1 nao nlen ncap nb noff n1 n2 n3 n4 n5 n6 n7 n8 n9 n10 n11 nvs HL.out ((HS.out.keep HB.out).more HB.out.size)).mono ?_
  rintro e w2 ⟨rfl, hb2⟩
  have HK2 := Lib.hid (HK.out.below hb2 HK.out.lt)
  have HB2 := Lib.hid (HB.out.trans (hb2.mono HB.out.size))
  clear q0 q1 q2 q3 q4 q5 q6 q7 q8 q9 q10 q11 hb2 HK HB
  cases hgr : tooMuch nvs with
  | true =>
    clear hgr
    go_wp2_with fail
    go_ret
    exact ⟨rfl, HB2.out⟩
  | false =>
    have hlen : nlen ≤ 100 := by rw [← HL.out]; simp [tooMuch] at hgr; omega
    clear hgr
    obtain ⟨q0, q1, q2, q3, q4, q5, q6, q7, q8, q9, q10, q11⟩ := HK2.out.twelve
    go_wp2_with fail
    refine (refGood_any w2 nao nlen ncap nb noff n1 n2 n3 n4 n5 n6 n7 n8 n9 n10 n11 nvs HL.out (by omega) HST.out ((HS.out.keep HB2.out).more HB2.out.size)).mono ?_
    rintro e w3 ⟨rfl, hb3⟩
    have HK3 := Lib.hid (HK2.out.below hb3 HK2.out.lt)
    have HB3 := Lib.hid (HB2.out.trans (hb3.mono HB2.out.size))
    clear q0 q1 q2 q3 q4 q5 q6 q7 q8 q9 q10 q11 hb3 HK2 HB2
    cases hgd : goodB (nums nlen n1 n2 n3 n4 n5 n6 n7 n8 n9 n10 n11) nvs with
    | false =>
      clear hgd
      go_wp2_with fail
      go_ret
      exact ⟨rfl, HB3.out⟩
    | true =>
      obtain ⟨hg1, hg2⟩ := good_len hgd
      obtain ⟨hk1, hk2, hk3⟩ := good_comm hgd
      obtain ⟨C, rfl⟩ : ∃ c : Nat, n2 = c := ⟨n2.toNat, by omega⟩
      have hC1 : 1 ≤ C := by omega
      have hC2 : C ≤ nlen := by omega
      have hC3 : C ≤ 16 := by omega
      clear hgd hk1 hk2 hk3
      by_cases h100 : (100 : Int) < (rlen : Int)
      · go_wp2_with fail
        go_ret
        exact ⟨rfl, HB3.out⟩
      · obtain ⟨q0, q1, q2, q3, q4, q5, q6, q7, q8, q9, q10, q11⟩ := HK3.out.twelve
        obtain ⟨L, hLL⟩ : ∃ L, L = comm slot nlen C := ⟨_, rfl⟩
        have HLL := Lib.hid hLL.symm
        have HLen := Lib.hid (show L.length ≤ 100000 by have := comm_le slot nlen C; rw [← hLL] at this; omega)
        clear hLL
        go_wp2_with fail
        refine (refMembers_any w3 nao nlen ncap n1 C n3 n4 n5 n6 n7 n8 n9 n10 n11 slot C rfl hg2 (by omega) hC1 hC2).mono ?_
        rintro e w4 ⟨vW, rfl, hh4, hb4⟩
        rw [HLL.out] at hh4
        have HK4 := Lib.hid (HK3.out.below hb4 HK3.out.lt)
        have HB4 := Lib.hid (HB3.out.trans (hb4.mono HB3.out.size))
        have hrow := hh4.row
        obtain ⟨ao, cap, b, off, hv, hl⟩ := hrow
        subst hv
        clear q0 q1 q2 q3 q4 q5 q6 q7 q8 q9 q10 q11 hb4 HK3 HB3 hh4
        obtain ⟨PL, hPL⟩ : ∃ P, P = placeFrom who 0 L := ⟨_, rfl⟩
        have HPL := Lib.hid hPL.symm
        obtain ⟨FT, hFT⟩ : ∃ P, P = fits L row := ⟨_, rfl⟩
        have HFT := Lib.hid hFT.symm
        obtain ⟨PK, hPK⟩ : ∃ P, P = picked L row := ⟨_, rfl⟩
        have HPK := Lib.hid hPK.symm
        have HLen2 := Lib.hid (show PK.length ≤ 100000 by have := picked_le L row; have := HLen.out; rw [hPK]; omega)
        obtain ⟨q0, q1, q2, q3, q4, q5, q6, q7, q8, q9, q10, q11⟩ := HK4.out.twelve
        clear hPL hFT hPK
        cases L with
        | nil =>
          have HF := Lib.hid (show firstOf [] = -1 from rfl)
          have HRW := Lib.hid (show Row w4 (.slice ao 0 cap) [] from ⟨ao, cap, b, off, rfl, hl⟩)
          clear hl
          rw [List.length_nil]
          go_wp2_with fail
          generalize Value.slice ao 0 cap = vW at HRW ⊢
          refine (pick_any w4 (HT.out.below HB4.out HT.out.size) nao nlen ncap n1 C n3 n4 n5 n6 n7 n8 n9 n10 n11 slot C rfl hg2 (by omega) hC1 hC2 rao rlen rcap rb roff row HR.out ((HRS.out.keep HB4.out).more HB4.out.size)).mono ?_
          rintro e w5 ⟨vP, rfl, hhP, hbP⟩
          rw [HLL.out, HPK.out] at hhP
          rw [HLL.out, HFT.out]
          have HRP0 := Lib.hid hhP.row
          have HRW1 := Lib.hid (HRW.out.keep hbP)
          have HK5 := Lib.hid (HK4.out.below hbP HK4.out.lt)
          have HB5 := Lib.hid (HB4.out.trans (hbP.mono HB4.out.size))
          clear q0 q1 q2 q3 q4 q5 q6 q7 q8 q9 q10 q11 hbP hhP HK4 HB4 HRW
          obtain ⟨q0, q1, q2, q3, q4, q5, q6, q7, q8, q9, q10, q11⟩ := HK5.out.twelve
          go_wp2_with fail
          refine (refPick_any w5 nao nlen ncap n1 C n3 n4 n5 n6 n7 n8 n9 n10 n11 slot C rfl hg2 (by omega) hC1 hC2 rao rlen rcap rb roff row HR.out ((HRS.out.keep HB5.out).more HB5.out.size)).mono ?_
          rintro e w6 ⟨vQ, rfl, hhQ, hbQ⟩
          rw [HLL.out, HPK.out] at hhQ
          rw [HLL.out, HFT.out]
          have HRQ := Lib.hid hhQ.row
          have HRW := Lib.hid (HRW1.out.keep hbQ)
          have HRP := Lib.hid (HRP0.out.keep hbQ)
          have HK := Lib.hid (HK5.out.below hbQ HK5.out.lt)
          have HB := Lib.hid (HB5.out.trans (hbQ.mono HB5.out.size))
          clear q0 q1 q2 q3 q4 q5 q6 q7 q8 q9 q10 q11 hbQ hhQ HK5 HB5 HRW1 HRP0
          go_wp2_with fail
          refine wp_region_free (P := Tryd.prog) 33 (fun w' => Below w6.heap.size w6 w') (fun oq v w' => match oq with
              | 0 => v = .agg #[.slice nao nlen ncap, .int .i64 n1, .int .i64 (C : Int), .int .i64 n3, .int .i64 n4, .int .i64 n5, .int .i64 n6, .int .i64 n7, .int .i64 n8, .int .i64 n9, .int .i64 n10, .int .i64 n11]
              | 1 => v = .int .i64 slot
              | 2 => Row w' v []
              | 3 => v = vW
              | 4 => v = .bool true
              | 5 => v = .bool true
              | 6 => v = .agg #[.slice nao nlen ncap, .int .i64 n1, .int .i64 (C : Int), .int .i64 n3, .int .i64 n4, .int .i64 n5, .int .i64 n6, .int .i64 n7, .int .i64 n8, .int .i64 n9, .int .i64 n10, .int .i64 n11]
              | 7 => v = .int .i64 slot
              | 8 => v = .int .i64 who
              | 9 => v = .int .i64 PL
              | 10 => v = .agg #[.slice nao nlen ncap, .int .i64 n1, .int .i64 (C : Int), .int .i64 n3, .int .i64 n4, .int .i64 n5, .int .i64 n6, .int .i64 n7, .int .i64 n8, .int .i64 n9, .int .i64 n10, .int .i64 n11]
              | 11 => v = .int .i64 slot
              | 12 => v = .int .i64 who
              | 13 => v = .int .i64 PL
              | 14 => v = .bool true
              | 15 => v = .bool true
              | 16 => v = .bool true
              | 17 => v = .agg #[.slice nao nlen ncap, .int .i64 n1, .int .i64 (C : Int), .int .i64 n3, .int .i64 n4, .int .i64 n5, .int .i64 n6, .int .i64 n7, .int .i64 n8, .int .i64 n9, .int .i64 n10, .int .i64 n11]
              | 18 => v = .int .i64 slot
              | 19 => v = .int .i64 (-1)
              | 20 => v = .int .i64 (-1)
              | 21 => v = .bool true
              | 22 => v = .bool true
              | 23 => v = .bool true
              | 24 => v = .bool FT
              | 25 => v = .bool FT
              | 26 => v = .bool true
              | 27 => v = .bool true
              | 28 => v = .bool true
              | 29 => v = vP
              | 30 => v = vQ
              | 31 => v = .bool true
              | 32 => v = .bool true
              | _ => True) (by kernel_rfl) (by kernel_rfl) (Below.refl _ _).drew ?gb ?vb ?steps ?fin
          case gb => exact fun a b h1 h2 => h1.trans (h2.mono h1.size)
          case vb =>
            intro oq v a b h hb
            match oq with
            | 0 => exact h
            | 1 => exact h
            | 2 => exact h.keep hb
            | 3 => exact h
            | 4 => exact h
            | 5 => exact h
            | 6 => exact h
            | 7 => exact h
            | 8 => exact h
            | 9 => exact h
            | 10 => exact h
            | 11 => exact h
            | 12 => exact h
            | 13 => exact h
            | 14 => exact h
            | 15 => exact h
            | 16 => exact h
            | 17 => exact h
            | 18 => exact h
            | 19 => exact h
            | 20 => exact h
            | 21 => exact h
            | 22 => exact h
            | 23 => exact h
            | 24 => exact h
            | 25 => exact h
            | 26 => exact h
            | 27 => exact h
            | 28 => exact h
            | 29 => exact h
            | 30 => exact h
            | 31 => exact h
            | 32 => exact h
            | _ + 33 => trivial
          case steps =>
            intro vals
            simp only [List.take_succ_cons, List.take_zero, freeSteps, Act.put, List.setIfInBounds_toArray, List.set_cons_zero, List.set_cons_succ, Nat.reduceAdd]
            refine ⟨fun w8 hG hW => ?_, fun w8 hG hW => ?_, fun w8 hG hW => ?_, fun w8 hG hW => ?_, fun w8 hG hW => ?_, fun w8 hG hW => ?_, fun w8 hG hW => ?_, fun w8 hG hW => ?_, fun w8 hG hW => ?_, fun w8 hG hW => ?_, fun w8 hG hW => ?_, fun w8 hG hW => ?_, fun w8 hG hW => ?_, fun w8 hG hW => ?_, fun w8 hG hW => ?_, fun w8 hG hW => ?_, fun w8 hG hW => ?_, fun w8 hG hW => ?_, fun w8 hG hW => ?_, fun w8 hG hW => ?_, fun w8 hG hW => ?_, fun w8 hG hW => ?_, fun w8 hG hW => ?_, fun w8 hG hW => ?_, fun w8 hG hW => ?_, fun w8 hG hW => ?_, fun w8 hG hW => ?_, fun w8 hG hW => ?_, fun w8 hG hW => ?_, fun w8 hG hW => ?_, fun w8 hG hW => ?_, fun w8 hG hW => ?_, fun w8 hG hW => ?_, trivial⟩
            · clear hW
              refine stepAt_value rfl rfl rfl (.agg #[.slice nao nlen ncap, .int .i64 n1, .int .i64 (C : Int), .int .i64 n3, .int .i64 n4, .int .i64 n5, .int .i64 n6, .int .i64 n7, .int .i64 n8, .int .i64 n9, .int .i64 n10, .int .i64 n11]) w8 ?_ ⟨rfl, Below.refl _ _⟩
              obtain ⟨q0, q1, q2, q3, q4, q5, q6, q7, q8, q9, q10, q11⟩ := (HK.out.below hG HK.out.lt).twelve
              go_simp
            · clear hW
              refine stepAt_value rfl rfl rfl (.int .i64 slot) w8 ?_ ⟨rfl, Below.refl _ _⟩
              go_simp
            · have q0 := hW 0 (by decide)
              simp only at q0
              have q1 := hW 1 (by decide)
              simp only at q1
              rw [q0, q1]
              clear hW
              refine stepAt_call rfl rfl rfl 15 #[.agg #[.slice nao nlen ncap, .int .i64 n1, .int .i64 (C : Int), .int .i64 n3, .int .i64 n4, .int .i64 n5, .int .i64 n6, .int .i64 n7, .int .i64 n8, .int .i64 n9, .int .i64 n10, .int .i64 n11], .int .i64 slot] (by go_simp) ((members_any w8 (HT.out.below (HB.out.trans (hG.mono HB.out.size)) HT.out.size) nao nlen ncap n1 C n3 n4 n5 n6 n7 n8 n9 n10 n11 slot C rfl hg2 (by omega) hC1 hC2).mono fun e w' ⟨v, h1, h2, h3⟩ => ⟨_, h1, by have h4 := h2.row; rw [HLL.out] at h4; exact h4, h3⟩)
            · clear hW
              refine stepAt_value rfl rfl rfl (vW) w8 ?_ ⟨rfl, Below.refl _ _⟩
              go_simp
            · have HX2 : Row w8 (vals 2) [] := hW 2 (by decide)
              have q3 := hW 3 (by decide)
              simp only at q3
              rw [q3]
              clear hW
              generalize vals 2 = u2 at HX2 ⊢
              refine stepAt_call rfl rfl rfl 14 #[u2, vW] (by go_simp) ((same_row HX2 (HRW.out.keep hG) HLen.out).mono fun e w' ⟨h1, h2⟩ => ⟨_, h1, by simp, h2⟩)
            · have q4 := hW 4 (by decide)
              simp only at q4
              rw [q4]
              clear hW
              refine stepAt_value rfl rfl rfl (.bool true) w8 ?_ ⟨rfl, Below.refl _ _⟩
              go_simp
            · have q5 := hW 5 (by decide)
              simp only at q5
              rw [q5]
              clear hW
              refine stepAt_value rfl rfl rfl (.agg #[.slice nao nlen ncap, .int .i64 n1, .int .i64 (C : Int), .int .i64 n3, .int .i64 n4, .int .i64 n5, .int .i64 n6, .int .i64 n7, .int .i64 n8, .int .i64 n9, .int .i64 n10, .int .i64 n11]) w8 ?_ ⟨rfl, Below.refl _ _⟩
              obtain ⟨q0, q1, q2, q3, q4, q5, q6, q7, q8, q9, q10, q11⟩ := (HK.out.below hG HK.out.lt).twelve
              go_simp
            · have q5 := hW 5 (by decide)
              simp only at q5
              rw [q5]
              clear hW
              refine stepAt_value rfl rfl rfl (.int .i64 slot) w8 ?_ ⟨rfl, Below.refl _ _⟩
              go_simp
            · have q5 := hW 5 (by decide)
              simp only at q5
              rw [q5]
              clear hW
              refine stepAt_value rfl rfl rfl (.int .i64 who) w8 ?_ ⟨rfl, Below.refl _ _⟩
              go_simp
            · have q5 := hW 5 (by decide)
              simp only at q5
              have q6 := hW 6 (by decide)
              simp only at q6
              have q7 := hW 7 (by decide)
              simp only at q7
              have q8 := hW 8 (by decide)
              simp only at q8
              rw [q5, q6, q7, q8]
              clear hW
              refine stepAt_call rfl rfl rfl 16 #[.agg #[.slice nao nlen ncap, .int .i64 n1, .int .i64 (C : Int), .int .i64 n3, .int .i64 n4, .int .i64 n5, .int .i64 n6, .int .i64 n7, .int .i64 n8, .int .i64 n9, .int .i64 n10, .int .i64 n11], .int .i64 slot, .int .i64 who] (by go_simp) ((place_any w8 (HT.out.below (HB.out.trans (hG.mono HB.out.size)) HT.out.size) nao nlen ncap n1 C n3 n4 n5 n6 n7 n8 n9 n10 n11 slot who C rfl hg2 (by omega) hC1 hC2).mono fun e w' ⟨h1, h2⟩ => ⟨_, h1, by rw [HLL.out, HPL.out], h2⟩)
            · have q5 := hW 5 (by decide)
              simp only at q5
              rw [q5]
              clear hW
              refine stepAt_value rfl rfl rfl (.agg #[.slice nao nlen ncap, .int .i64 n1, .int .i64 (C : Int), .int .i64 n3, .int .i64 n4, .int .i64 n5, .int .i64 n6, .int .i64 n7, .int .i64 n8, .int .i64 n9, .int .i64 n10, .int .i64 n11]) w8 ?_ ⟨rfl, Below.refl _ _⟩
              obtain ⟨q0, q1, q2, q3, q4, q5, q6, q7, q8, q9, q10, q11⟩ := (HK.out.below hG HK.out.lt).twelve
              go_simp
            · have q5 := hW 5 (by decide)
              simp only at q5
              rw [q5]
              clear hW
              refine stepAt_value rfl rfl rfl (.int .i64 slot) w8 ?_ ⟨rfl, Below.refl _ _⟩
              go_simp
            · have q5 := hW 5 (by decide)
              simp only at q5
              rw [q5]
              clear hW
              refine stepAt_value rfl rfl rfl (.int .i64 who) w8 ?_ ⟨rfl, Below.refl _ _⟩
              go_simp
            · have q5 := hW 5 (by decide)
              simp only at q5
              have q10 := hW 10 (by decide)
              simp only at q10
              have q11 := hW 11 (by decide)
              simp only at q11
              have q12 := hW 12 (by decide)
              simp only at q12
              rw [q5, q10, q11, q12]
              clear hW
              refine stepAt_call rfl rfl rfl 17 #[.agg #[.slice nao nlen ncap, .int .i64 n1, .int .i64 (C : Int), .int .i64 n3, .int .i64 n4, .int .i64 n5, .int .i64 n6, .int .i64 n7, .int .i64 n8, .int .i64 n9, .int .i64 n10, .int .i64 n11], .int .i64 slot, .int .i64 who] (by go_simp) ((refPlace_any w8 nao nlen ncap n1 C n3 n4 n5 n6 n7 n8 n9 n10 n11 slot who C rfl hg2 (by omega) hC1 hC2).mono fun e w' ⟨h1, h2⟩ => ⟨_, h1, by rw [HLL.out, HPL.out], h2⟩)
            · have q5 := hW 5 (by decide)
              simp only at q5
              have q9 := hW 9 (by decide)
              simp only at q9
              have q13 := hW 13 (by decide)
              simp only at q13
              rw [q5, q9, q13]
              clear hW
              refine stepAt_value rfl rfl rfl (.bool true) w8 ?_ ⟨rfl, Below.refl _ _⟩
              go_simp
            · have q5 := hW 5 (by decide)
              simp only at q5
              have q14 := hW 14 (by decide)
              simp only at q14
              rw [q5, q14]
              clear hW
              refine stepAt_value rfl rfl rfl (.bool true) w8 ?_ ⟨rfl, Below.refl _ _⟩
              go_simp
            · have q15 := hW 15 (by decide)
              simp only at q15
              rw [q15]
              clear hW
              refine stepAt_value rfl rfl rfl (.bool true) w8 ?_ ⟨rfl, Below.refl _ _⟩
              go_simp
            · have q16 := hW 16 (by decide)
              simp only at q16
              rw [q16]
              clear hW
              refine stepAt_value rfl rfl rfl (.agg #[.slice nao nlen ncap, .int .i64 n1, .int .i64 (C : Int), .int .i64 n3, .int .i64 n4, .int .i64 n5, .int .i64 n6, .int .i64 n7, .int .i64 n8, .int .i64 n9, .int .i64 n10, .int .i64 n11]) w8 ?_ ⟨rfl, Below.refl _ _⟩
              obtain ⟨q0, q1, q2, q3, q4, q5, q6, q7, q8, q9, q10, q11⟩ := (HK.out.below hG HK.out.lt).twelve
              go_simp
            · have q16 := hW 16 (by decide)
              simp only at q16
              rw [q16]
              clear hW
              refine stepAt_value rfl rfl rfl (.int .i64 slot) w8 ?_ ⟨rfl, Below.refl _ _⟩
              go_simp
            · have q16 := hW 16 (by decide)
              simp only at q16
              have q17 := hW 17 (by decide)
              simp only at q17
              have q18 := hW 18 (by decide)
              simp only at q18
              rw [q16, q17, q18]
              clear hW
              refine stepAt_call rfl rfl rfl 18 #[.agg #[.slice nao nlen ncap, .int .i64 n1, .int .i64 (C : Int), .int .i64 n3, .int .i64 n4, .int .i64 n5, .int .i64 n6, .int .i64 n7, .int .i64 n8, .int .i64 n9, .int .i64 n10, .int .i64 n11], .int .i64 slot] (by go_simp) ((proposer_any w8 (HT.out.below (HB.out.trans (hG.mono HB.out.size)) HT.out.size) nao nlen ncap n1 C n3 n4 n5 n6 n7 n8 n9 n10 n11 slot C rfl hg2 (by omega) hC1 hC2).mono fun e w' ⟨h1, h2⟩ => ⟨_, h1, by rw [HLL.out, HF.out], h2⟩)
            · have q16 := hW 16 (by decide)
              simp only at q16
              rw [q16]
              clear hW
              refine stepAt_value rfl rfl rfl (.int .i64 (-1)) w8 ?_ ⟨rfl, Below.refl _ _⟩
              go_simp
            · have q16 := hW 16 (by decide)
              simp only at q16
              have q19 := hW 19 (by decide)
              simp only at q19
              have q20 := hW 20 (by decide)
              simp only at q20
              rw [q16, q19, q20]
              clear hW
              refine stepAt_value rfl rfl rfl (.bool true) w8 ?_ ⟨rfl, Below.refl _ _⟩
              go_simp
            · have q16 := hW 16 (by decide)
              simp only at q16
              have q21 := hW 21 (by decide)
              simp only at q21
              rw [q16, q21]
              clear hW
              refine stepAt_value rfl rfl rfl (.bool true) w8 ?_ ⟨rfl, Below.refl _ _⟩
              go_simp
            · have q22 := hW 22 (by decide)
              simp only at q22
              rw [q22]
              clear hW
              refine stepAt_value rfl rfl rfl (.bool true) w8 ?_ ⟨rfl, Below.refl _ _⟩
              go_simp
            · have q23 := hW 23 (by decide)
              simp only at q23
              rw [q23]
              clear hW
              refine stepAt_value rfl rfl rfl (.bool FT) w8 ?_ ⟨rfl, Below.refl _ _⟩
              go_simp
            · have q23 := hW 23 (by decide)
              simp only at q23
              rw [q23]
              clear hW
              refine stepAt_value rfl rfl rfl (.bool FT) w8 ?_ ⟨rfl, Below.refl _ _⟩
              go_simp
            · have q23 := hW 23 (by decide)
              simp only at q23
              have q24 := hW 24 (by decide)
              simp only at q24
              have q25 := hW 25 (by decide)
              simp only at q25
              rw [q23, q24, q25]
              clear hW
              refine stepAt_value rfl rfl rfl (.bool true) w8 ?_ ⟨rfl, Below.refl _ _⟩
              go_simp
            · have q23 := hW 23 (by decide)
              simp only at q23
              have q26 := hW 26 (by decide)
              simp only at q26
              rw [q23, q26]
              clear hW
              refine stepAt_value rfl rfl rfl (.bool true) w8 ?_ ⟨rfl, Below.refl _ _⟩
              go_simp
            · have q27 := hW 27 (by decide)
              simp only at q27
              rw [q27]
              clear hW
              refine stepAt_value rfl rfl rfl (.bool true) w8 ?_ ⟨rfl, Below.refl _ _⟩
              go_simp
            · have q28 := hW 28 (by decide)
              simp only at q28
              rw [q28]
              clear hW
              refine stepAt_value rfl rfl rfl (vP) w8 ?_ ⟨rfl, Below.refl _ _⟩
              go_simp
            · have q28 := hW 28 (by decide)
              simp only at q28
              rw [q28]
              clear hW
              refine stepAt_value rfl rfl rfl (vQ) w8 ?_ ⟨rfl, Below.refl _ _⟩
              go_simp
            · have q28 := hW 28 (by decide)
              simp only at q28
              have q29 := hW 29 (by decide)
              simp only at q29
              have q30 := hW 30 (by decide)
              simp only at q30
              rw [q28, q29, q30]
              clear hW
              refine stepAt_call rfl rfl rfl 14 #[vP, vQ] (by go_simp) ((same_row (HRP.out.keep hG) (HRQ.out.keep hG) HLen2.out).mono fun e w' ⟨h1, h2⟩ => ⟨_, h1, by simp, h2⟩)
            · have q28 := hW 28 (by decide)
              simp only at q28
              have q31 := hW 31 (by decide)
              simp only at q31
              rw [q28, q31]
              clear hW
              refine stepAt_value rfl rfl rfl (.bool true) w8 ?_ ⟨rfl, Below.refl _ _⟩
              go_simp
          case fin =>
            intro vals w8 hG hV
            have q32 := hV 32 (by omega)
            simp only at q32
            simp only [List.take_succ_cons, List.take_zero, List.drop_succ_cons, List.drop_zero, putAll, Act.put, List.setIfInBounds_toArray, List.set_cons_zero, List.set_cons_succ, Nat.reduceAdd]
            rw [q32]
            have HBF := Lib.hid (HB.out.trans (hG.mono HB.out.size))
            clear hV q32
            go_wp2_with fail
            go_ret
            exact ⟨rfl, HBF.out⟩
        | cons x r =>
          have HF := Lib.hid (show firstOf (x :: r) = (x : Int) from rfl)
          have HRW := Lib.hid (show Row w4 (.slice ao (x :: r).length cap) (x :: r) from ⟨ao, cap, b, off, rfl, hl⟩)
          obtain ⟨ha, c0⟩ := hl.int (Below.refl _ _) (j := 0) (x := x) rfl
          rw [Nat.add_zero] at c0
          subst ha
          clear hl
          obtain ⟨m, hm⟩ : ∃ m, m = (x :: r).length := ⟨_, rfl⟩
          have hm0 : (0 : Int) < (m : Int) := by rw [hm, List.length_cons]; omega
          rw [← hm] at HRW ⊢
          clear hm
          go_wp2_with fail
          generalize Value.slice (some ⟨b, off, none⟩) m cap = vW at HRW ⊢
          clear c0
          refine (pick_any w4 (HT.out.below HB4.out HT.out.size) nao nlen ncap n1 C n3 n4 n5 n6 n7 n8 n9 n10 n11 slot C rfl hg2 (by omega) hC1 hC2 rao rlen rcap rb roff row HR.out ((HRS.out.keep HB4.out).more HB4.out.size)).mono ?_
          rintro e w5 ⟨vP, rfl, hhP, hbP⟩
          rw [HLL.out, HPK.out] at hhP
          rw [HLL.out, HFT.out]
          have HRP0 := Lib.hid hhP.row
          have HRW1 := Lib.hid (HRW.out.keep hbP)
          have HK5 := Lib.hid (HK4.out.below hbP HK4.out.lt)
          have HB5 := Lib.hid (HB4.out.trans (hbP.mono HB4.out.size))
          clear q0 q1 q2 q3 q4 q5 q6 q7 q8 q9 q10 q11 hbP hhP HK4 HB4 HRW
          obtain ⟨q0, q1, q2, q3, q4, q5, q6, q7, q8, q9, q10, q11⟩ := HK5.out.twelve
          go_wp2_with fail
          refine (refPick_any w5 nao nlen ncap n1 C n3 n4 n5 n6 n7 n8 n9 n10 n11 slot C rfl hg2 (by omega) hC1 hC2 rao rlen rcap rb roff row HR.out ((HRS.out.keep HB5.out).more HB5.out.size)).mono ?_
          rintro e w6 ⟨vQ, rfl, hhQ, hbQ⟩
          rw [HLL.out, HPK.out] at hhQ
          rw [HLL.out, HFT.out]
          have HRQ := Lib.hid hhQ.row
          have HRW := Lib.hid (HRW1.out.keep hbQ)
          have HRP := Lib.hid (HRP0.out.keep hbQ)
          have HK := Lib.hid (HK5.out.below hbQ HK5.out.lt)
          have HB := Lib.hid (HB5.out.trans (hbQ.mono HB5.out.size))
          clear q0 q1 q2 q3 q4 q5 q6 q7 q8 q9 q10 q11 hbQ hhQ HK5 HB5 HRW1 HRP0
          go_wp2_with fail
          refine wp_region_free (P := Tryd.prog) 33 (fun w' => Below w6.heap.size w6 w') (fun oq v w' => match oq with
              | 0 => v = .agg #[.slice nao nlen ncap, .int .i64 n1, .int .i64 (C : Int), .int .i64 n3, .int .i64 n4, .int .i64 n5, .int .i64 n6, .int .i64 n7, .int .i64 n8, .int .i64 n9, .int .i64 n10, .int .i64 n11]
              | 1 => v = .int .i64 slot
              | 2 => Row w' v (x :: r)
              | 3 => v = vW
              | 4 => v = .bool true
              | 5 => v = .bool true
              | 6 => v = .agg #[.slice nao nlen ncap, .int .i64 n1, .int .i64 (C : Int), .int .i64 n3, .int .i64 n4, .int .i64 n5, .int .i64 n6, .int .i64 n7, .int .i64 n8, .int .i64 n9, .int .i64 n10, .int .i64 n11]
              | 7 => v = .int .i64 slot
              | 8 => v = .int .i64 who
              | 9 => v = .int .i64 PL
              | 10 => v = .agg #[.slice nao nlen ncap, .int .i64 n1, .int .i64 (C : Int), .int .i64 n3, .int .i64 n4, .int .i64 n5, .int .i64 n6, .int .i64 n7, .int .i64 n8, .int .i64 n9, .int .i64 n10, .int .i64 n11]
              | 11 => v = .int .i64 slot
              | 12 => v = .int .i64 who
              | 13 => v = .int .i64 PL
              | 14 => v = .bool true
              | 15 => v = .bool true
              | 16 => v = .bool true
              | 17 => v = .agg #[.slice nao nlen ncap, .int .i64 n1, .int .i64 (C : Int), .int .i64 n3, .int .i64 n4, .int .i64 n5, .int .i64 n6, .int .i64 n7, .int .i64 n8, .int .i64 n9, .int .i64 n10, .int .i64 n11]
              | 18 => v = .int .i64 slot
              | 19 => v = .int .i64 (x : Int)
              | 20 => v = .int .i64 (x : Int)
              | 21 => v = .bool true
              | 22 => v = .bool true
              | 23 => v = .bool true
              | 24 => v = .bool FT
              | 25 => v = .bool FT
              | 26 => v = .bool true
              | 27 => v = .bool true
              | 28 => v = .bool true
              | 29 => v = vP
              | 30 => v = vQ
              | 31 => v = .bool true
              | 32 => v = .bool true
              | _ => True) (by kernel_rfl) (by kernel_rfl) (Below.refl _ _).drew ?gb ?vb ?steps ?fin
          case gb => exact fun a b h1 h2 => h1.trans (h2.mono h1.size)
          case vb =>
            intro oq v a b h hb
            match oq with
            | 0 => exact h
            | 1 => exact h
            | 2 => exact h.keep hb
            | 3 => exact h
            | 4 => exact h
            | 5 => exact h
            | 6 => exact h
            | 7 => exact h
            | 8 => exact h
            | 9 => exact h
            | 10 => exact h
            | 11 => exact h
            | 12 => exact h
            | 13 => exact h
            | 14 => exact h
            | 15 => exact h
            | 16 => exact h
            | 17 => exact h
            | 18 => exact h
            | 19 => exact h
            | 20 => exact h
            | 21 => exact h
            | 22 => exact h
            | 23 => exact h
            | 24 => exact h
            | 25 => exact h
            | 26 => exact h
            | 27 => exact h
            | 28 => exact h
            | 29 => exact h
            | 30 => exact h
            | 31 => exact h
            | 32 => exact h
            | _ + 33 => trivial
          case steps =>
            intro vals
            simp only [List.take_succ_cons, List.take_zero, freeSteps, Act.put, List.setIfInBounds_toArray, List.set_cons_zero, List.set_cons_succ, Nat.reduceAdd]
            refine ⟨fun w8 hG hW => ?_, fun w8 hG hW => ?_, fun w8 hG hW => ?_, fun w8 hG hW => ?_, fun w8 hG hW => ?_, fun w8 hG hW => ?_, fun w8 hG hW => ?_, fun w8 hG hW => ?_, fun w8 hG hW => ?_, fun w8 hG hW => ?_, fun w8 hG hW => ?_, fun w8 hG hW => ?_, fun w8 hG hW => ?_, fun w8 hG hW => ?_, fun w8 hG hW => ?_, fun w8 hG hW => ?_, fun w8 hG hW => ?_, fun w8 hG hW => ?_, fun w8 hG hW => ?_, fun w8 hG hW => ?_, fun w8 hG hW => ?_, fun w8 hG hW => ?_, fun w8 hG hW => ?_, fun w8 hG hW => ?_, fun w8 hG hW => ?_, fun w8 hG hW => ?_, fun w8 hG hW => ?_, fun w8 hG hW => ?_, fun w8 hG hW => ?_, fun w8 hG hW => ?_, fun w8 hG hW => ?_, fun w8 hG hW => ?_, fun w8 hG hW => ?_, trivial⟩
            · clear hW
              refine stepAt_value rfl rfl rfl (.agg #[.slice nao nlen ncap, .int .i64 n1, .int .i64 (C : Int), .int .i64 n3, .int .i64 n4, .int .i64 n5, .int .i64 n6, .int .i64 n7, .int .i64 n8, .int .i64 n9, .int .i64 n10, .int .i64 n11]) w8 ?_ ⟨rfl, Below.refl _ _⟩
              obtain ⟨q0, q1, q2, q3, q4, q5, q6, q7, q8, q9, q10, q11⟩ := (HK.out.below hG HK.out.lt).twelve
              go_simp
            · clear hW
              refine stepAt_value rfl rfl rfl (.int .i64 slot) w8 ?_ ⟨rfl, Below.refl _ _⟩
              go_simp
            · have q0 := hW 0 (by decide)
              simp only at q0
              have q1 := hW 1 (by decide)
              simp only at q1
              rw [q0, q1]
              clear hW
              refine stepAt_call rfl rfl rfl 15 #[.agg #[.slice nao nlen ncap, .int .i64 n1, .int .i64 (C : Int), .int .i64 n3, .int .i64 n4, .int .i64 n5, .int .i64 n6, .int .i64 n7, .int .i64 n8, .int .i64 n9, .int .i64 n10, .int .i64 n11], .int .i64 slot] (by go_simp) ((members_any w8 (HT.out.below (HB.out.trans (hG.mono HB.out.size)) HT.out.size) nao nlen ncap n1 C n3 n4 n5 n6 n7 n8 n9 n10 n11 slot C rfl hg2 (by omega) hC1 hC2).mono fun e w' ⟨v, h1, h2, h3⟩ => ⟨_, h1, by have h4 := h2.row; rw [HLL.out] at h4; exact h4, h3⟩)
            · clear hW
              refine stepAt_value rfl rfl rfl (vW) w8 ?_ ⟨rfl, Below.refl _ _⟩
              go_simp
            · have HX2 : Row w8 (vals 2) (x :: r) := hW 2 (by decide)
              have q3 := hW 3 (by decide)
              simp only at q3
              rw [q3]
              clear hW
              generalize vals 2 = u2 at HX2 ⊢
              refine stepAt_call rfl rfl rfl 14 #[u2, vW] (by go_simp) ((same_row HX2 (HRW.out.keep hG) HLen.out).mono fun e w' ⟨h1, h2⟩ => ⟨_, h1, by simp, h2⟩)
            · have q4 := hW 4 (by decide)
              simp only at q4
              rw [q4]
              clear hW
              refine stepAt_value rfl rfl rfl (.bool true) w8 ?_ ⟨rfl, Below.refl _ _⟩
              go_simp
            · have q5 := hW 5 (by decide)
              simp only at q5
              rw [q5]
              clear hW
              refine stepAt_value rfl rfl rfl (.agg #[.slice nao nlen ncap, .int .i64 n1, .int .i64 (C : Int), .int .i64 n3, .int .i64 n4, .int .i64 n5, .int .i64 n6, .int .i64 n7, .int .i64 n8, .int .i64 n9, .int .i64 n10, .int .i64 n11]) w8 ?_ ⟨rfl, Below.refl _ _⟩
              obtain ⟨q0, q1, q2, q3, q4, q5, q6, q7, q8, q9, q10, q11⟩ := (HK.out.below hG HK.out.lt).twelve
              go_simp
            · have q5 := hW 5 (by decide)
              simp only at q5
              rw [q5]
              clear hW
              refine stepAt_value rfl rfl rfl (.int .i64 slot) w8 ?_ ⟨rfl, Below.refl _ _⟩
              go_simp
            · have q5 := hW 5 (by decide)
              simp only at q5
              rw [q5]
              clear hW
              refine stepAt_value rfl rfl rfl (.int .i64 who) w8 ?_ ⟨rfl, Below.refl _ _⟩
              go_simp
            · have q5 := hW 5 (by decide)
              simp only at q5
              have q6 := hW 6 (by decide)
              simp only at q6
              have q7 := hW 7 (by decide)
              simp only at q7
              have q8 := hW 8 (by decide)
              simp only at q8
              rw [q5, q6, q7, q8]
              clear hW
              refine stepAt_call rfl rfl rfl 16 #[.agg #[.slice nao nlen ncap, .int .i64 n1, .int .i64 (C : Int), .int .i64 n3, .int .i64 n4, .int .i64 n5, .int .i64 n6, .int .i64 n7, .int .i64 n8, .int .i64 n9, .int .i64 n10, .int .i64 n11], .int .i64 slot, .int .i64 who] (by go_simp) ((place_any w8 (HT.out.below (HB.out.trans (hG.mono HB.out.size)) HT.out.size) nao nlen ncap n1 C n3 n4 n5 n6 n7 n8 n9 n10 n11 slot who C rfl hg2 (by omega) hC1 hC2).mono fun e w' ⟨h1, h2⟩ => ⟨_, h1, by rw [HLL.out, HPL.out], h2⟩)
            · have q5 := hW 5 (by decide)
              simp only at q5
              rw [q5]
              clear hW
              refine stepAt_value rfl rfl rfl (.agg #[.slice nao nlen ncap, .int .i64 n1, .int .i64 (C : Int), .int .i64 n3, .int .i64 n4, .int .i64 n5, .int .i64 n6, .int .i64 n7, .int .i64 n8, .int .i64 n9, .int .i64 n10, .int .i64 n11]) w8 ?_ ⟨rfl, Below.refl _ _⟩
              obtain ⟨q0, q1, q2, q3, q4, q5, q6, q7, q8, q9, q10, q11⟩ := (HK.out.below hG HK.out.lt).twelve
              go_simp
            · have q5 := hW 5 (by decide)
              simp only at q5
              rw [q5]
              clear hW
              refine stepAt_value rfl rfl rfl (.int .i64 slot) w8 ?_ ⟨rfl, Below.refl _ _⟩
              go_simp
            · have q5 := hW 5 (by decide)
              simp only at q5
              rw [q5]
              clear hW
              refine stepAt_value rfl rfl rfl (.int .i64 who) w8 ?_ ⟨rfl, Below.refl _ _⟩
              go_simp
            · have q5 := hW 5 (by decide)
              simp only at q5
              have q10 := hW 10 (by decide)
              simp only at q10
              have q11 := hW 11 (by decide)
              simp only at q11
              have q12 := hW 12 (by decide)
              simp only at q12
              rw [q5, q10, q11, q12]
              clear hW
              refine stepAt_call rfl rfl rfl 17 #[.agg #[.slice nao nlen ncap, .int .i64 n1, .int .i64 (C : Int), .int .i64 n3, .int .i64 n4, .int .i64 n5, .int .i64 n6, .int .i64 n7, .int .i64 n8, .int .i64 n9, .int .i64 n10, .int .i64 n11], .int .i64 slot, .int .i64 who] (by go_simp) ((refPlace_any w8 nao nlen ncap n1 C n3 n4 n5 n6 n7 n8 n9 n10 n11 slot who C rfl hg2 (by omega) hC1 hC2).mono fun e w' ⟨h1, h2⟩ => ⟨_, h1, by rw [HLL.out, HPL.out], h2⟩)
            · have q5 := hW 5 (by decide)
              simp only at q5
              have q9 := hW 9 (by decide)
              simp only at q9
              have q13 := hW 13 (by decide)
              simp only at q13
              rw [q5, q9, q13]
              clear hW
              refine stepAt_value rfl rfl rfl (.bool true) w8 ?_ ⟨rfl, Below.refl _ _⟩
              go_simp
            · have q5 := hW 5 (by decide)
              simp only at q5
              have q14 := hW 14 (by decide)
              simp only at q14
              rw [q5, q14]
              clear hW
              refine stepAt_value rfl rfl rfl (.bool true) w8 ?_ ⟨rfl, Below.refl _ _⟩
              go_simp
            · have q15 := hW 15 (by decide)
              simp only at q15
              rw [q15]
              clear hW
              refine stepAt_value rfl rfl rfl (.bool true) w8 ?_ ⟨rfl, Below.refl _ _⟩
              go_simp
            · have q16 := hW 16 (by decide)
              simp only at q16
              rw [q16]
              clear hW
              refine stepAt_value rfl rfl rfl (.agg #[.slice nao nlen ncap, .int .i64 n1, .int .i64 (C : Int), .int .i64 n3, .int .i64 n4, .int .i64 n5, .int .i64 n6, .int .i64 n7, .int .i64 n8, .int .i64 n9, .int .i64 n10, .int .i64 n11]) w8 ?_ ⟨rfl, Below.refl _ _⟩
              obtain ⟨q0, q1, q2, q3, q4, q5, q6, q7, q8, q9, q10, q11⟩ := (HK.out.below hG HK.out.lt).twelve
              go_simp
            · have q16 := hW 16 (by decide)
              simp only at q16
              rw [q16]
              clear hW
              refine stepAt_value rfl rfl rfl (.int .i64 slot) w8 ?_ ⟨rfl, Below.refl _ _⟩
              go_simp
            · have q16 := hW 16 (by decide)
              simp only at q16
              have q17 := hW 17 (by decide)
              simp only at q17
              have q18 := hW 18 (by decide)
              simp only at q18
              rw [q16, q17, q18]
              clear hW
              refine stepAt_call rfl rfl rfl 18 #[.agg #[.slice nao nlen ncap, .int .i64 n1, .int .i64 (C : Int), .int .i64 n3, .int .i64 n4, .int .i64 n5, .int .i64 n6, .int .i64 n7, .int .i64 n8, .int .i64 n9, .int .i64 n10, .int .i64 n11], .int .i64 slot] (by go_simp) ((proposer_any w8 (HT.out.below (HB.out.trans (hG.mono HB.out.size)) HT.out.size) nao nlen ncap n1 C n3 n4 n5 n6 n7 n8 n9 n10 n11 slot C rfl hg2 (by omega) hC1 hC2).mono fun e w' ⟨h1, h2⟩ => ⟨_, h1, by rw [HLL.out, HF.out], h2⟩)
            · have q16 := hW 16 (by decide)
              simp only at q16
              rw [q16]
              clear hW
              refine stepAt_value rfl rfl rfl (.int .i64 (x : Int)) w8 ?_ ⟨rfl, Below.refl _ _⟩
              go_simp
            · have q16 := hW 16 (by decide)
              simp only at q16
              have q19 := hW 19 (by decide)
              simp only at q19
              have q20 := hW 20 (by decide)
              simp only at q20
              rw [q16, q19, q20]
              clear hW
              refine stepAt_value rfl rfl rfl (.bool true) w8 ?_ ⟨rfl, Below.refl _ _⟩
              go_simp
            · have q16 := hW 16 (by decide)
              simp only at q16
              have q21 := hW 21 (by decide)
              simp only at q21
              rw [q16, q21]
              clear hW
              refine stepAt_value rfl rfl rfl (.bool true) w8 ?_ ⟨rfl, Below.refl _ _⟩
              go_simp
            · have q22 := hW 22 (by decide)
              simp only at q22
              rw [q22]
              clear hW
              refine stepAt_value rfl rfl rfl (.bool true) w8 ?_ ⟨rfl, Below.refl _ _⟩
              go_simp
            · have q23 := hW 23 (by decide)
              simp only at q23
              rw [q23]
              clear hW
              refine stepAt_value rfl rfl rfl (.bool FT) w8 ?_ ⟨rfl, Below.refl _ _⟩
              go_simp
            · have q23 := hW 23 (by decide)
              simp only at q23
              rw [q23]
              clear hW
              refine stepAt_value rfl rfl rfl (.bool FT) w8 ?_ ⟨rfl, Below.refl _ _⟩
              go_simp
            · have q23 := hW 23 (by decide)
              simp only at q23
              have q24 := hW 24 (by decide)
              simp only at q24
              have q25 := hW 25 (by decide)
              simp only at q25
              rw [q23, q24, q25]
              clear hW
              refine stepAt_value rfl rfl rfl (.bool true) w8 ?_ ⟨rfl, Below.refl _ _⟩
              go_simp
            · have q23 := hW 23 (by decide)
              simp only at q23
              have q26 := hW 26 (by decide)
              simp only at q26
              rw [q23, q26]
              clear hW
              refine stepAt_value rfl rfl rfl (.bool true) w8 ?_ ⟨rfl, Below.refl _ _⟩
              go_simp
            · have q27 := hW 27 (by decide)
              simp only at q27
              rw [q27]
              clear hW
              refine stepAt_value rfl rfl rfl (.bool true) w8 ?_ ⟨rfl, Below.refl _ _⟩
              go_simp
            · have q28 := hW 28 (by decide)
              simp only at q28
              rw [q28]
              clear hW
              refine stepAt_value rfl rfl rfl (vP) w8 ?_ ⟨rfl, Below.refl _ _⟩
              go_simp
            · have q28 := hW 28 (by decide)
              simp only at q28
              rw [q28]
              clear hW
              refine stepAt_value rfl rfl rfl (vQ) w8 ?_ ⟨rfl, Below.refl _ _⟩
              go_simp
            · have q28 := hW 28 (by decide)
              simp only at q28
              have q29 := hW 29 (by decide)
              simp only at q29
              have q30 := hW 30 (by decide)
              simp only at q30
              rw [q28, q29, q30]
              clear hW
              refine stepAt_call rfl rfl rfl 14 #[vP, vQ] (by go_simp) ((same_row (HRP.out.keep hG) (HRQ.out.keep hG) HLen2.out).mono fun e w' ⟨h1, h2⟩ => ⟨_, h1, by simp, h2⟩)
            · have q28 := hW 28 (by decide)
              simp only at q28
              have q31 := hW 31 (by decide)
              simp only at q31
              rw [q28, q31]
              clear hW
              refine stepAt_value rfl rfl rfl (.bool true) w8 ?_ ⟨rfl, Below.refl _ _⟩
              go_simp
          case fin =>
            intro vals w8 hG hV
            have q32 := hV 32 (by omega)
            simp only at q32
            simp only [List.take_succ_cons, List.take_zero, List.drop_succ_cons, List.drop_zero, putAll, Act.put, List.setIfInBounds_toArray, List.set_cons_zero, List.set_cons_succ, Nat.reduceAdd]
            rw [q32]
            have HBF := Lib.hid (HB.out.trans (hG.mono HB.out.size))
            clear hV q32
            go_wp2_with fail
            go_ret
            exact ⟨rfl, HBF.out⟩
end Go.Proofs.YtginfmbcljlneaaDoor
