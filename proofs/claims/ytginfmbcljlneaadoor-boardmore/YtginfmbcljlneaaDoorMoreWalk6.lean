/-
  The walk of BoardMore.
-/
import Derived.Test.YtginfmbcljlneaaDoorRow6
namespace Go.Proofs.YtginfmbcljlneaaDoor
open Go.RowKit
set_option maxRecDepth 100000

/-- A lesser committee is the beginning of a greater one. -/
theorem comm_less (slot : Int) (n c e : Nat) (h : e ≤ c) : comm slot n e = (comm slot n c).take e := by
  rw [comm, comm]
  split
  · rw [List.take_take, Nat.min_eq_left h]
  · simp
theorem first_take (l : List Nat) (e : Nat) (h : 1 ≤ e) : firstOf (l.take e) = firstOf l := by
  obtain ⟨k, rfl⟩ : ∃ k, e = k + 1 := ⟨e - 1, by omega⟩
  cases l <;> rfl
/-- .. and the slice has room for it. -/
def RowC (w : World) (v : Value) (L : List Nat) : Prop := ∃ ao cap b off, v = .slice ao L.length cap ∧ L.length ≤ cap ∧ Lies w w.heap.size ao b off (iv L)
theorem Held.rowC {w : World} {base : Nat} {v : Value} {L : List Nat} (h : Held w base v (iv L)) : RowC w v L := by
  obtain ⟨n, cap, g, off, ao, rfl, h⟩ := h
  have hl := h.len
  rw [iv_length] at hl
  subst hl
  have hle := h.le
  exact ⟨ao, cap, g, off, rfl, hle, fun h0 => h.addr (by rw [iv_length] at h0; omega), fun h0 => h.lt (by rw [iv_length] at h0; omega), h.cells⟩
theorem RowC.keep {w w' : World} {v : Value} {L : List Nat} (h : RowC w v L) (hb : Below w.heap.size w w') : RowC w' v L := by
  obtain ⟨ao, cap, b, off, rfl, hc, hl⟩ := h
  exact ⟨ao, cap, b, off, rfl, hc, hl.below hb⟩
theorem comm_none (slot : Int) (n c : Nat) (h : ¬ (0 ≤ slot ∧ slot ≤ 1073741824)) : comm slot n c = [] := by rw [comm, if_neg h]

set_option maxHeartbeats 8000000 in
theorem boardMore_any (w : World) (hT : Tabs w) (nao : Option Addr) (nlen ncap nb noff : Nat) (n1 n2 n3 n4 n5 n6 n7 n8 n9 n10 n11 : Int) (nvs : List (Int × ByteArray)) (nhl : nvs.length = nlen) (nhst : Stakes nvs) (nhs : Lies w w.heap.size nao nb noff (vc nvs)) (slot less : Int) :
    Calls Tryd.prog 5 #[.agg #[.slice nao nlen ncap, .int .i64 n1, .int .i64 n2, .int .i64 n3, .int .i64 n4, .int .i64 n5, .int .i64 n6, .int .i64 n7, .int .i64 n8, .int .i64 n9, .int .i64 n10, .int .i64 n11], .int .i64 slot, .int .i64 less] w fun e w' => e = .returned (.bool true) ∧ Below w.heap.size w w' := by
  have HT := Lib.hid hT
  have HS := Lib.hid nhs
  have HL := Lib.hid nhl
  have HST := Lib.hid nhst
  have HB0 := Lib.hid ((Below.refl w.heap.size w).alloc (Nat.le_refl _) (.cells #[.slice nao nlen ncap, .int .i64 n1, .int .i64 n2, .int .i64 n3, .int .i64 n4, .int .i64 n5, .int .i64 n6, .int .i64 n7, .int .i64 n8, .int .i64 n9, .int .i64 n10, .int .i64 n11] 24))
  have HK0 := Lib.hid (Blk.new w 24 #[.slice nao nlen ncap, .int .i64 n1, .int .i64 n2, .int .i64 n3, .int .i64 n4, .int .i64 n5, .int .i64 n6, .int .i64 n7, .int .i64 n8, .int .i64 n9, .int .i64 n10, .int .i64 n11])
  clear nhs nhl nhst hT
  go_enter Tryd.func5, Tryd.ntmps5
  go_wp2_with fail
  generalize w.alloc (.cells #[.slice nao nlen ncap, .int .i64 n1, .int .i64 n2, .int .i64 n3, .int .i64 n4, .int .i64 n5, .int .i64 n6, .int .i64 n7, .int .i64 n8, .int .i64 n9, .int .i64 n10, .int .i64 n11] 24) = w0 at HB0 HK0 ⊢
  refine (alive_any w0 (HT.out.below HB0.out HT.out.size)).mono ?_
  rintro e w1 ⟨rfl, hb1⟩
  have HK := Lib.hid (HK0.out.below hb1 HK0.out.lt)
  have HB := Lib.hid (HB0.out.trans (hb1.mono HB0.out.size))
  generalize w.heap.size = A at HK ⊢
  clear hb1 HK0 HB0
  obtain ⟨q0, q1, q2, q3, q4, q5, q6, q7, q8, q9, q10, q11⟩ := HK.out.twelve
  go_wp2_with fail
  refine (tooMuch_any w1 nao nlen ncap nb noff n1 n2 n3 n4 n5 n6 n7 n8 n9 n10 n11 nvs HL.out ((HS.out.keep HB.out).more HB.out.size)).mono ?_
  rintro e w2 ⟨rfl, hb2⟩
  have HK2 := Lib.hid (HK.out.below hb2 HK.out.lt)
  have HB2 := Lib.hid (HB.out.trans (hb2.mono HB.out.size))
  clear q0 q1 q2 q3 q4 q5 q6 q7 q8 q9 q10 q11 hb2 HK HB
  cases hgr : tooMuch nvs with
  | true =>
    clear hgr
    go_wp2_with fail
    go_ret
    exact ⟨rfl, HB2.out⟩
  | false =>
    have hlen : nlen ≤ 100 := by rw [← HL.out]; simp [tooMuch] at hgr; omega
    clear hgr
    obtain ⟨q0, q1, q2, q3, q4, q5, q6, q7, q8, q9, q10, q11⟩ := HK2.out.twelve
    go_wp2_with fail
    refine (refGood_any w2 nao nlen ncap nb noff n1 n2 n3 n4 n5 n6 n7 n8 n9 n10 n11 nvs HL.out (by omega) HST.out ((HS.out.keep HB2.out).more HB2.out.size)).mono ?_
    rintro e w3 ⟨rfl, hb3⟩
    have HK3 := Lib.hid (HK2.out.below hb3 HK2.out.lt)
    have HB3 := Lib.hid (HB2.out.trans (hb3.mono HB2.out.size))
    clear q0 q1 q2 q3 q4 q5 q6 q7 q8 q9 q10 q11 hb3 HK2 HB2
    cases hgd : goodB (nums nlen n1 n2 n3 n4 n5 n6 n7 n8 n9 n10 n11) nvs with
    | false =>
      clear hgd
      go_wp2_with fail
      go_ret
      exact ⟨rfl, HB3.out⟩
    | true =>
      obtain ⟨hg1, hg2⟩ := good_len hgd
      obtain ⟨hk1, hk2, hk3⟩ := good_comm hgd
      obtain ⟨C, rfl⟩ : ∃ c : Nat, n2 = c := ⟨n2.toNat, by omega⟩
      have hC1 : 1 ≤ C := by omega
      have hC2 : C ≤ nlen := by omega
      have hC3 : C ≤ 16 := by omega
      clear hgd hk1 hk2 hk3
      by_cases hs0 : less < 0
      · go_wp2_with fail
        go_ret
        exact ⟨rfl, HB3.out⟩
      · obtain ⟨q0, q1, q2, q3, q4, q5, q6, q7, q8, q9, q10, q11⟩ := HK3.out.twelve
        by_cases hs1 : (C : Int) ≤ less
        · go_wp2_with fail
          go_ret
          exact ⟨rfl, HB3.out⟩
        · obtain ⟨E, hE⟩ : ∃ E : Nat, less = ((C - E : Nat) : Int) ∧ 1 ≤ E ∧ E ≤ C := ⟨C - less.toNat, by omega, by omega, by omega⟩
          obtain ⟨hE0, hE1, hE2⟩ := hE
          have hw : IntKind.i64.wrap ((C : Int) - less) = (E : Int) := by rw [IntKind.wrap_i64]; omega
          have z2 := (HK3.out.alloc (.cells #[.slice nao nlen ncap, .int .i64 n1, .int .i64 (C : Int), .int .i64 n3, .int .i64 n4, .int .i64 n5, .int .i64 n6, .int .i64 n7, .int .i64 n8, .int .i64 n9, .int .i64 n10, .int .i64 n11] 24)).cell 2
          simp only [List.getElem?_cons_zero, List.getElem?_cons_succ] at z2
          have HKA := Lib.hid (HK3.out.alloc (.cells #[.slice nao nlen ncap, .int .i64 n1, .int .i64 (E : Int), .int .i64 n3, .int .i64 n4, .int .i64 n5, .int .i64 n6, .int .i64 n7, .int .i64 n8, .int .i64 n9, .int .i64 n10, .int .i64 n11] 24))
          have HDA := Lib.hid (Blk.new w3 24 #[.slice nao nlen ncap, .int .i64 n1, .int .i64 (E : Int), .int .i64 n3, .int .i64 n4, .int .i64 n5, .int .i64 n6, .int .i64 n7, .int .i64 n8, .int .i64 n9, .int .i64 n10, .int .i64 n11])
          have HBA := Lib.hid (HB3.out.alloc HB3.out.size (.cells #[.slice nao nlen ncap, .int .i64 n1, .int .i64 (E : Int), .int .i64 n3, .int .i64 n4, .int .i64 n5, .int .i64 n6, .int .i64 n7, .int .i64 n8, .int .i64 n9, .int .i64 n10, .int .i64 n11] 24))
          clear hE0
          go_wp2_with fail
          generalize w3.alloc (.cells #[.slice nao nlen ncap, .int .i64 n1, .int .i64 (E : Int), .int .i64 n3, .int .i64 n4, .int .i64 n5, .int .i64 n6, .int .i64 n7, .int .i64 n8, .int .i64 n9, .int .i64 n10, .int .i64 n11] 24) = w4 at HKA HDA HBA ⊢
          generalize w3.heap.size = D at HDA ⊢
          have HK := HKA
          have HD := HDA
          have HB := HBA
          clear q0 q1 q2 q3 q4 q5 q6 q7 q8 q9 q10 q11 z2 HK3 HB3 HKA HDA HBA hw
          obtain ⟨LA, hLA⟩ : ∃ L, L = comm slot nlen C := ⟨_, rfl⟩
          obtain ⟨LB, hLB⟩ : ∃ L, L = comm slot nlen E := ⟨_, rfl⟩
          have HLA := Lib.hid hLA.symm
          have HLB := Lib.hid hLB.symm
          obtain ⟨F, hF⟩ : ∃ F, F = firstOf LA := ⟨_, rfl⟩
          have hAB : LB = LA.take E := by rw [hLA, hLB]; exact comm_less slot nlen C E hE2
          have HFLA := Lib.hid hF.symm
          have HFLB := Lib.hid (show firstOf LB = F by rw [hF, hAB]; exact first_take LA E hE1)
          have HAB := Lib.hid hAB
          have HIN := Lib.hid (fun h : 0 ≤ slot ∧ slot ≤ 1073741824 => (⟨by rw [hLA]; exact comm_length slot nlen C h hC2, by rw [hLB]; exact comm_length slot nlen E h (by omega)⟩ : LA.length = C ∧ LB.length = E))
          have HOUT := Lib.hid (fun h : ¬ (0 ≤ slot ∧ slot ≤ 1073741824) => (⟨by rw [hLA]; exact comm_none slot nlen C h, by rw [hLB]; exact comm_none slot nlen E h⟩ : LA = [] ∧ LB = []))
          clear hLA hLB hF hAB
          refine wp_region_free (P := Tryd.prog) 6 (fun w' => Below w4.heap.size w4 w') (fun oq v w' => match oq with
              | 0 => v = .agg #[.slice nao nlen ncap, .int .i64 n1, .int .i64 (C : Int), .int .i64 n3, .int .i64 n4, .int .i64 n5, .int .i64 n6, .int .i64 n7, .int .i64 n8, .int .i64 n9, .int .i64 n10, .int .i64 n11]
              | 1 => v = .int .i64 slot
              | 2 => RowC w' v LA
              | 3 => v = .agg #[.slice nao nlen ncap, .int .i64 n1, .int .i64 (E : Int), .int .i64 n3, .int .i64 n4, .int .i64 n5, .int .i64 n6, .int .i64 n7, .int .i64 n8, .int .i64 n9, .int .i64 n10, .int .i64 n11]
              | 4 => v = .int .i64 slot
              | 5 => Row w' v LB
              | _ => True) (by kernel_rfl) (by kernel_rfl) (Below.refl _ _).drew ?gb ?vb ?steps ?fin
          case gb => exact fun a b h1 h2 => h1.trans (h2.mono h1.size)
          case vb =>
            intro oq v a b h hb
            match oq with
            | 0 => exact h
            | 1 => exact h
            | 2 => exact h.keep hb
            | 3 => exact h
            | 4 => exact h
            | 5 => exact h.keep hb
            | _ + 6 => trivial
          case steps =>
            intro vals
            simp only [List.take_succ_cons, List.take_zero, freeSteps, Act.put, List.setIfInBounds_toArray, List.set_cons_zero, List.set_cons_succ, Nat.reduceAdd]
            refine ⟨fun w8 hG hW => ?_, fun w8 hG hW => ?_, fun w8 hG hW => ?_, fun w8 hG hW => ?_, fun w8 hG hW => ?_, fun w8 hG hW => ?_, trivial⟩
            · clear hW
              refine stepAt_value rfl rfl rfl (.agg #[.slice nao nlen ncap, .int .i64 n1, .int .i64 (C : Int), .int .i64 n3, .int .i64 n4, .int .i64 n5, .int .i64 n6, .int .i64 n7, .int .i64 n8, .int .i64 n9, .int .i64 n10, .int .i64 n11]) w8 ?_ ⟨rfl, Below.refl _ _⟩
              obtain ⟨q0, q1, q2, q3, q4, q5, q6, q7, q8, q9, q10, q11⟩ := (HK.out.below hG HK.out.lt).twelve
              go_simp
            · clear hW
              refine stepAt_value rfl rfl rfl (.int .i64 slot) w8 ?_ ⟨rfl, Below.refl _ _⟩
              go_simp
            · have q0 := hW 0 (by decide)
              simp only at q0
              have q1 := hW 1 (by decide)
              simp only at q1
              rw [q0, q1]
              clear hW
              refine stepAt_call rfl rfl rfl 15 #[.agg #[.slice nao nlen ncap, .int .i64 n1, .int .i64 (C : Int), .int .i64 n3, .int .i64 n4, .int .i64 n5, .int .i64 n6, .int .i64 n7, .int .i64 n8, .int .i64 n9, .int .i64 n10, .int .i64 n11], .int .i64 slot] (by go_simp) ((members_any w8 (HT.out.below (HB.out.trans (hG.mono HB.out.size)) HT.out.size) nao nlen ncap n1 C n3 n4 n5 n6 n7 n8 n9 n10 n11 slot C rfl hg2 (by omega) hC1 hC2).mono fun e w' ⟨v, h1, h2, h3⟩ => ⟨_, h1, by have h4 := h2.rowC; rw [HLA.out] at h4; exact h4, h3⟩)
            · clear hW
              refine stepAt_value rfl rfl rfl (.agg #[.slice nao nlen ncap, .int .i64 n1, .int .i64 (E : Int), .int .i64 n3, .int .i64 n4, .int .i64 n5, .int .i64 n6, .int .i64 n7, .int .i64 n8, .int .i64 n9, .int .i64 n10, .int .i64 n11]) w8 ?_ ⟨rfl, Below.refl _ _⟩
              obtain ⟨q0, q1, q2, q3, q4, q5, q6, q7, q8, q9, q10, q11⟩ := (HD.out.below hG HD.out.lt).twelve
              go_simp
            · clear hW
              refine stepAt_value rfl rfl rfl (.int .i64 slot) w8 ?_ ⟨rfl, Below.refl _ _⟩
              go_simp
            · have q3 := hW 3 (by decide)
              simp only at q3
              have q4 := hW 4 (by decide)
              simp only at q4
              rw [q3, q4]
              clear hW
              refine stepAt_call rfl rfl rfl 15 #[.agg #[.slice nao nlen ncap, .int .i64 n1, .int .i64 (E : Int), .int .i64 n3, .int .i64 n4, .int .i64 n5, .int .i64 n6, .int .i64 n7, .int .i64 n8, .int .i64 n9, .int .i64 n10, .int .i64 n11], .int .i64 slot] (by go_simp) ((members_any w8 (HT.out.below (HB.out.trans (hG.mono HB.out.size)) HT.out.size) nao nlen ncap n1 E n3 n4 n5 n6 n7 n8 n9 n10 n11 slot E rfl hg2 (by omega) hE1 (by omega)).mono fun e w' ⟨v, h1, h2, h3⟩ => ⟨_, h1, by have h4 := h2.row; rw [HLB.out] at h4; exact h4, h3⟩)
          case fin =>
            intro vals w5 hG hV
            have hRA : RowC w5 (vals 2) LA := hV 2 (by omega)
            have hRB : Row w5 (vals 5) LB := hV 5 (by omega)
            simp only [List.take_succ_cons, List.take_zero, List.drop_succ_cons, List.drop_zero, putAll, Act.put, List.setIfInBounds_toArray, List.set_cons_zero, List.set_cons_succ, Nat.reduceAdd]
            clear hV
            generalize vals 2 = vA at hRA ⊢
            generalize vals 5 = vB at hRB ⊢
            generalize vals 0 = x0
            generalize vals 1 = x1
            generalize vals 3 = x3
            generalize vals 4 = x4
            have HK5 := Lib.hid (HK.out.below hG HK.out.lt)
            have HD5 := Lib.hid (HD.out.below hG HD.out.lt)
            have HB5 := Lib.hid (HB.out.trans (hG.mono HB.out.size))
            clear hG HK HD HB
            have HK := HK5
            have HD := HD5
            have HB := HB5
            clear HK5 HD5 HB5
            have HRB := Lib.hid hRB
            obtain ⟨aoA, capA, bA, oA, hvA, hcA, hlA⟩ := hRA
            obtain ⟨aoB, capB, bB, oB, hvB, hlB⟩ := hRB
            by_cases hin : 0 ≤ slot ∧ slot ≤ 1073741824
            · obtain ⟨hLA, hLB⟩ := HIN.out hin
              rw [hLA] at hvA
              rw [hLB] at hvB
              have hao := hlA.addr (by rw [iv_length, hLA]; omega)
              subst hao
              subst hvA
              have HvB := Lib.hid hvB
              have HRS := Lib.hid (show Row w5 (.slice (some ⟨bA, oA, none⟩) E capA) LB from ⟨_, capA, bA, oA, by rw [hLB], by
                have h := hlA.take E
                rw [show (iv LA).take E = iv LB by rw [HAB.out, iv, iv, List.map_take]] at h
                exact h⟩)
              have HLN := Lib.hid (show LB.length ≤ 100000 by omega)
              have HGE := Lib.hid (show ((E : Int) ≤ (C : Int)) by omega)
              have HGN := Lib.hid (show E ≤ capA by omega)
              clear hin hLA hLB hvB hlA hlB hcA
              go_wp2_with fail
              refine wp_region_free (P := Tryd.prog) 22 (fun w' => Below w5.heap.size w5 w') (fun oq v w' => match oq with
                  | 0 => v = .slice (some ⟨bA, oA, none⟩) C capA
                  | 1 => v = .int .i64 (C : Int)
                  | 2 => v = vB
                  | 3 => v = .int .i64 (E : Int)
                  | 4 => v = .bool true
                  | 5 => v = .bool true
                  | 6 => v = .slice (some ⟨bA, oA, none⟩) C capA
                  | 7 => v = vB
                  | 8 => v = .int .i64 (E : Int)
                  | 9 => v = .slice (some ⟨bA, oA, none⟩) E capA
                  | 10 => v = vB
                  | 11 => v = .bool true
                  | 12 => v = .bool true
                  | 13 => v = .bool true
                  | 14 => v = .agg #[.slice nao nlen ncap, .int .i64 n1, .int .i64 (C : Int), .int .i64 n3, .int .i64 n4, .int .i64 n5, .int .i64 n6, .int .i64 n7, .int .i64 n8, .int .i64 n9, .int .i64 n10, .int .i64 n11]
                  | 15 => v = .int .i64 slot
                  | 16 => v = .int .i64 F
                  | 17 => v = .agg #[.slice nao nlen ncap, .int .i64 n1, .int .i64 (E : Int), .int .i64 n3, .int .i64 n4, .int .i64 n5, .int .i64 n6, .int .i64 n7, .int .i64 n8, .int .i64 n9, .int .i64 n10, .int .i64 n11]
                  | 18 => v = .int .i64 slot
                  | 19 => v = .int .i64 F
                  | 20 => v = .bool true
                  | 21 => v = .bool true
                  | _ => True) (by kernel_rfl) (by kernel_rfl) (Below.refl _ _).drew ?gb ?vb ?steps ?fin
              case gb => exact fun a b h1 h2 => h1.trans (h2.mono h1.size)
              case vb =>
                intro oq v a b h hb
                match oq with
                | 0 => exact h
                | 1 => exact h
                | 2 => exact h
                | 3 => exact h
                | 4 => exact h
                | 5 => exact h
                | 6 => exact h
                | 7 => exact h
                | 8 => exact h
                | 9 => exact h
                | 10 => exact h
                | 11 => exact h
                | 12 => exact h
                | 13 => exact h
                | 14 => exact h
                | 15 => exact h
                | 16 => exact h
                | 17 => exact h
                | 18 => exact h
                | 19 => exact h
                | 20 => exact h
                | 21 => exact h
                | _ + 22 => trivial
              case steps =>
                intro vals
                simp only [List.take_succ_cons, List.take_zero, freeSteps, Act.put, List.setIfInBounds_toArray, List.set_cons_zero, List.set_cons_succ, Nat.reduceAdd]
                refine ⟨fun w8 hG hW => ?_, fun w8 hG hW => ?_, fun w8 hG hW => ?_, fun w8 hG hW => ?_, fun w8 hG hW => ?_, fun w8 hG hW => ?_, fun w8 hG hW => ?_, fun w8 hG hW => ?_, fun w8 hG hW => ?_, fun w8 hG hW => ?_, fun w8 hG hW => ?_, fun w8 hG hW => ?_, fun w8 hG hW => ?_, fun w8 hG hW => ?_, fun w8 hG hW => ?_, fun w8 hG hW => ?_, fun w8 hG hW => ?_, fun w8 hG hW => ?_, fun w8 hG hW => ?_, fun w8 hG hW => ?_, fun w8 hG hW => ?_, fun w8 hG hW => ?_, trivial⟩
                · clear hW
                  refine stepAt_value rfl rfl rfl (.slice (some ⟨bA, oA, none⟩) C capA) w8 ?_ ⟨rfl, Below.refl _ _⟩
                  go_simp
                · have q0 := hW 0 (by decide)
                  simp only at q0
                  rw [q0]
                  clear hW
                  refine stepAt_value rfl rfl rfl (.int .i64 (C : Int)) w8 ?_ ⟨rfl, Below.refl _ _⟩
                  go_simp
                · clear hW
                  refine stepAt_value rfl rfl rfl (vB) w8 ?_ ⟨rfl, Below.refl _ _⟩
                  go_simp
                · have q2 := hW 2 (by decide)
                  simp only at q2
                  rw [q2]
                  clear hW
                  refine stepAt_value rfl rfl rfl (.int .i64 (E : Int)) w8 ?_ ⟨rfl, Below.refl _ _⟩
                  rw [HvB.out]
                  go_simp
                · have q1 := hW 1 (by decide)
                  simp only at q1
                  have q3 := hW 3 (by decide)
                  simp only at q3
                  rw [q1, q3]
                  clear hW
                  refine stepAt_value rfl rfl rfl (.bool true) w8 ?_ ⟨rfl, Below.refl _ _⟩
                  have hge := HGE.out
                  go_simp
                · have q4 := hW 4 (by decide)
                  simp only at q4
                  rw [q4]
                  clear hW
                  refine stepAt_value rfl rfl rfl (.bool true) w8 ?_ ⟨rfl, Below.refl _ _⟩
                  go_simp
                · have q5 := hW 5 (by decide)
                  simp only at q5
                  rw [q5]
                  clear hW
                  refine stepAt_value rfl rfl rfl (.slice (some ⟨bA, oA, none⟩) C capA) w8 ?_ ⟨rfl, Below.refl _ _⟩
                  go_simp
                · have q5 := hW 5 (by decide)
                  simp only at q5
                  rw [q5]
                  clear hW
                  refine stepAt_value rfl rfl rfl (vB) w8 ?_ ⟨rfl, Below.refl _ _⟩
                  go_simp
                · have q5 := hW 5 (by decide)
                  simp only at q5
                  have q7 := hW 7 (by decide)
                  simp only at q7
                  rw [q5, q7]
                  clear hW
                  refine stepAt_value rfl rfl rfl (.int .i64 (E : Int)) w8 ?_ ⟨rfl, Below.refl _ _⟩
                  rw [HvB.out]
                  go_simp
                · have q5 := hW 5 (by decide)
                  simp only at q5
                  have q6 := hW 6 (by decide)
                  simp only at q6
                  have q8 := hW 8 (by decide)
                  simp only at q8
                  rw [q5, q6, q8]
                  clear hW
                  refine stepAt_value rfl rfl rfl (.slice (some ⟨bA, oA, none⟩) E capA) w8 ?_ ⟨rfl, Below.refl _ _⟩
                  have hge := HGN.out
                  go_simp
                · have q5 := hW 5 (by decide)
                  simp only at q5
                  rw [q5]
                  clear hW
                  refine stepAt_value rfl rfl rfl (vB) w8 ?_ ⟨rfl, Below.refl _ _⟩
                  go_simp
                · have q5 := hW 5 (by decide)
                  simp only at q5
                  have q9 := hW 9 (by decide)
                  simp only at q9
                  have q10 := hW 10 (by decide)
                  simp only at q10
                  rw [q5, q9, q10]
                  clear hW
                  refine stepAt_call rfl rfl rfl 14 #[.slice (some ⟨bA, oA, none⟩) E capA, vB] (by go_simp) ((same_row (HRS.out.keep hG) (HRB.out.keep hG) HLN.out).mono fun e w' ⟨h1, h2⟩ => ⟨_, h1, by simp, h2⟩)
                · have q5 := hW 5 (by decide)
                  simp only at q5
                  have q11 := hW 11 (by decide)
                  simp only at q11
                  rw [q5, q11]
                  clear hW
                  refine stepAt_value rfl rfl rfl (.bool true) w8 ?_ ⟨rfl, Below.refl _ _⟩
                  go_simp
                · have q12 := hW 12 (by decide)
                  simp only at q12
                  rw [q12]
                  clear hW
                  refine stepAt_value rfl rfl rfl (.bool true) w8 ?_ ⟨rfl, Below.refl _ _⟩
                  go_simp
                · have q13 := hW 13 (by decide)
                  simp only at q13
                  rw [q13]
                  clear hW
                  refine stepAt_value rfl rfl rfl (.agg #[.slice nao nlen ncap, .int .i64 n1, .int .i64 (C : Int), .int .i64 n3, .int .i64 n4, .int .i64 n5, .int .i64 n6, .int .i64 n7, .int .i64 n8, .int .i64 n9, .int .i64 n10, .int .i64 n11]) w8 ?_ ⟨rfl, Below.refl _ _⟩
                  obtain ⟨q0, q1, q2, q3, q4, q5, q6, q7, q8, q9, q10, q11⟩ := (HK.out.below hG HK.out.lt).twelve
                  go_simp
                · have q13 := hW 13 (by decide)
                  simp only at q13
                  rw [q13]
                  clear hW
                  refine stepAt_value rfl rfl rfl (.int .i64 slot) w8 ?_ ⟨rfl, Below.refl _ _⟩
                  go_simp
                · have q13 := hW 13 (by decide)
                  simp only at q13
                  have q14 := hW 14 (by decide)
                  simp only at q14
                  have q15 := hW 15 (by decide)
                  simp only at q15
                  rw [q13, q14, q15]
                  clear hW
                  refine stepAt_call rfl rfl rfl 18 #[.agg #[.slice nao nlen ncap, .int .i64 n1, .int .i64 (C : Int), .int .i64 n3, .int .i64 n4, .int .i64 n5, .int .i64 n6, .int .i64 n7, .int .i64 n8, .int .i64 n9, .int .i64 n10, .int .i64 n11], .int .i64 slot] (by go_simp) ((proposer_any w8 (HT.out.below (HB.out.trans (hG.mono HB.out.size)) HT.out.size) nao nlen ncap n1 C n3 n4 n5 n6 n7 n8 n9 n10 n11 slot C rfl hg2 (by omega) hC1 hC2).mono fun e w' ⟨h1, h2⟩ => ⟨_, h1, by rw [HLA.out, HFLA.out], h2⟩)
                · have q13 := hW 13 (by decide)
                  simp only at q13
                  rw [q13]
                  clear hW
                  refine stepAt_value rfl rfl rfl (.agg #[.slice nao nlen ncap, .int .i64 n1, .int .i64 (E : Int), .int .i64 n3, .int .i64 n4, .int .i64 n5, .int .i64 n6, .int .i64 n7, .int .i64 n8, .int .i64 n9, .int .i64 n10, .int .i64 n11]) w8 ?_ ⟨rfl, Below.refl _ _⟩
                  obtain ⟨q0, q1, q2, q3, q4, q5, q6, q7, q8, q9, q10, q11⟩ := (HD.out.below hG HD.out.lt).twelve
                  go_simp
                · have q13 := hW 13 (by decide)
                  simp only at q13
                  rw [q13]
                  clear hW
                  refine stepAt_value rfl rfl rfl (.int .i64 slot) w8 ?_ ⟨rfl, Below.refl _ _⟩
                  go_simp
                · have q13 := hW 13 (by decide)
                  simp only at q13
                  have q17 := hW 17 (by decide)
                  simp only at q17
                  have q18 := hW 18 (by decide)
                  simp only at q18
                  rw [q13, q17, q18]
                  clear hW
                  refine stepAt_call rfl rfl rfl 18 #[.agg #[.slice nao nlen ncap, .int .i64 n1, .int .i64 (E : Int), .int .i64 n3, .int .i64 n4, .int .i64 n5, .int .i64 n6, .int .i64 n7, .int .i64 n8, .int .i64 n9, .int .i64 n10, .int .i64 n11], .int .i64 slot] (by go_simp) ((proposer_any w8 (HT.out.below (HB.out.trans (hG.mono HB.out.size)) HT.out.size) nao nlen ncap n1 E n3 n4 n5 n6 n7 n8 n9 n10 n11 slot E rfl hg2 (by omega) hE1 (by omega)).mono fun e w' ⟨h1, h2⟩ => ⟨_, h1, by rw [HLB.out, HFLB.out], h2⟩)
                · have q13 := hW 13 (by decide)
                  simp only at q13
                  have q16 := hW 16 (by decide)
                  simp only at q16
                  have q19 := hW 19 (by decide)
                  simp only at q19
                  rw [q13, q16, q19]
                  clear hW
                  refine stepAt_value rfl rfl rfl (.bool true) w8 ?_ ⟨rfl, Below.refl _ _⟩
                  go_simp
                · have q13 := hW 13 (by decide)
                  simp only at q13
                  have q20 := hW 20 (by decide)
                  simp only at q20
                  rw [q13, q20]
                  clear hW
                  refine stepAt_value rfl rfl rfl (.bool true) w8 ?_ ⟨rfl, Below.refl _ _⟩
                  go_simp
              case fin =>
                intro vals w8 hG hV
                have q21 := hV 21 (by omega)
                simp only at q21
                simp only [List.take_succ_cons, List.take_zero, List.drop_succ_cons, List.drop_zero, putAll, Act.put, List.setIfInBounds_toArray, List.set_cons_zero, List.set_cons_succ, Nat.reduceAdd]
                rw [q21]
                have HBF := Lib.hid (HB.out.trans (hG.mono HB.out.size))
                clear hV q21
                go_wp2_with fail
                go_ret
                exact ⟨rfl, HBF.out⟩
            · obtain ⟨hLA, hLB⟩ := HOUT.out hin
              subst hLA
              subst hLB
              rw [List.length_nil] at hvA hvB
              subst hvA
              have HvB := Lib.hid hvB
              have HRS := Lib.hid (show Row w5 (.slice aoA 0 capA) [] from ⟨aoA, capA, bA, oA, rfl, hlA⟩)
              have HLN := Lib.hid (show ([] : List Nat).length ≤ 100000 by simp)
              have HGE := Lib.hid (show ((0 : Int) ≤ (0 : Int)) by omega)
              have HGN := Lib.hid (show 0 ≤ capA from Nat.zero_le _)
              clear hin hvB hlA hlB hcA
              go_wp2_with fail
              cases aoA with
              | none =>
                refine wp_region_free (P := Tryd.prog) 22 (fun w' => Below w5.heap.size w5 w') (fun oq v w' => match oq with
                    | 0 => v = .slice (none) 0 capA
                    | 1 => v = .int .i64 0
                    | 2 => v = vB
                    | 3 => v = .int .i64 0
                    | 4 => v = .bool true
                    | 5 => v = .bool true
                    | 6 => v = .slice (none) 0 capA
                    | 7 => v = vB
                    | 8 => v = .int .i64 0
                    | 9 => v = .slice (none) 0 capA
                    | 10 => v = vB
                    | 11 => v = .bool true
                    | 12 => v = .bool true
                    | 13 => v = .bool true
                    | 14 => v = .agg #[.slice nao nlen ncap, .int .i64 n1, .int .i64 (C : Int), .int .i64 n3, .int .i64 n4, .int .i64 n5, .int .i64 n6, .int .i64 n7, .int .i64 n8, .int .i64 n9, .int .i64 n10, .int .i64 n11]
                    | 15 => v = .int .i64 slot
                    | 16 => v = .int .i64 F
                    | 17 => v = .agg #[.slice nao nlen ncap, .int .i64 n1, .int .i64 (E : Int), .int .i64 n3, .int .i64 n4, .int .i64 n5, .int .i64 n6, .int .i64 n7, .int .i64 n8, .int .i64 n9, .int .i64 n10, .int .i64 n11]
                    | 18 => v = .int .i64 slot
                    | 19 => v = .int .i64 F
                    | 20 => v = .bool true
                    | 21 => v = .bool true
                    | _ => True) (by kernel_rfl) (by kernel_rfl) (Below.refl _ _).drew ?gb ?vb ?steps ?fin
                case gb => exact fun a b h1 h2 => h1.trans (h2.mono h1.size)
                case vb =>
                  intro oq v a b h hb
                  match oq with
                  | 0 => exact h
                  | 1 => exact h
                  | 2 => exact h
                  | 3 => exact h
                  | 4 => exact h
                  | 5 => exact h
                  | 6 => exact h
                  | 7 => exact h
                  | 8 => exact h
                  | 9 => exact h
                  | 10 => exact h
                  | 11 => exact h
                  | 12 => exact h
                  | 13 => exact h
                  | 14 => exact h
                  | 15 => exact h
                  | 16 => exact h
                  | 17 => exact h
                  | 18 => exact h
                  | 19 => exact h
                  | 20 => exact h
                  | 21 => exact h
                  | _ + 22 => trivial
                case steps =>
                  intro vals
                  simp only [List.take_succ_cons, List.take_zero, freeSteps, Act.put, List.setIfInBounds_toArray, List.set_cons_zero, List.set_cons_succ, Nat.reduceAdd]
                  refine ⟨fun w8 hG hW => ?_, fun w8 hG hW => ?_, fun w8 hG hW => ?_, fun w8 hG hW => ?_, fun w8 hG hW => ?_, fun w8 hG hW => ?_, fun w8 hG hW => ?_, fun w8 hG hW => ?_, fun w8 hG hW => ?_, fun w8 hG hW => ?_, fun w8 hG hW => ?_, fun w8 hG hW => ?_, fun w8 hG hW => ?_, fun w8 hG hW => ?_, fun w8 hG hW => ?_, fun w8 hG hW => ?_, fun w8 hG hW => ?_, fun w8 hG hW => ?_, fun w8 hG hW => ?_, fun w8 hG hW => ?_, fun w8 hG hW => ?_, fun w8 hG hW => ?_, trivial⟩
                  · clear hW
                    refine stepAt_value rfl rfl rfl (.slice (none) 0 capA) w8 ?_ ⟨rfl, Below.refl _ _⟩
                    go_simp
                  · have q0 := hW 0 (by decide)
                    simp only at q0
                    rw [q0]
                    clear hW
                    refine stepAt_value rfl rfl rfl (.int .i64 0) w8 ?_ ⟨rfl, Below.refl _ _⟩
                    go_simp
                  · clear hW
                    refine stepAt_value rfl rfl rfl (vB) w8 ?_ ⟨rfl, Below.refl _ _⟩
                    go_simp
                  · have q2 := hW 2 (by decide)
                    simp only at q2
                    rw [q2]
                    clear hW
                    refine stepAt_value rfl rfl rfl (.int .i64 0) w8 ?_ ⟨rfl, Below.refl _ _⟩
                    rw [HvB.out]
                    go_simp
                  · have q1 := hW 1 (by decide)
                    simp only at q1
                    have q3 := hW 3 (by decide)
                    simp only at q3
                    rw [q1, q3]
                    clear hW
                    refine stepAt_value rfl rfl rfl (.bool true) w8 ?_ ⟨rfl, Below.refl _ _⟩
                    have hge := HGE.out
                    go_simp
                  · have q4 := hW 4 (by decide)
                    simp only at q4
                    rw [q4]
                    clear hW
                    refine stepAt_value rfl rfl rfl (.bool true) w8 ?_ ⟨rfl, Below.refl _ _⟩
                    go_simp
                  · have q5 := hW 5 (by decide)
                    simp only at q5
                    rw [q5]
                    clear hW
                    refine stepAt_value rfl rfl rfl (.slice (none) 0 capA) w8 ?_ ⟨rfl, Below.refl _ _⟩
                    go_simp
                  · have q5 := hW 5 (by decide)
                    simp only at q5
                    rw [q5]
                    clear hW
                    refine stepAt_value rfl rfl rfl (vB) w8 ?_ ⟨rfl, Below.refl _ _⟩
                    go_simp
                  · have q5 := hW 5 (by decide)
                    simp only at q5
                    have q7 := hW 7 (by decide)
                    simp only at q7
                    rw [q5, q7]
                    clear hW
                    refine stepAt_value rfl rfl rfl (.int .i64 0) w8 ?_ ⟨rfl, Below.refl _ _⟩
                    rw [HvB.out]
                    go_simp
                  · have q5 := hW 5 (by decide)
                    simp only at q5
                    have q6 := hW 6 (by decide)
                    simp only at q6
                    have q8 := hW 8 (by decide)
                    simp only at q8
                    rw [q5, q6, q8]
                    clear hW
                    refine stepAt_value rfl rfl rfl (.slice (none) 0 capA) w8 ?_ ⟨rfl, Below.refl _ _⟩
                    have hge := HGN.out
                    go_simp
                  · have q5 := hW 5 (by decide)
                    simp only at q5
                    rw [q5]
                    clear hW
                    refine stepAt_value rfl rfl rfl (vB) w8 ?_ ⟨rfl, Below.refl _ _⟩
                    go_simp
                  · have q5 := hW 5 (by decide)
                    simp only at q5
                    have q9 := hW 9 (by decide)
                    simp only at q9
                    have q10 := hW 10 (by decide)
                    simp only at q10
                    rw [q5, q9, q10]
                    clear hW
                    refine stepAt_call rfl rfl rfl 14 #[.slice (none) 0 capA, vB] (by go_simp) ((same_row (HRS.out.keep hG) (HRB.out.keep hG) HLN.out).mono fun e w' ⟨h1, h2⟩ => ⟨_, h1, by simp, h2⟩)
                  · have q5 := hW 5 (by decide)
                    simp only at q5
                    have q11 := hW 11 (by decide)
                    simp only at q11
                    rw [q5, q11]
                    clear hW
                    refine stepAt_value rfl rfl rfl (.bool true) w8 ?_ ⟨rfl, Below.refl _ _⟩
                    go_simp
                  · have q12 := hW 12 (by decide)
                    simp only at q12
                    rw [q12]
                    clear hW
                    refine stepAt_value rfl rfl rfl (.bool true) w8 ?_ ⟨rfl, Below.refl _ _⟩
                    go_simp
                  · have q13 := hW 13 (by decide)
                    simp only at q13
                    rw [q13]
                    clear hW
                    refine stepAt_value rfl rfl rfl (.agg #[.slice nao nlen ncap, .int .i64 n1, .int .i64 (C : Int), .int .i64 n3, .int .i64 n4, .int .i64 n5, .int .i64 n6, .int .i64 n7, .int .i64 n8, .int .i64 n9, .int .i64 n10, .int .i64 n11]) w8 ?_ ⟨rfl, Below.refl _ _⟩
                    obtain ⟨q0, q1, q2, q3, q4, q5, q6, q7, q8, q9, q10, q11⟩ := (HK.out.below hG HK.out.lt).twelve
                    go_simp
                  · have q13 := hW 13 (by decide)
                    simp only at q13
                    rw [q13]
                    clear hW
                    refine stepAt_value rfl rfl rfl (.int .i64 slot) w8 ?_ ⟨rfl, Below.refl _ _⟩
                    go_simp
                  · have q13 := hW 13 (by decide)
                    simp only at q13
                    have q14 := hW 14 (by decide)
                    simp only at q14
                    have q15 := hW 15 (by decide)
                    simp only at q15
                    rw [q13, q14, q15]
                    clear hW
                    refine stepAt_call rfl rfl rfl 18 #[.agg #[.slice nao nlen ncap, .int .i64 n1, .int .i64 (C : Int), .int .i64 n3, .int .i64 n4, .int .i64 n5, .int .i64 n6, .int .i64 n7, .int .i64 n8, .int .i64 n9, .int .i64 n10, .int .i64 n11], .int .i64 slot] (by go_simp) ((proposer_any w8 (HT.out.below (HB.out.trans (hG.mono HB.out.size)) HT.out.size) nao nlen ncap n1 C n3 n4 n5 n6 n7 n8 n9 n10 n11 slot C rfl hg2 (by omega) hC1 hC2).mono fun e w' ⟨h1, h2⟩ => ⟨_, h1, by rw [HLA.out, HFLA.out], h2⟩)
                  · have q13 := hW 13 (by decide)
                    simp only at q13
                    rw [q13]
                    clear hW
                    refine stepAt_value rfl rfl rfl (.agg #[.slice nao nlen ncap, .int .i64 n1, .int .i64 (E : Int), .int .i64 n3, .int .i64 n4, .int .i64 n5, .int .i64 n6, .int .i64 n7, .int .i64 n8, .int .i64 n9, .int .i64 n10, .int .i64 n11]) w8 ?_ ⟨rfl, Below.refl _ _⟩
                    obtain ⟨q0, q1, q2, q3, q4, q5, q6, q7, q8, q9, q10, q11⟩ := (HD.out.below hG HD.out.lt).twelve
                    go_simp
                  · have q13 := hW 13 (by decide)
                    simp only at q13
                    rw [q13]
                    clear hW
                    refine stepAt_value rfl rfl rfl (.int .i64 slot) w8 ?_ ⟨rfl, Below.refl _ _⟩
                    go_simp
                  · have q13 := hW 13 (by decide)
                    simp only at q13
                    have q17 := hW 17 (by decide)
                    simp only at q17
                    have q18 := hW 18 (by decide)
                    simp only at q18
                    rw [q13, q17, q18]
                    clear hW
                    refine stepAt_call rfl rfl rfl 18 #[.agg #[.slice nao nlen ncap, .int .i64 n1, .int .i64 (E : Int), .int .i64 n3, .int .i64 n4, .int .i64 n5, .int .i64 n6, .int .i64 n7, .int .i64 n8, .int .i64 n9, .int .i64 n10, .int .i64 n11], .int .i64 slot] (by go_simp) ((proposer_any w8 (HT.out.below (HB.out.trans (hG.mono HB.out.size)) HT.out.size) nao nlen ncap n1 E n3 n4 n5 n6 n7 n8 n9 n10 n11 slot E rfl hg2 (by omega) hE1 (by omega)).mono fun e w' ⟨h1, h2⟩ => ⟨_, h1, by rw [HLB.out, HFLB.out], h2⟩)
                  · have q13 := hW 13 (by decide)
                    simp only at q13
                    have q16 := hW 16 (by decide)
                    simp only at q16
                    have q19 := hW 19 (by decide)
                    simp only at q19
                    rw [q13, q16, q19]
                    clear hW
                    refine stepAt_value rfl rfl rfl (.bool true) w8 ?_ ⟨rfl, Below.refl _ _⟩
                    go_simp
                  · have q13 := hW 13 (by decide)
                    simp only at q13
                    have q20 := hW 20 (by decide)
                    simp only at q20
                    rw [q13, q20]
                    clear hW
                    refine stepAt_value rfl rfl rfl (.bool true) w8 ?_ ⟨rfl, Below.refl _ _⟩
                    go_simp
                case fin =>
                  intro vals w8 hG hV
                  have q21 := hV 21 (by omega)
                  simp only at q21
                  simp only [List.take_succ_cons, List.take_zero, List.drop_succ_cons, List.drop_zero, putAll, Act.put, List.setIfInBounds_toArray, List.set_cons_zero, List.set_cons_succ, Nat.reduceAdd]
                  rw [q21]
                  have HBF := Lib.hid (HB.out.trans (hG.mono HB.out.size))
                  clear hV q21
                  go_wp2_with fail
                  go_ret
                  exact ⟨rfl, HBF.out⟩
              | some a =>
                refine wp_region_free (P := Tryd.prog) 22 (fun w' => Below w5.heap.size w5 w') (fun oq v w' => match oq with
                    | 0 => v = .slice (some a) 0 capA
                    | 1 => v = .int .i64 0
                    | 2 => v = vB
                    | 3 => v = .int .i64 0
                    | 4 => v = .bool true
                    | 5 => v = .bool true
                    | 6 => v = .slice (some a) 0 capA
                    | 7 => v = vB
                    | 8 => v = .int .i64 0
                    | 9 => v = .slice (some a) 0 capA
                    | 10 => v = vB
                    | 11 => v = .bool true
                    | 12 => v = .bool true
                    | 13 => v = .bool true
                    | 14 => v = .agg #[.slice nao nlen ncap, .int .i64 n1, .int .i64 (C : Int), .int .i64 n3, .int .i64 n4, .int .i64 n5, .int .i64 n6, .int .i64 n7, .int .i64 n8, .int .i64 n9, .int .i64 n10, .int .i64 n11]
                    | 15 => v = .int .i64 slot
                    | 16 => v = .int .i64 F
                    | 17 => v = .agg #[.slice nao nlen ncap, .int .i64 n1, .int .i64 (E : Int), .int .i64 n3, .int .i64 n4, .int .i64 n5, .int .i64 n6, .int .i64 n7, .int .i64 n8, .int .i64 n9, .int .i64 n10, .int .i64 n11]
                    | 18 => v = .int .i64 slot
                    | 19 => v = .int .i64 F
                    | 20 => v = .bool true
                    | 21 => v = .bool true
                    | _ => True) (by kernel_rfl) (by kernel_rfl) (Below.refl _ _).drew ?gb ?vb ?steps ?fin
                case gb => exact fun a b h1 h2 => h1.trans (h2.mono h1.size)
                case vb =>
                  intro oq v a b h hb
                  match oq with
                  | 0 => exact h
                  | 1 => exact h
                  | 2 => exact h
                  | 3 => exact h
                  | 4 => exact h
                  | 5 => exact h
                  | 6 => exact h
                  | 7 => exact h
                  | 8 => exact h
                  | 9 => exact h
                  | 10 => exact h
                  | 11 => exact h
                  | 12 => exact h
                  | 13 => exact h
                  | 14 => exact h
                  | 15 => exact h
                  | 16 => exact h
                  | 17 => exact h
                  | 18 => exact h
                  | 19 => exact h
                  | 20 => exact h
                  | 21 => exact h
                  | _ + 22 => trivial
                case steps =>
                  intro vals
                  simp only [List.take_succ_cons, List.take_zero, freeSteps, Act.put, List.setIfInBounds_toArray, List.set_cons_zero, List.set_cons_succ, Nat.reduceAdd]
                  refine ⟨fun w8 hG hW => ?_, fun w8 hG hW => ?_, fun w8 hG hW => ?_, fun w8 hG hW => ?_, fun w8 hG hW => ?_, fun w8 hG hW => ?_, fun w8 hG hW => ?_, fun w8 hG hW => ?_, fun w8 hG hW => ?_, fun w8 hG hW => ?_, fun w8 hG hW => ?_, fun w8 hG hW => ?_, fun w8 hG hW => ?_, fun w8 hG hW => ?_, fun w8 hG hW => ?_, fun w8 hG hW => ?_, fun w8 hG hW => ?_, fun w8 hG hW => ?_, fun w8 hG hW => ?_, fun w8 hG hW => ?_, fun w8 hG hW => ?_, fun w8 hG hW => ?_, trivial⟩
                  · clear hW
                    refine stepAt_value rfl rfl rfl (.slice (some a) 0 capA) w8 ?_ ⟨rfl, Below.refl _ _⟩
                    go_simp
                  · have q0 := hW 0 (by decide)
                    simp only at q0
                    rw [q0]
                    clear hW
                    refine stepAt_value rfl rfl rfl (.int .i64 0) w8 ?_ ⟨rfl, Below.refl _ _⟩
                    go_simp
                  · clear hW
                    refine stepAt_value rfl rfl rfl (vB) w8 ?_ ⟨rfl, Below.refl _ _⟩
                    go_simp
                  · have q2 := hW 2 (by decide)
                    simp only at q2
                    rw [q2]
                    clear hW
                    refine stepAt_value rfl rfl rfl (.int .i64 0) w8 ?_ ⟨rfl, Below.refl _ _⟩
                    rw [HvB.out]
                    go_simp
                  · have q1 := hW 1 (by decide)
                    simp only at q1
                    have q3 := hW 3 (by decide)
                    simp only at q3
                    rw [q1, q3]
                    clear hW
                    refine stepAt_value rfl rfl rfl (.bool true) w8 ?_ ⟨rfl, Below.refl _ _⟩
                    have hge := HGE.out
                    go_simp
                  · have q4 := hW 4 (by decide)
                    simp only at q4
                    rw [q4]
                    clear hW
                    refine stepAt_value rfl rfl rfl (.bool true) w8 ?_ ⟨rfl, Below.refl _ _⟩
                    go_simp
                  · have q5 := hW 5 (by decide)
                    simp only at q5
                    rw [q5]
                    clear hW
                    refine stepAt_value rfl rfl rfl (.slice (some a) 0 capA) w8 ?_ ⟨rfl, Below.refl _ _⟩
                    go_simp
                  · have q5 := hW 5 (by decide)
                    simp only at q5
                    rw [q5]
                    clear hW
                    refine stepAt_value rfl rfl rfl (vB) w8 ?_ ⟨rfl, Below.refl _ _⟩
                    go_simp
                  · have q5 := hW 5 (by decide)
                    simp only at q5
                    have q7 := hW 7 (by decide)
                    simp only at q7
                    rw [q5, q7]
                    clear hW
                    refine stepAt_value rfl rfl rfl (.int .i64 0) w8 ?_ ⟨rfl, Below.refl _ _⟩
                    rw [HvB.out]
                    go_simp
                  · have q5 := hW 5 (by decide)
                    simp only at q5
                    have q6 := hW 6 (by decide)
                    simp only at q6
                    have q8 := hW 8 (by decide)
                    simp only at q8
                    rw [q5, q6, q8]
                    clear hW
                    refine stepAt_value rfl rfl rfl (.slice (some a) 0 capA) w8 ?_ ⟨rfl, Below.refl _ _⟩
                    have hge := HGN.out
                    go_simp
                  · have q5 := hW 5 (by decide)
                    simp only at q5
                    rw [q5]
                    clear hW
                    refine stepAt_value rfl rfl rfl (vB) w8 ?_ ⟨rfl, Below.refl _ _⟩
                    go_simp
                  · have q5 := hW 5 (by decide)
                    simp only at q5
                    have q9 := hW 9 (by decide)
                    simp only at q9
                    have q10 := hW 10 (by decide)
                    simp only at q10
                    rw [q5, q9, q10]
                    clear hW
                    refine stepAt_call rfl rfl rfl 14 #[.slice (some a) 0 capA, vB] (by go_simp) ((same_row (HRS.out.keep hG) (HRB.out.keep hG) HLN.out).mono fun e w' ⟨h1, h2⟩ => ⟨_, h1, by simp, h2⟩)
                  · have q5 := hW 5 (by decide)
                    simp only at q5
                    have q11 := hW 11 (by decide)
                    simp only at q11
                    rw [q5, q11]
                    clear hW
                    refine stepAt_value rfl rfl rfl (.bool true) w8 ?_ ⟨rfl, Below.refl _ _⟩
                    go_simp
                  · have q12 := hW 12 (by decide)
                    simp only at q12
                    rw [q12]
                    clear hW
                    refine stepAt_value rfl rfl rfl (.bool true) w8 ?_ ⟨rfl, Below.refl _ _⟩
                    go_simp
                  · have q13 := hW 13 (by decide)
                    simp only at q13
                    rw [q13]
                    clear hW
                    refine stepAt_value rfl rfl rfl (.agg #[.slice nao nlen ncap, .int .i64 n1, .int .i64 (C : Int), .int .i64 n3, .int .i64 n4, .int .i64 n5, .int .i64 n6, .int .i64 n7, .int .i64 n8, .int .i64 n9, .int .i64 n10, .int .i64 n11]) w8 ?_ ⟨rfl, Below.refl _ _⟩
                    obtain ⟨q0, q1, q2, q3, q4, q5, q6, q7, q8, q9, q10, q11⟩ := (HK.out.below hG HK.out.lt).twelve
                    go_simp
                  · have q13 := hW 13 (by decide)
                    simp only at q13
                    rw [q13]
                    clear hW
                    refine stepAt_value rfl rfl rfl (.int .i64 slot) w8 ?_ ⟨rfl, Below.refl _ _⟩
                    go_simp
                  · have q13 := hW 13 (by decide)
                    simp only at q13
                    have q14 := hW 14 (by decide)
                    simp only at q14
                    have q15 := hW 15 (by decide)
                    simp only at q15
                    rw [q13, q14, q15]
                    clear hW
                    refine stepAt_call rfl rfl rfl 18 #[.agg #[.slice nao nlen ncap, .int .i64 n1, .int .i64 (C : Int), .int .i64 n3, .int .i64 n4, .int .i64 n5, .int .i64 n6, .int .i64 n7, .int .i64 n8, .int .i64 n9, .int .i64 n10, .int .i64 n11], .int .i64 slot] (by go_simp) ((proposer_any w8 (HT.out.below (HB.out.trans (hG.mono HB.out.size)) HT.out.size) nao nlen ncap n1 C n3 n4 n5 n6 n7 n8 n9 n10 n11 slot C rfl hg2 (by omega) hC1 hC2).mono fun e w' ⟨h1, h2⟩ => ⟨_, h1, by rw [HLA.out, HFLA.out], h2⟩)
                  · have q13 := hW 13 (by decide)
                    simp only at q13
                    rw [q13]
                    clear hW
                    refine stepAt_value rfl rfl rfl (.agg #[.slice nao nlen ncap, .int .i64 n1, .int .i64 (E : Int), .int .i64 n3, .int .i64 n4, .int .i64 n5, .int .i64 n6, .int .i64 n7, .int .i64 n8, .int .i64 n9, .int .i64 n10, .int .i64 n11]) w8 ?_ ⟨rfl, Below.refl _ _⟩
                    obtain ⟨q0, q1, q2, q3, q4, q5, q6, q7, q8, q9, q10, q11⟩ := (HD.out.below hG HD.out.lt).twelve
                    go_simp
                  · have q13 := hW 13 (by decide)
                    simp only at q13
                    rw [q13]
                    clear hW
                    refine stepAt_value rfl rfl rfl (.int .i64 slot) w8 ?_ ⟨rfl, Below.refl _ _⟩
                    go_simp
                  · have q13 := hW 13 (by decide)
                    simp only at q13
                    have q17 := hW 17 (by decide)
                    simp only at q17
                    have q18 := hW 18 (by decide)
                    simp only at q18
                    rw [q13, q17, q18]
                    clear hW
                    refine stepAt_call rfl rfl rfl 18 #[.agg #[.slice nao nlen ncap, .int .i64 n1, .int .i64 (E : Int), .int .i64 n3, .int .i64 n4, .int .i64 n5, .int .i64 n6, .int .i64 n7, .int .i64 n8, .int .i64 n9, .int .i64 n10, .int .i64 n11], .int .i64 slot] (by go_simp) ((proposer_any w8 (HT.out.below (HB.out.trans (hG.mono HB.out.size)) HT.out.size) nao nlen ncap n1 E n3 n4 n5 n6 n7 n8 n9 n10 n11 slot E rfl hg2 (by omega) hE1 (by omega)).mono fun e w' ⟨h1, h2⟩ => ⟨_, h1, by rw [HLB.out, HFLB.out], h2⟩)
                  · have q13 := hW 13 (by decide)
                    simp only at q13
                    have q16 := hW 16 (by decide)
                    simp only at q16
                    have q19 := hW 19 (by decide)
                    simp only at q19
                    rw [q13, q16, q19]
                    clear hW
                    refine stepAt_value rfl rfl rfl (.bool true) w8 ?_ ⟨rfl, Below.refl _ _⟩
                    go_simp
                  · have q13 := hW 13 (by decide)
                    simp only at q13
                    have q20 := hW 20 (by decide)
                    simp only at q20
                    rw [q13, q20]
                    clear hW
                    refine stepAt_value rfl rfl rfl (.bool true) w8 ?_ ⟨rfl, Below.refl _ _⟩
                    go_simp
                case fin =>
                  intro vals w8 hG hV
                  have q21 := hV 21 (by omega)
                  simp only at q21
                  simp only [List.take_succ_cons, List.take_zero, List.drop_succ_cons, List.drop_zero, putAll, Act.put, List.setIfInBounds_toArray, List.set_cons_zero, List.set_cons_succ, Nat.reduceAdd]
                  rw [q21]
                  have HBF := Lib.hid (HB.out.trans (hG.mono HB.out.size))
                  clear hV q21
                  go_wp2_with fail
                  go_ret
                  exact ⟨rfl, HBF.out⟩
end Go.Proofs.YtginfmbcljlneaaDoor
