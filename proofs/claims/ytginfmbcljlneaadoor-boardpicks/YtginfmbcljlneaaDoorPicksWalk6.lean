/-
  The walk of BoardPicks.
-/
import Derived.Test.YtginfmbcljlneaaDoorRow6
namespace Go.Proofs.YtginfmbcljlneaaDoor
open Go.RowKit
set_option maxRecDepth 100000

/-- The row turned round, as far as j. -/
def turned (row : List Bool) (j : Nat) : List Bool := (row.take j).map (!·) ++ List.replicate (row.length - j) false
theorem turned_at (row : List Bool) (j : Nat) (h : j < row.length) : (turned row j)[j]? = some false := by
  have e : ((row.take j).map (!·)).length = j := by simp; omega
  rw [turned, List.getElem?_append_right (by omega), e, Nat.sub_self, List.getElem?_replicate, if_pos (by omega)]
theorem turned_set (row : List Bool) (j : Nat) (x : Bool) (h : row[j]? = some x) : (turned row j).set j (!x) = turned row (j + 1) := by
  have hj := (List.getElem?_eq_some_iff.1 h).1
  have e : ((row.take j).map (!·)).length = j := by simp; omega
  rw [turned, turned, List.set_append_right _ _ (by omega), e, Nat.sub_self, show row.length - j = (row.length - (j + 1)) + 1 by omega, List.replicate_succ, List.set_cons_zero, List.take_add_one, h, List.map_append, List.append_assoc]
  rfl
theorem turned_end (row : List Bool) : turned row row.length = row.map (!·) := by simp [turned]
theorem pick_none : ∀ (l : List Nat) (n : Nat), pickL l (List.replicate n false) = []
  | [], n => by cases n <;> rfl
  | _ :: _, 0 => rfl
  | a :: l, n + 1 => by rw [List.replicate_succ, pickL, if_neg (by simp)]; exact pick_none l n
theorem pick_both : ∀ (l : List Nat) (r : List Bool), r.length = l.length → (pickL l r).length + (pickL l (r.map (!·))).length = l.length
  | [], [], _ => rfl
  | [], _ :: _, h => by simp at h
  | _ :: _, [], h => by simp at h
  | a :: l, b :: r, h => by
    have ih := pick_both l r (by simpa using h)
    rw [List.map_cons, pickL, pickL]
    cases b <;> simp <;> omega
theorem made_no (m : Nat) : (madeCells (Value.bool false).cells m).toList = ov (List.replicate m false) := by
  apply List.ext_getElem?
  intro i
  by_cases h : i < m
  · simp [madeCells, Value.cells, Nat.mod_one, ov, h]
  · rw [List.getElem?_eq_none (by rw [Array.length_toList, size_madeCells]; omega), List.getElem?_eq_none (by rw [ov_length]; simp; omega)]
theorem made_lies (w : World) (m : Nat) : Lies (w.alloc (.cells (madeCells (Value.bool false).cells m) 4)) (w.alloc (.cells (madeCells (Value.bool false).cells m) 4)).heap.size (some ⟨w.heap.size, 0, none⟩) w.heap.size 0 (ov (List.replicate m false)) := by
  have h := Blk.new w 4 (madeCells (Value.bool false).cells m)
  rw [made_no] at h
  exact ⟨fun _ => rfl, fun _ => h.lt, fun i u hi => by rw [Nat.zero_add]; exact (h.cell i).trans hi⟩

set_option maxHeartbeats 8000000 in
theorem boardPicks_any (w : World) (hT : Tabs w) (nao : Option Addr) (nlen ncap nb noff : Nat) (n1 n2 n3 n4 n5 n6 n7 n8 n9 n10 n11 : Int) (nvs : List (Int × ByteArray)) (nhl : nvs.length = nlen) (nhst : Stakes nvs) (nhs : Lies w w.heap.size nao nb noff (vc nvs)) (slot : Int) (rao : Option Addr) (rlen rcap rb roff : Nat) (row : List Bool) (hr : row.length = rlen) (hrs : Lies w w.heap.size rao rb roff (ov row)) :
    Calls Tryd.prog 7 #[.agg #[.slice nao nlen ncap, .int .i64 n1, .int .i64 n2, .int .i64 n3, .int .i64 n4, .int .i64 n5, .int .i64 n6, .int .i64 n7, .int .i64 n8, .int .i64 n9, .int .i64 n10, .int .i64 n11], .int .i64 slot, .slice rao rlen rcap] w fun e w' => e = .returned (.bool true) ∧ Below w.heap.size w w' := by
  have HT := Lib.hid hT
  have HR := Lib.hid hr
  have HRS := Lib.hid hrs
  have HS := Lib.hid nhs
  have HL := Lib.hid nhl
  have HST := Lib.hid nhst
  have HB0 := Lib.hid ((Below.refl w.heap.size w).alloc (Nat.le_refl _) (.cells #[.slice nao nlen ncap, .int .i64 n1, .int .i64 n2, .int .i64 n3, .int .i64 n4, .int .i64 n5, .int .i64 n6, .int .i64 n7, .int .i64 n8, .int .i64 n9, .int .i64 n10, .int .i64 n11] 24))
  have HK0 := Lib.hid (Blk.new w 24 #[.slice nao nlen ncap, .int .i64 n1, .int .i64 n2, .int .i64 n3, .int .i64 n4, .int .i64 n5, .int .i64 n6, .int .i64 n7, .int .i64 n8, .int .i64 n9, .int .i64 n10, .int .i64 n11])
  clear nhs nhl nhst hr hrs hT
  go_enter Tryd.func7, Tryd.ntmps7
  go_wp2_with fail
  generalize w.alloc (.cells #[.slice nao nlen ncap, .int .i64 n1, .int .i64 n2, .int .i64 n3, .int .i64 n4, .int .i64 n5, .int .i64 n6, .int .i64 n7, .int .i64 n8, .int .i64 n9, .int .i64 n10, .int .i64 n11] 24) = w0 at HB0 HK0 ⊢
  refine (alive_any w0 (HT.out.below HB0.out HT.out.size)).mono ?_
  rintro e w1 ⟨rfl, hb1⟩
  have HK := Lib.hid (HK0.out.below hb1 HK0.out.lt)
  have HB := Lib.hid (HB0.out.trans (hb1.mono HB0.out.size))
  generalize w.heap.size = A at HK ⊢
  clear hb1 HK0 HB0
  obtain ⟨q0, q1, q2, q3, q4, q5, q6, q7, q8, q9, q10, q11⟩ := HK.out.twelve
  go_wp2_with fail
  refine (tooMuch_any w1 nao nlen ncap nb noff n1 n2 n3 n4 n5 n6 n7 n8 n9 n10 n11 nvs HL.out ((HS.out.keep HB.out).more HB.out.size)).mono ?_
  rintro e w2 ⟨rfl, hb2⟩
  have HK2 := Lib.hid (HK.out.below hb2 HK.out.lt)
  have HB2 := Lib.hid (HB.out.trans (hb2.mono HB.out.size))
  clear q0 q1 q2 q3 q4 q5 q6 q7 q8 q9 q10 q11 hb2 HK HB
  cases hgr : tooMuch nvs with
  | true =>
    clear hgr
    go_wp2_with fail
    go_ret
    exact ⟨rfl, HB2.out⟩
  | false =>
    have hlen : nlen ≤ 100 := by rw [← HL.out]; simp [tooMuch] at hgr; omega
    clear hgr
    obtain ⟨q0, q1, q2, q3, q4, q5, q6, q7, q8, q9, q10, q11⟩ := HK2.out.twelve
    go_wp2_with fail
    refine (refGood_any w2 nao nlen ncap nb noff n1 n2 n3 n4 n5 n6 n7 n8 n9 n10 n11 nvs HL.out (by omega) HST.out ((HS.out.keep HB2.out).more HB2.out.size)).mono ?_
    rintro e w3 ⟨rfl, hb3⟩
    have HK3 := Lib.hid (HK2.out.below hb3 HK2.out.lt)
    have HB3 := Lib.hid (HB2.out.trans (hb3.mono HB2.out.size))
    clear q0 q1 q2 q3 q4 q5 q6 q7 q8 q9 q10 q11 hb3 HK2 HB2
    cases hgd : goodB (nums nlen n1 n2 n3 n4 n5 n6 n7 n8 n9 n10 n11) nvs with
    | false =>
      clear hgd
      go_wp2_with fail
      go_ret
      exact ⟨rfl, HB3.out⟩
    | true =>
      obtain ⟨hg1, hg2⟩ := good_len hgd
      obtain ⟨hk1, hk2, hk3⟩ := good_comm hgd
      obtain ⟨C, rfl⟩ : ∃ c : Nat, n2 = c := ⟨n2.toNat, by omega⟩
      have hC1 : 1 ≤ C := by omega
      have hC2 : C ≤ nlen := by omega
      have hC3 : C ≤ 16 := by omega
      clear hgd hk1 hk2 hk3
      by_cases hs0 : slot < 0
      · go_wp2_with fail
        go_ret
        exact ⟨rfl, HB3.out⟩
      · by_cases hs1 : (1073741824 : Int) < slot
        · go_wp2_with fail
          go_ret
          exact ⟨rfl, HB3.out⟩
        · by_cases h100 : (100 : Int) < (rlen : Int)
          · go_wp2_with fail
            go_ret
            exact ⟨rfl, HB3.out⟩
          · obtain ⟨L, hLL⟩ : ∃ L, L = comm slot nlen C := ⟨_, rfl⟩
            have HLL := Lib.hid hLL.symm
            have HLen := Lib.hid (show L.length = C by rw [hLL]; exact comm_length slot nlen C (by omega) hC2)
            clear hLL
            obtain ⟨i1, hi1, hy0, hy1, hy2⟩ := info_parts Tryd.infoB
            have hmk := fun W => run_makeSlice (P := Tryd.prog) W 25 4 i1 (.bool false) Tryd.underlying25 hi1 hy0 .i64 .i64 (rlen : Int) (rlen : Int) (by omega) (by omega) (by rw [hy1]; simp; omega) (by rw [hy2]; omega) (by omega)
            simp only [Int.toNat_natCast, hy1, Nat.mul_one] at hmk
            have HMK := Lib.hid hmk
            have hm3 := hmk w3
            have htk := Blk.new w3 4 (madeCells (Value.bool false).cells rlen)
            have hbk : Below w3.heap.size w3 (w3.alloc (.cells (madeCells (Value.bool false).cells rlen) 4)) := (Below.refl _ _).alloc (Nat.le_refl _) _
            rw [made_no rlen] at htk
            generalize w3.alloc (.cells (madeCells (Value.bool false).cells rlen) 4) = w4 at hm3 htk hbk
            obtain ⟨T, hTT⟩ : ∃ T, T = w3.heap.size := ⟨_, rfl⟩
            rw [← hTT] at hm3 htk
            have HTT := Lib.hid hTT
            have HTK := Lib.hid (show Blk w4 T 4 (ov (turned row 0)) by rw [show turned row 0 = List.replicate rlen false by simp [turned, HR.out]]; exact htk)
            have HBK := Lib.hid hbk
            clear hTT htk hbk hi1 hy0 hy1 hy2 hmk
            go_wp2_with fail
            clear hm3
            go_loopw [43] (fun i wr => ∃ (j : Nat), j ≤ rlen ∧ i = .int .i64 j ∧ Hid (Blk wr T 4 (ov (turned row j))) ∧ Hid (Below w3.heap.size w3 wr)) (fun i _ => rlen - (intOf i).toNat)
            case atStart => exact ⟨0, Nat.zero_le _, rfl, HTK, HBK⟩
            case round =>
              clear HTK HBK
              obtain ⟨j, hj, rfl, HTK, HBK⟩ := hrel
              have HBr := Lib.hid (HB3.out.trans (HBK.out.mono HB3.out.size))
              by_cases hlt : j < rlen
              · obtain ⟨x, hx⟩ : ∃ x, row[j]? = some x := ⟨_, List.getElem?_eq_getElem (by rw [HR.out]; exact hlt)⟩
                obtain ⟨ha, c1⟩ := HRS.out.bool HBr.out hx
                subst ha
                have c0 := (HTK.out.cell j).trans (ov_at (turned_at row j (by rw [HR.out]; exact hlt)))
                have f0 := HTK.out.free j
                have HTN := Lib.hid (show Blk (wr.setCell ⟨T, j, none⟩ (.bool (!x))) T 4 (ov (turned row (j + 1))) by
                  have h := HTK.out.set j (.bool (!x))
                  rw [show (ov (turned row j)).set j (.bool (!x)) = ov (turned row (j + 1)) by rw [← turned_set row j x hx]; simp [ov, List.map_set]] at h
                  exact h)
                have HBN := Lib.hid (HBK.out.setCell (p := ⟨T, j, none⟩) (by rw [HTT.out]; exact Nat.le_refl _) (.bool (!x)))
                clear hx
                go_wp2_with fail
                go_roundw
                case rel => exact ⟨j + 1, by omega, by go_num, HTN, HBN⟩
                case measure => simp [intOf]; omega
              · have HRO := Lib.hid (show Lies wr wr.heap.size (some ⟨T, 0, none⟩) T 0 (ov (row.map (!·))) by
                  have h := HTK.out
                  rw [show j = row.length by rw [HR.out]; omega, turned_end] at h
                  exact ⟨fun _ => rfl, fun _ => h.lt, fun i u hi => by rw [Nat.zero_add]; exact (h.cell i).trans hi⟩)
                obtain ⟨FT, hFT⟩ : ∃ P, P = fits L row := ⟨_, rfl⟩
                have HFT := Lib.hid hFT.symm
                have HFO := Lib.hid (show fits L (row.map (!·)) = FT by rw [hFT, fits, fits]; simp)
                have HFN := Lib.hid (show fits L (List.replicate rlen false) = FT by rw [hFT, fits, fits, HR.out]; simp)
                have HPN := Lib.hid (show picked L (List.replicate rlen false) = [] by rw [picked]; split; exact pick_none L rlen; rfl)
                have HK4 := Lib.hid (HK3.out.below HBK.out HK3.out.lt)
                obtain ⟨q0, q1, q2, q3, q4, q5, q6, q7, q8, q9, q10, q11⟩ := HK4.out.twelve
                clear hFT
                go_wp2_with fail
                refine (pick_any wr (HT.out.below HBr.out HT.out.size) nao nlen ncap n1 C n3 n4 n5 n6 n7 n8 n9 n10 n11 slot C rfl hg2 (by omega) hC1 hC2 rao rlen rcap rb roff row HR.out ((HRS.out.keep HBr.out).more HBr.out.size)).mono ?_
                rintro e w5 ⟨vA, rfl, hhA, hbA⟩
                rw [HLL.out] at hhA
                rw [HLL.out, HFT.out]
                have HRA := Lib.hid hhA.row
                have HRO5 := Lib.hid (HRO.out.below hbA)
                have HK5 := Lib.hid (HK4.out.below hbA HK4.out.lt)
                have HB5 := Lib.hid (HBr.out.trans (hbA.mono HBr.out.size))
                clear q0 q1 q2 q3 q4 q5 q6 q7 q8 q9 q10 q11 hbA hhA HK4 HRO
                obtain ⟨q0, q1, q2, q3, q4, q5, q6, q7, q8, q9, q10, q11⟩ := HK5.out.twelve
                go_wp2_with fail
                refine (pick_any w5 (HT.out.below HB5.out HT.out.size) nao nlen ncap n1 C n3 n4 n5 n6 n7 n8 n9 n10 n11 slot C rfl hg2 (by omega) hC1 hC2 (some ⟨T, 0, none⟩) rlen rlen T 0 (row.map (!·)) (by rw [List.length_map]; exact HR.out) HRO5.out).mono ?_
                rintro e w6 ⟨vB, rfl, hhB, hbB⟩
                rw [HLL.out] at hhB
                rw [HLL.out, HFO.out]
                have HRB := Lib.hid hhB.row
                have HRA6 := Lib.hid (HRA.out.keep hbB)
                have HK := Lib.hid (HK5.out.below hbB HK5.out.lt)
                have HB := Lib.hid (HB5.out.trans (hbB.mono HB5.out.size))
                clear q0 q1 q2 q3 q4 q5 q6 q7 q8 q9 q10 q11 hbB hhB HK5 HRA HRO5 HB5
                go_wp2_with fail
                refine wp_region_free (P := Tryd.prog) 10 (fun w' => Below w6.heap.size w6 w') (fun oq v w' => match oq with
                    | 0 => v = .agg #[.slice nao nlen ncap, .int .i64 n1, .int .i64 (C : Int), .int .i64 n3, .int .i64 n4, .int .i64 n5, .int .i64 n6, .int .i64 n7, .int .i64 n8, .int .i64 n9, .int .i64 n10, .int .i64 n11]
                    | 1 => v = .int .i64 slot
                    | 2 => v = .slice rao rlen rcap
                    | 3 => v = .int .i64 (rlen : Int)
                    | 4 => ∃ g, v = .slice (some ⟨g, 0, none⟩) rlen rlen ∧ Lies w' w'.heap.size (some ⟨g, 0, none⟩) g 0 (ov (List.replicate rlen false))
                    | 5 => ∃ x, v = .tuple #[x, .bool FT] ∧ Row w' x []
                    | 6 => ∃ x, v = .tuple #[x, .bool FT] ∧ Row w' x []
                    | 7 => Row w' v []
                    | 8 => v = .bool FT
                    | 9 => Row w' v []
                    | _ => True) (by kernel_rfl) (by kernel_rfl) (Below.refl _ _).drew ?gb ?vb ?steps ?fin
                case gb => exact fun a b h1 h2 => h1.trans (h2.mono h1.size)
                case vb =>
                  intro oq v a b h hb
                  match oq with
                  | 0 => exact h
                  | 1 => exact h
                  | 2 => exact h
                  | 3 => exact h
                  | 4 => obtain ⟨g, hg, hl⟩ := h; exact ⟨g, hg, hl.below hb⟩
                  | 5 => obtain ⟨x, hx, hr⟩ := h; exact ⟨x, hx, hr.keep hb⟩
                  | 6 => obtain ⟨x, hx, hr⟩ := h; exact ⟨x, hx, hr.keep hb⟩
                  | 7 => exact h.keep hb
                  | 8 => exact h
                  | 9 => exact h.keep hb
                  | _ + 10 => trivial
                case steps =>
                  intro vals
                  simp only [List.take_succ_cons, List.take_zero, freeSteps, Act.put, List.setIfInBounds_toArray, List.set_cons_zero, List.set_cons_succ, Nat.reduceAdd]
                  refine ⟨fun w8 hG hW => ?_, fun w8 hG hW => ?_, fun w8 hG hW => ?_, fun w8 hG hW => ?_, fun w8 hG hW => ?_, fun w8 hG hW => ?_, fun w8 hG hW => ?_, fun w8 hG hW => ?_, fun w8 hG hW => ?_, fun w8 hG hW => ?_, trivial⟩
                  · clear hW
                    refine stepAt_value rfl rfl rfl (.agg #[.slice nao nlen ncap, .int .i64 n1, .int .i64 (C : Int), .int .i64 n3, .int .i64 n4, .int .i64 n5, .int .i64 n6, .int .i64 n7, .int .i64 n8, .int .i64 n9, .int .i64 n10, .int .i64 n11]) w8 ?_ ⟨rfl, Below.refl _ _⟩
                    obtain ⟨q0, q1, q2, q3, q4, q5, q6, q7, q8, q9, q10, q11⟩ := (HK.out.below hG HK.out.lt).twelve
                    go_simp
                  · clear hW
                    refine stepAt_value rfl rfl rfl (.int .i64 slot) w8 ?_ ⟨rfl, Below.refl _ _⟩
                    go_simp
                  · clear hW
                    refine stepAt_value rfl rfl rfl (.slice rao rlen rcap) w8 ?_ ⟨rfl, Below.refl _ _⟩
                    go_simp
                  · have q2 := hW 2 (by decide)
                    simp only at q2
                    rw [q2]
                    clear hW
                    refine stepAt_value rfl rfl rfl (.int .i64 (rlen : Int)) w8 ?_ ⟨rfl, Below.refl _ _⟩
                    go_simp
                  · have q3 := hW 3 (by decide)
                    simp only at q3
                    rw [q3]
                    clear hW
                    refine stepAt_value rfl rfl rfl (.slice (some ⟨w8.heap.size, 0, none⟩) rlen rlen) (w8.alloc (.cells (madeCells (Value.bool false).cells rlen) 4)) ?_ ⟨⟨_, rfl, made_lies w8 rlen⟩, (Below.refl _ _).alloc (Nat.le_refl _) _⟩
                    have hmk := HMK.out w8
                    go_simp
                  · have q0 := hW 0 (by decide)
                    simp only at q0
                    have q1 := hW 1 (by decide)
                    simp only at q1
                    obtain ⟨g4, hg4, hl4⟩ := hW 4 (by decide)
                    rw [q0, q1, hg4]
                    clear hW
                    refine stepAt_call rfl rfl rfl 12 #[.agg #[.slice nao nlen ncap, .int .i64 n1, .int .i64 (C : Int), .int .i64 n3, .int .i64 n4, .int .i64 n5, .int .i64 n6, .int .i64 n7, .int .i64 n8, .int .i64 n9, .int .i64 n10, .int .i64 n11], .int .i64 slot, .slice (some ⟨g4, 0, none⟩) rlen rlen] (by go_simp) ((pick_any w8 (HT.out.below (HB.out.trans (hG.mono HB.out.size)) HT.out.size) nao nlen ncap n1 C n3 n4 n5 n6 n7 n8 n9 n10 n11 slot C rfl hg2 (by omega) hC1 hC2 (some ⟨g4, 0, none⟩) rlen rlen g4 0 (List.replicate rlen false) (by simp) hl4).mono fun e w' ⟨v, h1, h2, h3⟩ => ⟨_, h1, ⟨v, by rw [HLL.out, HFN.out], by have h4 := h2.row; rw [HLL.out, HPN.out] at h4; exact h4⟩, h3⟩)
                  · obtain ⟨x5, hx5, hr5⟩ := hW 5 (by decide)
                    rw [hx5]
                    clear hW
                    refine stepAt_value rfl rfl rfl (.tuple #[x5, .bool FT]) w8 ?_ ⟨⟨x5, rfl, hr5⟩, Below.refl _ _⟩
                    go_simp
                  · obtain ⟨x6, hx6, hr6⟩ := hW 6 (by decide)
                    rw [hx6]
                    clear hW
                    refine stepAt_value rfl rfl rfl x6 w8 ?_ ⟨hr6, Below.refl _ _⟩
                    go_simp
                  · obtain ⟨x6, hx6, hr6⟩ := hW 6 (by decide)
                    rw [hx6]
                    clear hW
                    refine stepAt_value rfl rfl rfl (.bool FT) w8 ?_ ⟨rfl, Below.refl _ _⟩
                    go_simp
                  · have h7 : Row w8 (vals 7) [] := hW 7 (by decide)
                    generalize vals 7 = u7 at h7 ⊢
                    clear hW
                    refine stepAt_value rfl rfl rfl u7 w8 ?_ ⟨h7, Below.refl _ _⟩
                    go_simp
                case fin =>
                  intro vals w8 hG hV
                  have q8 := hV 8 (by omega)
                  have h9 : Row w8 (vals 9) [] := hV 9 (by omega)
                  simp only at q8
                  simp only [List.take_succ_cons, List.take_zero, List.drop_succ_cons, List.drop_zero, putAll, Act.put, List.setIfInBounds_toArray, List.set_cons_zero, List.set_cons_succ, Nat.reduceAdd]
                  rw [q8]
                  clear hV q8
                  generalize vals 9 = vN at h9 ⊢
                  generalize vals 0 = x0
                  generalize vals 1 = x1
                  generalize vals 2 = x2
                  generalize vals 3 = x3
                  generalize vals 4 = x4
                  generalize vals 5 = x5
                  generalize vals 6 = x6
                  generalize vals 7 = x7
                  have q2 := (HK.out.below hG HK.out.lt).cell 2
                  simp only [List.getElem?_cons_zero, List.getElem?_cons_succ] at q2
                  have hA := HRA6.out
                  have hB := HRB.out
                  obtain ⟨aoA, capA, bA, oA, hvA, _⟩ := hA
                  obtain ⟨aoB, capB, bB, oB, hvB, _⟩ := hB
                  obtain ⟨aoN, capN, bN, oN, hvN, _⟩ := h9
                  rw [List.length_nil] at hvN
                  subst hvA
                  subst hvB
                  subst hvN
                  have HBF := Lib.hid (HB.out.trans (hG.mono HB.out.size))
                  clear hG
                  by_cases hrc : rlen = C
                  · have hft : FT = true := by rw [← HFT.out, fits, HLen.out, HR.out, hrc]; simp; omega
                    have hsum := pick_both L row (by rw [HR.out, HLen.out]; exact hrc)
                    rw [← show picked L row = pickL L row by rw [picked, HFT.out, hft]; rfl, ← show picked L (row.map (!·)) = pickL L (row.map (!·)) by rw [picked, HFO.out, hft]; rfl, HLen.out] at hsum
                    generalize (picked L row).length = la at hsum ⊢
                    generalize (picked L (row.map (!·))).length = lb at hsum ⊢
                    have hw : IntKind.i64.wrap ((la : Int) + (lb : Int)) = (C : Int) := by rw [IntKind.wrap_i64]; omega
                    subst hft
                    subst hrc
                    clear hsum
                    go_wp2_with fail
                    go_ret
                    exact ⟨rfl, HBF.out⟩
                  · have hft : FT = false := by rw [← HFT.out, fits, HLen.out, HR.out]; simp [hrc]
                    have ha : (picked L row).length = 0 := by rw [picked, HFT.out, hft]; rfl
                    have hb : (picked L (row.map (!·))).length = 0 := by rw [picked, HFO.out, hft]; rfl
                    rw [ha, hb]
                    have hne : ¬ ((rlen : Int) = (C : Int)) := by omega
                    have hne2 : ((rlen : Int) == (C : Int)) = false := by simp; omega
                    subst hft
                    clear ha hb
                    go_wp2_with fail
                    go_ret
                    exact ⟨rfl, HBF.out⟩
end Go.Proofs.YtginfmbcljlneaaDoor
