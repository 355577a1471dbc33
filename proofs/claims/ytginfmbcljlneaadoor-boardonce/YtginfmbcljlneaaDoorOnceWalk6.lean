/-
  The walk of BoardOnce.
-/
import Derived.Test.YtginfmbcljlneaaDoorRow6
namespace Go.Proofs.YtginfmbcljlneaaDoor
open Go.RowKit
set_option maxRecDepth 100000

/-- Who stands at i stands there first. -/
theorem place_here : ∀ (l : List Nat) (i k x : Nat), l.Nodup → l[i]? = some x → placeFrom (x : Int) k l = ((k + i : Nat) : Int)
  | [], _, _, _, _, h => by simp at h
  | a :: l, 0, k, x, _, h => by simp at h; subst h; rw [placeFrom, if_pos rfl]; simp
  | a :: l, i + 1, k, x, hn, h => by
    simp at h
    have hne : a ≠ x := fun e => (List.nodup_cons.1 hn).1 (e ▸ List.mem_of_getElem? h)
    rw [placeFrom, if_neg (by omega), place_here l i (k + 1) x (List.nodup_cons.1 hn).2 h]
    congr 1
    omega
/-- Of a row that says yes everywhere all are picked. -/
theorem pick_all : ∀ (l : List Nat), pickL l (List.replicate l.length true) = l
  | [] => rfl
  | a :: l => by rw [List.length_cons, List.replicate_succ, pickL, if_pos rfl, pick_all l]
theorem fill_set (m j : Nat) (h : j < m) : (List.replicate j true ++ List.replicate (m - j) false).set j true = List.replicate (j + 1) true ++ List.replicate (m - (j + 1)) false := by
  rw [List.set_append_right _ _ (by simp), List.length_replicate, Nat.sub_self, show m - j = (m - (j + 1)) + 1 by omega, List.replicate_succ, List.set_cons_zero, List.replicate_succ', List.append_assoc]
  rfl
theorem fill_no (m j : Nat) (h : j < m) : (List.replicate j true ++ List.replicate (m - j) false)[j]? = some false := by
  rw [List.getElem?_append_right (by simp), List.length_replicate, Nat.sub_self, List.getElem?_replicate, if_pos (by omega)]
theorem made_no (m : Nat) : (madeCells (Value.bool false).cells m).toList = ov (List.replicate m false) := by
  apply List.ext_getElem?
  intro i
  by_cases h : i < m
  · simp [madeCells, Value.cells, Nat.mod_one, ov, h]
  · rw [List.getElem?_eq_none (by rw [Array.length_toList, size_madeCells]; omega), List.getElem?_eq_none (by rw [ov_length]; simp; omega)]

set_option maxHeartbeats 8000000 in
theorem boardOnce_any (w : World) (hT : Tabs w) (nao : Option Addr) (nlen ncap nb noff : Nat) (n1 n2 n3 n4 n5 n6 n7 n8 n9 n10 n11 : Int) (nvs : List (Int × ByteArray)) (nhl : nvs.length = nlen) (nhst : Stakes nvs) (nhs : Lies w w.heap.size nao nb noff (vc nvs)) (slot : Int) :
    Calls Tryd.prog 4 #[.agg #[.slice nao nlen ncap, .int .i64 n1, .int .i64 n2, .int .i64 n3, .int .i64 n4, .int .i64 n5, .int .i64 n6, .int .i64 n7, .int .i64 n8, .int .i64 n9, .int .i64 n10, .int .i64 n11], .int .i64 slot] w fun e w' => e = .returned (.bool true) ∧ Below w.heap.size w w' := by
  have HT := Lib.hid hT
  have HS := Lib.hid nhs
  have HL := Lib.hid nhl
  have HST := Lib.hid nhst
  have HB0 := Lib.hid ((Below.refl w.heap.size w).alloc (Nat.le_refl _) (.cells #[.slice nao nlen ncap, .int .i64 n1, .int .i64 n2, .int .i64 n3, .int .i64 n4, .int .i64 n5, .int .i64 n6, .int .i64 n7, .int .i64 n8, .int .i64 n9, .int .i64 n10, .int .i64 n11] 24))
  have HK0 := Lib.hid (Blk.new w 24 #[.slice nao nlen ncap, .int .i64 n1, .int .i64 n2, .int .i64 n3, .int .i64 n4, .int .i64 n5, .int .i64 n6, .int .i64 n7, .int .i64 n8, .int .i64 n9, .int .i64 n10, .int .i64 n11])
  clear nhs nhl nhst hT
  go_enter Tryd.func4, Tryd.ntmps4
  go_wp2_with fail
  generalize w.alloc (.cells #[.slice nao nlen ncap, .int .i64 n1, .int .i64 n2, .int .i64 n3, .int .i64 n4, .int .i64 n5, .int .i64 n6, .int .i64 n7, .int .i64 n8, .int .i64 n9, .int .i64 n10, .int .i64 n11] 24) = w0 at HB0 HK0 ⊢
  refine (alive_any w0 (HT.out.below HB0.out HT.out.size)).mono ?_
  rintro e w1 ⟨rfl, hb1⟩
  have HK := Lib.hid (HK0.out.below hb1 HK0.out.lt)
  have HB := Lib.hid (HB0.out.trans (hb1.mono HB0.out.size))
  generalize w.heap.size = A at HK ⊢
  clear hb1 HK0 HB0
  obtain ⟨q0, q1, q2, q3, q4, q5, q6, q7, q8, q9, q10, q11⟩ := HK.out.twelve
  go_wp2_with fail
  refine (tooMuch_any w1 nao nlen ncap nb noff n1 n2 n3 n4 n5 n6 n7 n8 n9 n10 n11 nvs HL.out ((HS.out.keep HB.out).more HB.out.size)).mono ?_
  rintro e w2 ⟨rfl, hb2⟩
  have HK2 := Lib.hid (HK.out.below hb2 HK.out.lt)
  have HB2 := Lib.hid (HB.out.trans (hb2.mono HB.out.size))
  clear q0 q1 q2 q3 q4 q5 q6 q7 q8 q9 q10 q11 hb2 HK HB
  cases hgr : tooMuch nvs with
  | true =>
    clear hgr
    go_wp2_with fail
    go_ret
    exact ⟨rfl, HB2.out⟩
  | false =>
    have hlen : nlen ≤ 100 := by rw [← HL.out]; simp [tooMuch] at hgr; omega
    clear hgr
    obtain ⟨q0, q1, q2, q3, q4, q5, q6, q7, q8, q9, q10, q11⟩ := HK2.out.twelve
    go_wp2_with fail
    refine (refGood_any w2 nao nlen ncap nb noff n1 n2 n3 n4 n5 n6 n7 n8 n9 n10 n11 nvs HL.out (by omega) HST.out ((HS.out.keep HB2.out).more HB2.out.size)).mono ?_
    rintro e w3 ⟨rfl, hb3⟩
    have HK3 := Lib.hid (HK2.out.below hb3 HK2.out.lt)
    have HB3 := Lib.hid (HB2.out.trans (hb3.mono HB2.out.size))
    clear q0 q1 q2 q3 q4 q5 q6 q7 q8 q9 q10 q11 hb3 HK2 HB2
    cases hgd : goodB (nums nlen n1 n2 n3 n4 n5 n6 n7 n8 n9 n10 n11) nvs with
    | false =>
      clear hgd
      go_wp2_with fail
      go_ret
      exact ⟨rfl, HB3.out⟩
    | true =>
      obtain ⟨hg1, hg2⟩ := good_len hgd
      obtain ⟨hk1, hk2, hk3⟩ := good_comm hgd
      obtain ⟨C, rfl⟩ : ∃ c : Nat, n2 = c := ⟨n2.toNat, by omega⟩
      have hC1 : 1 ≤ C := by omega
      have hC2 : C ≤ nlen := by omega
      have hC3 : C ≤ 16 := by omega
      clear hgd hk1 hk2 hk3
      by_cases hs0 : slot < 0
      · go_wp2_with fail
        go_ret
        exact ⟨rfl, HB3.out⟩
      · by_cases hs1 : (1073741824 : Int) < slot
        · go_wp2_with fail
          go_ret
          exact ⟨rfl, HB3.out⟩
        · obtain ⟨q0, q1, q2, q3, q4, q5, q6, q7, q8, q9, q10, q11⟩ := HK3.out.twelve
          obtain ⟨L, hLL⟩ : ∃ L, L = comm slot nlen C := ⟨_, rfl⟩
          have HLL := Lib.hid hLL.symm
          have HLen := Lib.hid (show L.length = C by rw [hLL]; exact comm_length slot nlen C (by omega) hC2)
          have HND := Lib.hid (show L.Nodup by rw [hLL]; exact comm_nodup slot nlen C)
          have HME := Lib.hid (show ∀ i ∈ L, i < nlen by rw [hLL]; exact comm_mem slot nlen C)
          clear hLL
          go_wp2_with fail
          refine (members_any w3 (HT.out.below HB3.out HT.out.size) nao nlen ncap n1 C n3 n4 n5 n6 n7 n8 n9 n10 n11 slot C rfl hg2 (by omega) hC1 hC2).mono ?_
          rintro e w4 ⟨vW, rfl, hh4, hb4⟩
          rw [HLL.out] at hh4
          have HK4 := Lib.hid (HK3.out.below hb4 HK3.out.lt)
          have HB4 := Lib.hid (HB3.out.trans (hb4.mono HB3.out.size))
          obtain ⟨ao, cap, b, off, hv, hl⟩ := hh4.row
          rw [HLen.out] at hv
          subst hv
          have hao := hl.addr (by rw [iv_length, HLen.out]; omega)
          subst hao
          have HLI := Lib.hid hl
          clear q0 q1 q2 q3 q4 q5 q6 q7 q8 q9 q10 q11 hb4 HK3 HB3 hh4 hl
          have q2 := HK4.out.cell 2
          simp only [List.getElem?_cons_zero, List.getElem?_cons_succ] at q2
          go_wp2_with fail
          go_loopw [39] (fun i wr => ∃ (j : Nat), j ≤ C ∧ i = .int .i64 j ∧ Hid (Below w4.heap.size w4 wr)) (fun i _ => C - (intOf i).toNat)
          case atStart => exact ⟨0, Nat.zero_le _, rfl, Lib.hid (Below.refl _ _)⟩
          case round =>
            clear q2
            obtain ⟨j, hj, rfl, HBel⟩ := hrel
            have HKr := Lib.hid (HK4.out.below HBel.out HK4.out.lt)
            have HBr := Lib.hid (HB4.out.trans (HBel.out.mono HB4.out.size))
            obtain ⟨q0, q1, q2, q3, q4, q5, q6, q7, q8, q9, q10, q11⟩ := HKr.out.twelve
            by_cases hlt : j < C
            · obtain ⟨x, hx⟩ : ∃ x, L[j]? = some x := ⟨_, List.getElem?_eq_getElem (by rw [HLen.out]; exact hlt)⟩
              obtain ⟨_, c0⟩ := HLI.out.int HBel.out hx
              have hxn : x < nlen := HME.out x (List.mem_of_getElem? hx)
              have HPL := Lib.hid (place_here L j 0 x HND.out hx)
              have hx1 : ¬ ((nlen : Int) ≤ (x : Int)) := by omega
              clear hx
              go_wp2_with fail
              refine (place_any wr (HT.out.below HBr.out HT.out.size) nao nlen ncap n1 C n3 n4 n5 n6 n7 n8 n9 n10 n11 slot (x : Int) C rfl hg2 (by omega) hC1 hC2).mono ?_
              rintro e w5 ⟨rfl, hb5⟩
              rw [HLL.out, HPL.out, Nat.zero_add]
              have HB5 := Lib.hid (HBel.out.trans (hb5.mono HBel.out.size))
              clear q0 q1 q2 q3 q4 q5 q6 q7 q8 q9 q10 q11 hb5 c0
              go_wp2_with fail
              go_roundw
              case rel => exact ⟨j + 1, by omega, by go_num, HB5⟩
              case measure => simp [intOf]; omega
            · have hjC : j = C := by omega
              subst hjC
              clear q0 q1 q2 q3 q4 q5 q6 q7 q8 q9 q10 q11
              obtain ⟨wL, rfl⟩ : ∃ x, x = wr := ⟨_, rfl⟩
              obtain ⟨i1, hi1, hy0, hy1, hy2⟩ := info_parts Tryd.infoB
              have hmk := run_makeSlice (P := Tryd.prog) wL 25 4 i1 (.bool false) Tryd.underlying25 hi1 hy0 .i64 .i64 (j : Int) (j : Int) (by omega) (by omega) (by rw [hy1]; simp; omega) (by rw [hy2]; omega) (by omega)
              simp only [Int.toNat_natCast, hy1, Nat.mul_one] at hmk
              have htk := Blk.new wL 4 (madeCells (Value.bool false).cells j)
              have hbk : Below wL.heap.size wL (wL.alloc (.cells (madeCells (Value.bool false).cells j) 4)) := (Below.refl _ _).alloc (Nat.le_refl _) _
              rw [made_no j] at htk
              generalize wL.alloc (.cells (madeCells (Value.bool false).cells j) 4) = w5 at hmk htk hbk
              obtain ⟨T, hT⟩ : ∃ T, T = wL.heap.size := ⟨_, rfl⟩
              rw [← hT] at hmk htk
              have HTT := Lib.hid hT
              have HTK := Lib.hid htk
              have HBK := Lib.hid hbk
              clear hT htk hbk hi1 hy0 hy1 hy2
              go_wp2_with fail
              clear hmk
              go_loopw [67] (fun i wr => ∃ (q : Nat), q ≤ j ∧ i = .int .i64 q ∧ Hid (Blk wr T 4 (ov (List.replicate q true ++ List.replicate (j - q) false))) ∧ Hid (Below wL.heap.size wL wr)) (fun i _ => j - (intOf i).toNat)
              case atStart => exact ⟨0, Nat.zero_le _, rfl, Lib.hid (by simpa using HTK.out), HBK⟩
              case round =>
                clear HTK HBK
                obtain ⟨q, hq, rfl, HTK, HBK⟩ := hrel
                by_cases hlq : q < j
                · have c0 := (HTK.out.cell q).trans (ov_at (fill_no j q hlq))
                  have f0 := HTK.out.free q
                  have HTN := Lib.hid (show Blk (wr.setCell ⟨T, q, none⟩ (.bool true)) T 4 (ov (List.replicate (q + 1) true ++ List.replicate (j - (q + 1)) false)) by
                    have h := HTK.out.set q (.bool true)
                    rw [show (ov (List.replicate q true ++ List.replicate (j - q) false)).set q (.bool true) = ov (List.replicate (q + 1) true ++ List.replicate (j - (q + 1)) false) by rw [← fill_set j q hlq]; simp [ov, List.map_set]] at h
                    exact h)
                  have HBN := Lib.hid (HBK.out.setCell (p := ⟨T, q, none⟩) (by rw [HTT.out]; exact Nat.le_refl _) (.bool true))
                  go_wp2_with fail
                  go_roundw
                  case rel => exact ⟨q + 1, by omega, by go_num, HTN, HBN⟩
                  case measure => simp [intOf]; omega
                · have hqj : q = j := by omega
                  have HRO := Lib.hid (show Lies wr wr.heap.size (some ⟨T, 0, none⟩) T 0 (ov (List.replicate j true)) by
                    have h := HTK.out
                    rw [hqj, Nat.sub_self, List.replicate_zero, List.append_nil] at h
                    exact ⟨fun _ => rfl, fun _ => h.lt, fun i u hi => by rw [Nat.zero_add]; exact (h.cell i).trans hi⟩)
                  clear hqj
                  have HK6 := Lib.hid (HKr.out.below HBK.out HKr.out.lt)
                  have HB6 := Lib.hid (HBr.out.trans (HBK.out.mono HBr.out.size))
                  obtain ⟨q0, q1, q2, q3, q4, q5, q6, q7, q8, q9, q10, q11⟩ := HK6.out.twelve
                  go_wp2_with fail
                  refine (pick_any wr (HT.out.below HB6.out HT.out.size) nao nlen ncap n1 j n3 n4 n5 n6 n7 n8 n9 n10 n11 slot j rfl hg2 (by omega) hC1 hC2 (some ⟨T, 0, none⟩) j j T 0 (List.replicate j true) (by simp) HRO.out).mono ?_
                  rintro e w7 ⟨vP, rfl, hhP, hbP⟩
                  have HFI := Lib.hid (show fits L (List.replicate j true) = true by rw [fits, HLen.out]; simp; omega)
                  have HPI := Lib.hid (show picked L (List.replicate j true) = L by rw [picked, HFI.out, if_pos rfl, ← HLen.out]; exact pick_all L)
                  rw [HLL.out, HPI.out] at hhP
                  rw [HLL.out, HFI.out]
                  have HRP := Lib.hid hhP.row
                  have HRL := Lib.hid (show Row w7 (.slice (some ⟨b, off, none⟩) j cap) L from ⟨_, cap, b, off, by rw [HLen.out], HLI.out.below ((HBel.out.trans (HBK.out.mono HBel.out.size)).trans (hbP.mono (HBel.out.trans (HBK.out.mono HBel.out.size)).size))⟩)
                  have HB7 := Lib.hid (HB6.out.trans (hbP.mono HB6.out.size))
                  clear q0 q1 q2 q3 q4 q5 q6 q7 q8 q9 q10 q11 hbP hhP
                  go_wp2_with fail
                  refine (same_row HRP.out HRL.out (by rw [HLen.out]; omega)).mono ?_
                  rintro e w8 ⟨rfl, hb8⟩
                  have HB8 := Lib.hid (HB7.out.trans (hb8.mono HB7.out.size))
                  rw [show decide (L = L) = true by simp]
                  clear hb8
                  go_wp2_with fail
                  go_ret
                  exact ⟨rfl, HB8.out⟩
end Go.Proofs.YtginfmbcljlneaaDoor
