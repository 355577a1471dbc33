/-
  What the reference's Members answers, of a configuration that can be: the slot's committee.
-/
import Derived.Test.YtnbdpalbompjlaaDoorLotsTk
import Derived.Test.YtnbdpalbompjlaaDoorRefPut
import Derived.Test.YtnbdpalbompjlaaDoorRefOf
import Derived.Test.YtnbdpalbompjlaaDoorM11
import Derived.Test.YtnbdpalbompjlaaDoorM3
import Derived.Test.YtnbdpalbompjlaaDoorM4
namespace Go.Proofs.YtnbdpalbompjlaaDoor
open Go.RowKit
set_option maxRecDepth 100000

set_option maxHeartbeats 8000000 in
theorem refMembers_any (w : World) (nao : Option Addr) (nlen ncap : Nat) (n1 n2 n3 n4 n5 n6 n7 n8 n9 n10 n11 : Int) (slot : Int) (C : Nat) (hC : n2 = C) (hl1 : 1 ≤ nlen) (hl2 : nlen ≤ 1000) (_hc1 : 1 ≤ C) (hc2 : C ≤ nlen) :
    Calls Tryd.prog 26 #[.agg #[.slice nao nlen ncap, .int .i64 n1, .int .i64 n2, .int .i64 n3, .int .i64 n4, .int .i64 n5, .int .i64 n6, .int .i64 n7, .int .i64 n8, .int .i64 n9, .int .i64 n10, .int .i64 n11], .int .i64 slot] w fun e w' => ∃ v, e = .returned v ∧ Held w' w.heap.size v (iv (comm slot nlen C)) ∧ Below w.heap.size w w' := by
  subst hC
  obtain ⟨i0, hi0, hz0, hz1, hz2⟩ := info_parts Tryd.infoR
  obtain ⟨i1, hi1, hy0, hy1, hy2⟩ := info_parts Tryd.infoB
  obtain ⟨i2, hi2, hx0, hx1, hx2⟩ := info_parts Tryd.info3
  have HI := Lib.hid (⟨hi0, hz0, hz1, hz2⟩ : Tryd.prog.info? 26 = some i0 ∧ i0.zero = some (.agg (Array.replicate 32 (.int .u8 0))) ∧ i0.size = 32 ∧ i0.bytes = 32)
  have HJ := Lib.hid (⟨hi2, hx0, hx1, hx2⟩ : Tryd.prog.info? 3 = some i2 ∧ i2.zero = some (.int .i64 0) ∧ i2.size = 1 ∧ i2.bytes = 8)
  have hmk := fun W => run_makeSlice (P := Tryd.prog) W 28 4 i1 (.bool false) Tryd.underlying28 hi1 hy0 .i64 .i64 (nlen : Int) (nlen : Int) (by omega) (by omega) (by rw [hy1]; simp; omega) (by rw [hy2]; omega) (by omega)
  simp only [Int.toNat_natCast, hy1, Nat.mul_one] at hmk
  have HMK := Lib.hid hmk
  clear hi0 hz0 hz1 hz2 hi1 hy0 hy1 hy2 hi2 hx0 hx1 hx2 hmk
  have HB0 := Lib.hid ((Below.refl w.heap.size w).alloc (Nat.le_refl _) (.cells #[.slice nao nlen ncap, .int .i64 n1, .int .i64 C, .int .i64 n3, .int .i64 n4, .int .i64 n5, .int .i64 n6, .int .i64 n7, .int .i64 n8, .int .i64 n9, .int .i64 n10, .int .i64 n11] 24))
  have HK0 := Lib.hid (Blk.new w 24 #[.slice nao nlen ncap, .int .i64 n1, .int .i64 C, .int .i64 n3, .int .i64 n4, .int .i64 n5, .int .i64 n6, .int .i64 n7, .int .i64 n8, .int .i64 n9, .int .i64 n10, .int .i64 n11])
  by_cases h0 : slot < 0
  · have HE := Lib.hid (show comm slot nlen C = [] by rw [comm, if_neg (by omega)])
    go_enter Tryd.func26, Tryd.ntmps26
    go_wp2_with fail
    go_ret
    exact ⟨_, rfl, by rw [HE.out]; exact Held.nil _ _, HB0.out⟩
  · by_cases hm : (1073741824 : Int) < slot
    · have HE := Lib.hid (show comm slot nlen C = [] by rw [comm, if_neg (by omega)])
      go_enter Tryd.func26, Tryd.ntmps26
      go_wp2_with fail
      go_ret
      exact ⟨_, rfl, by rw [HE.out]; exact Held.nil _ _, HB0.out⟩
    · obtain ⟨S, rfl⟩ : ∃ S : Nat, slot = S := ⟨slot.toNat, by omega⟩
      have hS : S ≤ 1073741824 := by omega
      have HE := Lib.hid (show comm (S : Int) nlen C = (ranks S nlen).take C by rw [comm, if_pos (by omega)]; rfl)
      have hu1 : IntKind.u64.wrap (S : Int) = (S : Int) := by rw [IntKind.wrap_u64]; omega
      go_enter Tryd.func26, Tryd.ntmps26
      go_wp2_with fail
      generalize w.alloc (.cells #[.slice nao nlen ncap, .int .i64 n1, .int .i64 C, .int .i64 n3, .int .i64 n4, .int .i64 n5, .int .i64 n6, .int .i64 n7, .int .i64 n8, .int .i64 n9, .int .i64 n10, .int .i64 n11] 24) = w1 at HB0 HK0 ⊢
      go_loopw [5, 20] (fun v i wr => ∃ (j : Nat), j ≤ nlen ∧ i = .int .i64 j ∧ Hid (Wide 32 wr w1.heap.size v (rc S j)) ∧ Hid (Below w1.heap.size w1 wr)) (fun _ i _ => nlen - (intOf i).toNat)
      case atStart => exact ⟨0, Nat.zero_le _, rfl, Lib.hid (wide_nil 32 w1 w1.heap.size), Lib.hid (Below.refl _ _)⟩
      case round =>
        obtain ⟨j, hj, rfl, HV, HBel⟩ := hrel
        by_cases hlt : j < nlen
        · have hu2 : IntKind.u64.wrap (j : Int) = (j : Int) := by rw [IntKind.wrap_u64]; omega
          go_wp2_with fail
          refine (refput_any wr S 4 (by omega)).mono ?_
          rintro e w2 ⟨rfl, hb2⟩
          obtain ⟨X4, hX4⟩ : ∃ X : ByteArray, X = ⟨(leB S (wid 4)).toArray⟩ := ⟨_, rfl⟩
          rw [← hX4]
          have z4 : X4.size = 4 := by rw [hX4]; simp [ByteArray.size, leB_length]; rfl
          have HX4 := Lib.hid hX4
          have HB2 := Lib.hid (HBel.out.trans (hb2.mono HBel.out.size))
          have HV2 := Lib.hid (HV.out.below hb2)
          clear hb2 hX4 HBel HV
          go_wp2_with fail
          refine (refput_any w2 j 2 (by omega)).mono ?_
          rintro e w3 ⟨rfl, hb3⟩
          obtain ⟨X2, hX2⟩ : ∃ X : ByteArray, X = ⟨(leB j (wid 2)).toArray⟩ := ⟨_, rfl⟩
          rw [← hX2]
          have z2 : X2.size = 2 := by rw [hX2]; simp [ByteArray.size, leB_length]; rfl
          have HXX := Lib.hid (show (⟨#[98, 111, 97, 114, 100]⟩ : ByteArray) ++ X4 ++ X2 = ⟨(lotB S j).toArray⟩ by
            rw [HX4.out, hX2, show wid 4 = 4 from rfl, show wid 2 = 2 from rfl]
            apply ByteArray.ext
            simp [lotB, boardB])
          have HB3 := Lib.hid (HB2.out.trans (hb3.mono HB2.out.size))
          have HV3 := Lib.hid (HV2.out.below hb3)
          clear hb3 hX2 HX4 HB2 HV2
          go_wp2_with fail
          rw [HXX.out]
          refine (refof_any w3 (lotB S j) (by rw [lotB_length]; omega)).mono ?_
          rintro e w4 ⟨rfl, hb4⟩
          rw [show digest (lotB S j) = lotD S j from rfl]
          have HDL := Lib.hid (show (bv (lotD S j)).length = 32 by rw [bv_length, lotD_length])
          have HRS := Lib.hid (rc_succ S j)
          have HRL := Lib.hid (rc_length S j)
          have HB4 := Lib.hid (HB3.out.trans (hb4.mono HB3.out.size))
          have hsz4 := HB4.out.size
          generalize lotD S j = D at HDL HRS ⊢
          have HV4 := Lib.hid ((HV3.out.below hb4).alloc (.cells (bv D).toArray 26))
          have HFL := Lib.hid (show [bv D].flatten = bv D by simp)
          have HSrc := Lib.hid (src_row (P := Tryd.prog) w4 32 (by omega) 76 26 Tryd.underlying76 (bv D) HDL.out (bv_one D))
          have HB5 := Lib.hid (HB4.out.alloc hsz4 (.cells (bv D).toArray 26))
          clear hb4 HB3 HV3 HXX
          go_wp2_with (first
            | ((with_reducible refine wpList_build_rows ?_ 76 26 1 #[(0, .tmp 32)] ?_ i0 (.agg (Array.replicate 32 (.int .u8 0))) (s := 32) (by omega) [bv D] ?_ Tryd.underlying76 HI.out.1 HI.out.2.1 HI.out.2.2.1 ?_ ?_ ?_ ?_ ?_); rfl; rfl; (intro r hr; rw [List.mem_singleton] at hr; subst hr; exact HDL.out); rfl; omega; omega; rfl; rw [HFL.out])
            | (at_builtin; refine wpList_append_wide rfl _ _ 76 76 rfl rfl HV4.out (by omega) 26 i0 (.agg (Array.replicate 32 (.int .u8 0))) 32 Tryd.underlying76 HI.out.1 HI.out.2.1 HI.out.2.2.1 HI.out.2.2.2 rfl _ rfl 1 (bv D) HSrc.out ?e2 ?e3 ?e4 ?_))
          case e2 => rw [HRL.out]; unfold maxLen; omega
          case e3 => rw [HRL.out]; omega
          case e4 => (try rw [World.size_alloc]); omega
          intro v6 w6 hh hg
          have HB6 := Lib.hid (HB5.out.trans (hg.belowW HV4.out HB5.out.size))
          have HV6 := Lib.hid (show Wide 32 w6 w1.heap.size v6 (rc S (j + 1)) by rw [HRS.out]; exact hh)
          clear hh hg HSrc HV4 HB4 HB5
          go_wp2_with fail
          go_roundw
          case rel => exact ⟨j + 1, by omega, by go_num, HV6, HB6⟩
          case measure => simp [intOf]; omega
        · have hjn : j = nlen := by omega
          subst hjn
          obtain ⟨wL, rfl⟩ : ∃ x, x = wr := ⟨_, rfl⟩
          obtain ⟨ao, m, lcap, b, off, he, hlen, hlies⟩ := HV.out.lies
          rw [rc_length] at hlen
          have hmj : m = j := by omega
          subst hmj
          have hao := hlies.addr (by rw [rc_length]; omega)
          subst hao
          subst he
          have hmk := HMK.out wL
          have htk := Blk.new wL 4 (madeCells (Value.bool false).cells m)
          have hbk : Below wL.heap.size wL (wL.alloc (.cells (madeCells (Value.bool false).cells m) 4)) := (Below.refl _ _).alloc (Nat.le_refl _) _
          have hsz : (wL.alloc (.cells (madeCells (Value.bool false).cells m) 4)).heap.size = wL.heap.size + 1 := by simp
          rw [show (madeCells (Value.bool false).cells m).toList = ov (tk S m 0) by
            rw [tk_zero]
            apply List.ext_getElem?
            intro i
            by_cases h : i < m
            · simp [madeCells, Value.cells, Nat.mod_one, ov, h]
            · rw [List.getElem?_eq_none (by rw [Array.length_toList, size_madeCells]; omega), List.getElem?_eq_none (by rw [ov_length]; simp; omega)]] at htk
          generalize wL.alloc (.cells (madeCells (Value.bool false).cells m) 4) = w2 at hmk htk hbk hsz
          obtain ⟨T, hT⟩ : ∃ T, T = wL.heap.size := ⟨_, rfl⟩
          rw [← hT] at hmk htk hsz
          have HTT := Lib.hid hT
          have HTK := Lib.hid htk
          have HBK := Lib.hid hbk
          have HSZ := Lib.hid hsz
          have HLI := Lib.hid hlies
          have HCF := Lib.hid (HK0.out.below HBel.out HK0.out.lt)
          have HWR := Lib.hid (HB0.out.trans (HBel.out.mono HB0.out.size))
          have hA : w.heap.size < wL.heap.size := HCF.out.lt
          clear hT htk hbk hsz hlies hlen HMK HK0 HB0 HV
          go_wp2_with fail
          clear hmk
          go_loopw [7] (fun v wr' => ∃ (k : Nat), k ≤ C ∧ Hid (Held wr' (T + 1) v (iv ((ranks S m).take k))) ∧ Hid (Blk wr' T 4 (ov (tk S m k))) ∧ Hid (Below wL.heap.size wL wr')) (fun v _ => C - lenOf v)
          case atStart => exact ⟨0, Nat.zero_le _, Lib.hid (by simpa [iv] using Held.nil w2 (T + 1)), HTK, HBK⟩
          case round =>
            clear HTK HBK
            obtain ⟨k, hk, HV, HTK, HBK⟩ := hrel
            obtain ⟨wk, rfl⟩ : ∃ x, x = wr := ⟨_, rfl⟩
            obtain ⟨ao2, cap2, hsh⟩ := HV.out.shape
            have hlk : (iv ((ranks S m).take k)).length = k := by rw [iv_length, List.length_take, ranks_length]; omega
            rw [hlk] at hsh
            have HLK := Lib.hid hlk
            subst hsh
            have cA := (HCF.out.below HBK.out hA).cell 2
            simp only [List.getElem?_cons_zero, List.getElem?_cons_succ] at cA
            clear hlk
            by_cases hkC : k < C
            · go_wp2_with fail
              go_loopw [9, 46] (fun x i wr' => ∃ (j : Nat) (bb : Int), j ≤ m ∧ i = .int .i64 j ∧ x = .int .i64 bb ∧ Hid (Best S m k j bb) ∧ Hid (Below wk.heap.size wk wr')) (fun _ i _ => m - (intOf i).toNat)
              case atStart => exact ⟨0, -1, Nat.zero_le _, rfl, rfl, Lib.hid (.inl ⟨rfl, fun i hi => absurd hi (by omega)⟩), Lib.hid (Below.refl _ _)⟩
              case round =>
                obtain ⟨j, bb, hj, rfl, rfl, HBE, HBel2⟩ := hrel
                have HTW := Lib.hid (HTK.out.below HBel2.out HTK.out.lt)
                clear cA
                by_cases hlt : j < m
                · by_cases ht : j ∈ (ranks S m).take k
                  · have c0 : wr.cell? ⟨T, j, none⟩ = some (.bool true) := (HTW.out.cell j).trans (ov_at (by rw [tk_at S m k j hlt]; simp [ht]))
                    have HBN := Lib.hid (best_taken HBE.out ht)
                    clear ht
                    go_wp2_with fail
                    go_quiet (fail)
                    have HB9 := Lib.hid (below_drewN' HBel2.out nq)
                    go_wp2_with fail
                    go_roundw
                    case rel => exact ⟨j + 1, bb, by omega, by go_num, rfl, HBN, HB9⟩
                    case measure => simp [intOf]; omega
                  · have HTJ := Lib.hid (show ∀ w8, Below wr.heap.size wr w8 → w8.cell? ⟨T, j, none⟩ = some (.bool false) from fun w8 hG => ((HTW.out.below hG HTW.out.lt).cell j).trans (ov_at (by rw [tk_at S m k j hlt]; simp [ht])))
                    rcases HBE.out with ⟨hbb, hall⟩ | ⟨m', hbb, hm1, hm2, hm3⟩
                    · subst hbb
                      have c0 := HTJ.out wr (Below.refl _ _)
                      have HBN := Lib.hid (best_first hall ht)
                      clear ht hall HBE
                      go_wp2_with fail
                      go_quiet (fail)
                      have HB9 := Lib.hid (below_drewN' HBel2.out nq)
                      go_wp2_with fail
                      go_roundw
                      case rel => exact ⟨j + 1, (j : Int), by omega, by go_num, rfl, HBN, HB9⟩
                      case measure => simp [intOf]; omega
                    · subst hbb
                      obtain ⟨DJ, hDJ⟩ : ∃ D, D = lotD S j := ⟨_, rfl⟩
                      obtain ⟨DM, hDM⟩ : ∃ D, D = lotD S m' := ⟨_, rfl⟩
                      have hlJ : DJ.length = 32 := by rw [hDJ, lotD_length]
                      have hlM : DM.length = 32 := by rw [hDM, lotD_length]
                      have HZJ := Lib.hid (show (Tryd.prog.info? 26).map (·.size) = some (bv DJ).length by rw [bv_length, hlJ]; exact Tryd.size26)
                      have HZM := Lib.hid (show (Tryd.prog.info? 26).map (·.size) = some (bv DM).length by rw [bv_length, hlM]; exact Tryd.size26)
                      have HBL := Lib.hid (show Below wL.heap.size wL wr from HBK.out.trans (HBel2.out.mono HBK.out.size))
                      have hlt0 := HLI.out.lt (by rw [rc_length]; omega)
                      have cellsOf : ∀ (i : Nat) (D : List UInt8), D = lotD S i → i < m → ∀ w8, Below wr.heap.size wr w8 → ∀ q v, (bv D)[q]? = some v → w8.cell? ⟨b, off + i * 32 + q, none⟩ = some v := fun i D hD hi w8 hG q v hq => by
                        have hq32 : q < 32 := by have := (List.getElem?_eq_some_iff.1 hq).1; rw [bv_length, hD, lotD_length] at this; exact this
                        have hb := HBL.out.trans (hG.mono HBL.out.size)
                        rw [Nat.add_assoc]
                        refine (hb.cell (p := ⟨b, off + (i * 32 + q), none⟩) hlt0).trans (HLI.out.cells _ _ ?_)
                        rw [rc_at S m i q hi hq32, ← hD]
                        exact hq
                      have HCJ := Lib.hid (cellsOf j DJ hDJ hlt)
                      have HCM := Lib.hid (cellsOf m' DM hDM (by omega))
                      have HLJ := Lib.hid hlJ
                      have HLM := Lib.hid hlM
                      have HBY := Lib.hid (fun hl : lessB DJ DM = true => best_less hm1 hm3 ht (by rw [← hDJ, ← hDM]; exact hl))
                      have HBN := Lib.hid (fun hl : lessB DJ DM = false => best_keep hm1 hm2 hm3 (by rw [← hDJ, ← hDM]; exact hl))
                      have hm'm : m' < m := by omega
                      have hm'0 : ¬ ((m' : Int) < 0) := by omega
                      clear ht hm2 hm3 HBE hDJ hDM hlJ hlM cellsOf hlt0
                      go_wp2_with fail
                      refine wp_region_free (P := Tryd.prog) 17 (fun w' => Below wr.heap.size wr w') (fun oq v w' => match oq with
                          | 0 => v = .slice (some ⟨T, 0, none⟩) m m
                          | 1 => v = .int .i64 (j : Int)
                          | 2 => v = .pointer (some ⟨T, j, none⟩)
                          | 3 => v = .bool false
                          | 4 => v = .bool true
                          | 5 => v = .bool true
                          | 6 => v = .int .i64 (m' : Int)
                          | 7 => v = .bool false
                          | 8 => v = .bool false
                          | 9 => v = .slice (some ⟨b, off, none⟩) m lcap
                          | 10 => v = .int .i64 (j : Int)
                          | 11 => v = .pointer (some ⟨b, off + j * 32, none⟩)
                          | 12 => v = .agg (bv DJ).toArray
                          | 13 => v = .slice (some ⟨b, off, none⟩) m lcap
                          | 14 => v = .int .i64 (m' : Int)
                          | 15 => v = .pointer (some ⟨b, off + m' * 32, none⟩)
                          | 16 => v = .agg (bv DM).toArray
                          | _ => True) (by kernel_rfl) (by kernel_rfl) (Below.refl _ _).drew ?gb ?vb ?steps ?fin
                      case gb => exact fun a b h1 h2 => h1.trans (h2.mono h1.size)
                      case vb =>
                        intro oq v a b h hb
                        match oq with
                        | 0 => exact h
                        | 1 => exact h
                        | 2 => exact h
                        | 3 => exact h
                        | 4 => exact h
                        | 5 => exact h
                        | 6 => exact h
                        | 7 => exact h
                        | 8 => exact h
                        | 9 => exact h
                        | 10 => exact h
                        | 11 => exact h
                        | 12 => exact h
                        | 13 => exact h
                        | 14 => exact h
                        | 15 => exact h
                        | 16 => exact h
                        | _ + 17 => trivial
                      case steps =>
                        intro vals
                        simp only [List.take_succ_cons, List.take_zero, freeSteps, Act.put, List.setIfInBounds_toArray, List.set_cons_zero, List.set_cons_succ, Nat.reduceAdd]
                        refine ⟨fun w8 hG hW => ?_, fun w8 hG hW => ?_, fun w8 hG hW => ?_, fun w8 hG hW => ?_, fun w8 hG hW => ?_, fun w8 hG hW => ?_, fun w8 hG hW => ?_, fun w8 hG hW => ?_, fun w8 hG hW => ?_, fun w8 hG hW => ?_, fun w8 hG hW => ?_, fun w8 hG hW => ?_, fun w8 hG hW => ?_, fun w8 hG hW => ?_, fun w8 hG hW => ?_, fun w8 hG hW => ?_, fun w8 hG hW => ?_, trivial⟩
                        · clear hW
                          refine stepAt_value rfl rfl rfl (.slice (some ⟨T, 0, none⟩) m m) w8 ?_ ⟨rfl, Below.refl _ _⟩
                          go_simp
                        · clear hW
                          refine stepAt_value rfl rfl rfl (.int .i64 (j : Int)) w8 ?_ ⟨rfl, Below.refl _ _⟩
                          go_simp
                        · have q0 := hW 0 (by decide)
                          simp only at q0
                          have q1 := hW 1 (by decide)
                          simp only at q1
                          rw [q0, q1]
                          clear hW
                          refine stepAt_value rfl rfl rfl (.pointer (some ⟨T, j, none⟩)) w8 ?_ ⟨rfl, Below.refl _ _⟩
                          go_simp
                        · have q2 := hW 2 (by decide)
                          simp only at q2
                          rw [q2]
                          clear hW
                          refine stepAt_value rfl rfl rfl (.bool false) w8 ?_ ⟨rfl, Below.refl _ _⟩
                          have c0 := HTJ.out w8 hG
                          go_simp
                        · have q3 := hW 3 (by decide)
                          simp only at q3
                          rw [q3]
                          clear hW
                          refine stepAt_value rfl rfl rfl (.bool true) w8 ?_ ⟨rfl, Below.refl _ _⟩
                          go_simp
                        · have q4 := hW 4 (by decide)
                          simp only at q4
                          rw [q4]
                          clear hW
                          refine stepAt_value rfl rfl rfl (.bool true) w8 ?_ ⟨rfl, Below.refl _ _⟩
                          go_simp
                        · have q5 := hW 5 (by decide)
                          simp only at q5
                          rw [q5]
                          clear hW
                          refine stepAt_value rfl rfl rfl (.int .i64 (m' : Int)) w8 ?_ ⟨rfl, Below.refl _ _⟩
                          go_simp
                        · have q5 := hW 5 (by decide)
                          simp only at q5
                          have q6 := hW 6 (by decide)
                          simp only at q6
                          rw [q5, q6]
                          clear hW
                          refine stepAt_value rfl rfl rfl (.bool false) w8 ?_ ⟨rfl, Below.refl _ _⟩
                          go_simp
                        · have q5 := hW 5 (by decide)
                          simp only at q5
                          have q7 := hW 7 (by decide)
                          simp only at q7
                          rw [q5, q7]
                          clear hW
                          refine stepAt_value rfl rfl rfl (.bool false) w8 ?_ ⟨rfl, Below.refl _ _⟩
                          go_simp
                        · have q8 := hW 8 (by decide)
                          simp only at q8
                          rw [q8]
                          clear hW
                          refine stepAt_value rfl rfl rfl (.slice (some ⟨b, off, none⟩) m lcap) w8 ?_ ⟨rfl, Below.refl _ _⟩
                          go_simp
                        · have q8 := hW 8 (by decide)
                          simp only at q8
                          rw [q8]
                          clear hW
                          refine stepAt_value rfl rfl rfl (.int .i64 (j : Int)) w8 ?_ ⟨rfl, Below.refl _ _⟩
                          go_simp
                        · have q8 := hW 8 (by decide)
                          simp only at q8
                          have q9 := hW 9 (by decide)
                          simp only at q9
                          have q10 := hW 10 (by decide)
                          simp only at q10
                          rw [q8, q9, q10]
                          clear hW
                          refine stepAt_value rfl rfl rfl (.pointer (some ⟨b, off + j * 32, none⟩)) w8 ?_ ⟨rfl, Below.refl _ _⟩
                          go_simp
                        · have q8 := hW 8 (by decide)
                          simp only at q8
                          have q11 := hW 11 (by decide)
                          simp only at q11
                          rw [q8, q11]
                          clear hW
                          exact stepAt_load_cells rfl rfl rfl 26 (.tmp 60) rfl b (off + j * 32) (bv DJ) rfl 32 5 (HCJ.out w8 hG) Tryd.underlying26 HZJ.out ⟨rfl, Below.refl _ _⟩
                        · have q8 := hW 8 (by decide)
                          simp only at q8
                          rw [q8]
                          clear hW
                          refine stepAt_value rfl rfl rfl (.slice (some ⟨b, off, none⟩) m lcap) w8 ?_ ⟨rfl, Below.refl _ _⟩
                          go_simp
                        · have q8 := hW 8 (by decide)
                          simp only at q8
                          rw [q8]
                          clear hW
                          refine stepAt_value rfl rfl rfl (.int .i64 (m' : Int)) w8 ?_ ⟨rfl, Below.refl _ _⟩
                          go_simp
                        · have q8 := hW 8 (by decide)
                          simp only at q8
                          have q13 := hW 13 (by decide)
                          simp only at q13
                          have q14 := hW 14 (by decide)
                          simp only at q14
                          rw [q8, q13, q14]
                          clear hW
                          refine stepAt_value rfl rfl rfl (.pointer (some ⟨b, off + m' * 32, none⟩)) w8 ?_ ⟨rfl, Below.refl _ _⟩
                          go_simp
                        · have q8 := hW 8 (by decide)
                          simp only at q8
                          have q15 := hW 15 (by decide)
                          simp only at q15
                          rw [q8, q15]
                          clear hW
                          exact stepAt_load_cells rfl rfl rfl 26 (.tmp 64) rfl b (off + m' * 32) (bv DM) rfl 32 5 (HCM.out w8 hG) Tryd.underlying26 HZM.out ⟨rfl, Below.refl _ _⟩
                      case fin =>
                        intro vals w8 hG hV
                        have q5 := hV 5 (by omega)
                        have q8 := hV 8 (by omega)
                        have q12 := hV 12 (by omega)
                        have q16 := hV 16 (by omega)
                        simp only at q5 q8 q12 q16
                        simp only [List.take_succ_cons, List.take_zero, List.drop_succ_cons, List.drop_zero, putAll, Act.put, List.setIfInBounds_toArray, List.set_cons_zero, List.set_cons_succ, Nat.reduceAdd]
                        rw [q5, q8, q12, q16]
                        clear hV q5 q8 q12 q16
                        generalize vals 0 = x0
                        generalize vals 1 = x1
                        generalize vals 2 = x2
                        generalize vals 3 = x3
                        generalize vals 4 = x4
                        generalize vals 6 = x6
                        generalize vals 7 = x7
                        generalize vals 9 = x9
                        generalize vals 10 = x10
                        generalize vals 11 = x11
                        generalize vals 13 = x13
                        generalize vals 14 = x14
                        generalize vals 15 = x15
                        have HB8 := Lib.hid (HBel2.out.trans (hG.mono HBel2.out.size))
                        clear hG
                        go_wp2_with fail
                        refine (refless_any w8 DJ DM HLJ.out HLM.out).mono ?_
                        rintro e w9 ⟨rfl, hb9⟩
                        have HB9 := Lib.hid (HB8.out.trans (hb9.mono HB8.out.size))
                        clear hb9
                        cases hle : lessB DJ DM with
                        | true =>
                          have HBE := Lib.hid (HBY.out hle)
                          clear hle
                          go_wp2_with fail
                          go_roundw
                          case rel => exact ⟨j + 1, (j : Int), by omega, by go_num, rfl, HBE, HB9⟩
                          case measure => simp [intOf]; omega
                        | false =>
                          have HBE := Lib.hid (HBN.out hle)
                          clear hle
                          go_wp2_with fail
                          go_roundw
                          case rel => exact ⟨j + 1, (m' : Int), by omega, by go_num, rfl, HBE, HB9⟩
                          case measure => simp [intOf]; omega
                · have hjm : j = m := by omega
                  subst hjm
                  obtain ⟨m', rfl, hm', hnext⟩ := best_end (by omega) HBE.out
                  have hm'0 : ¬ ((m' : Int) < 0) := by omega
                  have c0 := (HTW.out.cell m').trans (ov_at (tk_at S j k m' hm'))
                  have f0 := HTW.out.free m'
                  have HTN := Lib.hid (show Blk (wr.setCell ⟨T, m', none⟩ (.bool true)) T 4 (ov (tk S j (k + 1))) by
                    have h := HTW.out.set m' (.bool true)
                    rw [show (ov (tk S j k)).set m' (.bool true) = ov (tk S j (k + 1)) by rw [← tk_next S j k m' hnext]; simp [ov, List.map_set]] at h
                    exact h)
                  have HBL := Lib.hid (show Below wL.heap.size wL (wr.setCell ⟨T, m', none⟩ (.bool true)) from (HBK.out.trans (HBel2.out.mono HBK.out.size)).setCell (by rw [HTT.out]; exact Nat.le_refl _) _)
                  have HVN := Lib.hid (((HV.out.below HBel2.out).setLow (g := T) (j := m') (u := .bool true) (by omega)).alloc (.cells #[.int .i64 (m' : Int)] 3))
                  have hTs : T + 1 ≤ wr.heap.size := HTW.out.lt
                  have HSrc := Lib.hid (src_intAt (P := Tryd.prog) (wr.setCell ⟨T, m', none⟩ (.bool true)) 35 Tryd.underlying35 m' wr.heap.size (by simp [World.setCell]))
                  have HNX := Lib.hid hnext
                  generalize hdd : decide (m' ∈ (ranks S j).take k) = dd at c0
                  clear hnext hdd
                  go_wp2_with (at_builtin; refine wpList_append_held rfl _ _ 35 35 rfl rfl HVN.out 3 i2 (.int .i64 0) 8 Tryd.underlying35 HJ.out.1 HJ.out.2.1 HJ.out.2.2.1 HJ.out.2.2.2 rfl _ rfl 1 (iv [m']) HSrc.out ?e2 ?e3 ?e4 ?_)
                  case e2 => rw [HLK.out]; unfold maxLen; omega
                  case e3 => rw [HLK.out]; omega
                  case e4 => (try simp [World.setCell]); omega
                  intro v6 w6 hh hg
                  have hb6 : Below (T + 1) (wr.setCell ⟨T, m', none⟩ (.bool true)) w6 := ((Below.refl _ _).alloc (by simpa [World.setCell] using hTs) _).trans (hg.below HVN.out (by simp [World.setCell]; omega))
                  have HT6 := Lib.hid (HTN.out.below hb6 (by omega))
                  have HB6 := Lib.hid (show Below wL.heap.size wL w6 from HBL.out.trans (hb6.mono (by rw [HTT.out]; omega)))
                  have HV6 := Lib.hid (show Held w6 (T + 1) v6 (iv ((ranks S j).take (k + 1))) by rw [List.take_add_one, HNX.out, iv_append]; exact hh)
                  obtain ⟨ao6, cap6, hsh⟩ := HV6.out.shape
                  rw [iv_length, List.length_take, ranks_length, show min (k + 1) j = k + 1 by omega] at hsh
                  subst hsh
                  clear hh hg hb6 HSrc HVN HBL HTN c0 f0
                  go_wp2_with fail
                  go_roundw
                  case rel => exact ⟨k + 1, by omega, HV6, HT6, HB6⟩
                  case measure => simp [lenOf]; omega
            · have hkC' : k = C := by omega
              have HVF := Lib.hid (show Held wk w.heap.size (.slice ao2 k cap2) (iv (comm (S : Int) m C)) by
                have h := HV.out.mono (show w.heap.size ≤ T + 1 by rw [HTT.out]; omega)
                rw [HE.out, ← hkC']
                exact h)
              have HBF := Lib.hid (show Below w.heap.size w wk from HWR.out.trans (HBK.out.mono HWR.out.size))
              clear hkC'
              go_wp2_with fail
              go_ret
              exact ⟨_, rfl, HVF.out, HBF.out⟩
end Go.Proofs.YtnbdpalbompjlaaDoor
