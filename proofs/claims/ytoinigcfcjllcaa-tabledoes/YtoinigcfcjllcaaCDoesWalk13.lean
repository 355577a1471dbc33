/-
  The texts DoesWalk13, one behind the other.
-/
import Derived.Test.YtoinigcfcjllcaaDoesM9
import Derived.Test.YtoinigcfcjllcaaCSame13
import Derived.Test.YtoinigcfcjllcaaCFreeTwo
import Derived.Test.YtoinigcfcjllcaaCOpenCalls
/-
  The walk of TableDoes.
-/
namespace Go.Proofs.Ytoinigcfcjllcaa
open Go Go.RowKit
set_option maxRecDepth 10000

set_option maxHeartbeats 16000000 in
theorem does_any (w : World) (n k : Int) (ao : Option Addr) (len cap cb off : Nat) (l : List Cl) (hl : l.length = len) (h6 : ∀ c ∈ l, I6 c.s) (h : Lies w w.heap.size ao cb off (ccls l)) :
    Calls Try.prog 3 #[.int .i64 n, .int .i64 k, .slice ao len cap] w fun e w' => e = .returned (.bool true) ∧ Below w.heap.size w w' := by
  have HS := Lib.hid h
  clear h
  go_enter Try.func3, Try.ntmps3
  go_wp2_with fail
  refine (alive_any w).mono ?_
  rintro e w1 ⟨rfl, hb1⟩
  have HB := Lib.hid hb1
  clear hb1
  by_cases hbig : (200 : Int) < (len : Int)
  · go_wp2_with fail
    go_ret
    exact ⟨rfl, HB.out⟩
  go_wp2_with fail
  refine (forget_nil w1 5).mono ?_
  rintro e w1 ⟨rfl, rfl⟩
  go_wp2_with fail
  refine (vote_nil w1 0).mono ?_
  rintro e w2 ⟨rfl, hbc⟩
  replace HB := Lib.hid (HB.out.trans (hbc.mono HB.out.size))
  clear hbc
  have HLX := Lib.hid vt0_len
  have HZ := Lib.hid (zero_voteC w2)
  have hbc : Below w2.heap.size w2 ((w2.alloc (.cells #[.int .i64 0, .int .i64 0, .int .u8 0, .int .u8 0, .int .u8 0, .int .u8 0, .int .u8 0, .int .u8 0, .int .u8 0, .int .u8 0, .int .u8 0, .int .u8 0, .int .u8 0, .int .u8 0, .int .u8 0, .int .u8 0, .int .u8 0, .int .u8 0, .int .u8 0, .int .u8 0, .int .u8 0, .int .u8 0, .int .u8 0, .int .u8 0, .int .u8 0, .int .u8 0, .int .u8 0, .int .u8 0, .int .u8 0, .int .u8 0, .int .u8 0, .int .u8 0, .int .u8 0, .int .u8 0] 29)).setRow w2.heap.size (vcl vt0).toArray) := below_row ((Below.refl _ w2).alloc (Nat.le_refl _) _) (Nat.le_refl _) _
  have HX := Lib.hid (HZ.out.setRow (vcl vt0))
  go_upto_region 8 with ((with_reducible refine wpList_store_vote (.tmp 8) (.tmp 25) ?_ ?_ w2.heap.size vt0 vt0 ?_ ?_ HZ.out vt0_len HLX.out ?_); rfl; rfl; rfl; rfl)
  try simp only [Act.put]
  replace HB := Lib.hid (HB.out.trans (hbc.mono HB.out.size))
  obtain ⟨X, hX⟩ : ∃ X, X = w2.heap.size := ⟨_, rfl⟩
  rw [← hX] at HX HB ⊢
  generalize (w2.alloc (.cells #[.int .i64 0, .int .i64 0, .int .u8 0, .int .u8 0, .int .u8 0, .int .u8 0, .int .u8 0, .int .u8 0, .int .u8 0, .int .u8 0, .int .u8 0, .int .u8 0, .int .u8 0, .int .u8 0, .int .u8 0, .int .u8 0, .int .u8 0, .int .u8 0, .int .u8 0, .int .u8 0, .int .u8 0, .int .u8 0, .int .u8 0, .int .u8 0, .int .u8 0, .int .u8 0, .int .u8 0, .int .u8 0, .int .u8 0, .int .u8 0, .int .u8 0, .int .u8 0, .int .u8 0, .int .u8 0] 29)).setRow X (vcl vt0).toArray = w3 at HX HB ⊢
  clear hbc HZ hX
  go_wp2_with ((with_reducible refine wpList_build_l 29 #[] [] (vcl vt0).toArray built_vt0 ?_ ?_ ?_ ?_); rfl; rfl; rfl)
  refine (take_nil w3 vt0).mono ?_
  rintro e w4 ⟨rfl, hbc⟩
  replace HB := Lib.hid (HB.out.trans (hbc.mono HB.out.size))
  clear hbc HX
  go_wp2_with fail
  refine (counts_nil w4 0).mono ?_
  rintro e w4 ⟨rfl, rfl⟩
  go_wp2_with fail
  refine (marks_nil w4).mono ?_
  rintro e w4 ⟨rfl, rfl⟩
  go_wp2_with fail
  refine (new_any w4 n k).mono ?_
  rintro e w5 (⟨hn, rfl, rfl⟩ | ⟨n1, n2, k1, k2, b, m, g, rfl, hT, hH, hb2⟩)
  · go_wp2_with fail
    refine (rtnew_bad _ n k hn).mono ?_
    rintro e w5 ⟨rfl, rfl⟩
    go_wp2_with fail
    go_ret
    exact ⟨rfl, HB.out⟩
  have HT1 := Lib.hid hT
  have HH1 := Lib.hid (hH.mono HB.out.size)
  have HB2 := Lib.hid (HB.out.trans (hb2.mono HB.out.size))
  clear hT hH hb2
  go_wp2_with fail
  refine (rtnew_any w5 n k n1 n2 k1 k2).mono ?_
  rintro e w6 ⟨F, rb, rfl, ⟨g1, g2, g3, v, hR⟩, hH, hb3⟩
  have HT := Lib.hid (show TT w b m g rb g1 g2 g3 (newT n.toNat k.toNat) w6 from ⟨F, v, TR.new (w0 := w) HB2.out HT1.out HH1.out hR hH hb3⟩)
  clear HT1 HH1 HB HB2 hR hH hb3 n1 n2 k1 k2
  go_wp2_with fail
  go_loopw [58] (fun i wr => ∃ (j : Nat) (T : Tb), j ≤ len ∧ T.fs.length ≤ j ∧ i = .int .i64 j ∧ Hid (TT w b m g rb g1 g2 g3 T wr)) (fun i _ => len - (intOf i).toNat)
  case atStart => exact ⟨0, newT n.toNat k.toNat, Nat.zero_le _, Nat.le_refl 0, rfl, HT⟩
  case round =>
    clear HT
    obtain ⟨j, T, hj, hjT, rfl, HT⟩ := hrel
    by_cases hlt : j < len
    · obtain ⟨c, hc⟩ : ∃ c, l[j]? = some c := ⟨_, List.getElem?_eq_getElem (by omega)⟩
      obtain ⟨hao, hcc⟩ := (HS.out.keep HT.out.bl).call hc
      subst hao
      have HCE := Lib.hid hcc
      have HI := Lib.hid (h6 c (List.mem_of_getElem? hc))
      have hjl : (j : Int) < (len : Int) := by omega
      have HLEN := Lib.hid (show T.fs.length ≤ 1000 by omega)
      have HJT := Lib.hid hjT
      clear hc hcc
      have HZ := Lib.hid (zero_call wr)
      have hbc : Below wr.heap.size wr ((wr.alloc (.cells #[.bool false, .int .i64 0, .int .i64 0, .int .i64 0] 41)).setRow wr.heap.size (ccl c).toArray) := below_row ((Below.refl _ wr).alloc (Nat.le_refl _) _) (Nat.le_refl _) _
      have HX := Lib.hid (HT.out.into hbc (Nat.le_refl _) (HZ.out.setRow (ccl c)))
      go_upto_region 17 with (first
        | ((with_reducible refine wpList_load_call (.tmp 60) ?_ ?_ cb (off + j * 4) c ?_ HCE.out ?_); rfl; rfl; rfl)
        | ((with_reducible refine wpList_store_call (.tmp 14) (.tmp 61) ?_ ?_ wr.heap.size cl0 c ?_ ?_ HZ.out ?_); rfl; rfl; rfl; rfl))
      try simp only [Act.put]
      obtain ⟨X, hX⟩ : ∃ X, X = wr.heap.size := ⟨_, rfl⟩
      rw [← hX] at HX ⊢
      generalize (wr.alloc (.cells #[.bool false, .int .i64 0, .int .i64 0, .int .i64 0] 41)).setRow X (ccl c).toArray = w5 at HX ⊢
      clear hbc HZ hX HCE HT
      cases hf : c.f with
      | true =>
        have c0 := HX.out.blk.cell 0
        have c2 := HX.out.blk.cell 2
        simp only [ccl, List.getElem?_cons_zero, List.getElem?_cons_succ] at c0 c2
        rw [hf] at c0
        clear hf
        go_wp2_with fail
        refine (HX.out.forget c.s HI.out).mono ?_
        rintro e w6 ⟨rfl, hx⟩
        replace HX := Lib.hid hx
        clear hx c0 c2
        have c2 := HX.out.blk.cell 2
        simp only [ccl, List.getElem?_cons_zero, List.getElem?_cons_succ] at c2
        go_wp2_with fail
        refine (HX.out.rforget c.s HI.out HLEN.out).mono ?_
        rintro e w7 ⟨rfl, hx⟩
        clear HX c2
        have HX := Lib.hid hx.tt
        clear hx
        obtain ⟨FS, vS, hTR⟩ := HX.out
        go_wp2_with fail
        refine (same_any _ b m g rb g1 g2 g3 FS vS _ hTR.p hTR.q).mono ?_
        rintro e w8 ⟨rfl, hbc⟩
        clear hTR
        replace HX := Lib.hid (HX.out.below hbc)
        clear hbc
        go_wp2_with fail
        go_roundw
        case rel => exact ⟨j + 1, _, by omega, Nat.le_trans (forgetT_fs _ _) (by have := HJT.out; omega), by go_num, HX⟩
        case measure => simp [intOf]; omega
      | false =>
        have c0 := HX.out.blk.cell 0
        simp only [ccl, List.getElem?_cons_zero] at c0
        rw [hf] at c0
        clear hf
        go_upto_region 20 with fail
        clear c0
        obtain ⟨CO, hCO⟩ : ∃ CO, CO = (takeT T (ctv c)).1 := ⟨_, rfl⟩
        obtain ⟨TN, hTN⟩ : ∃ TN, TN = (takeT T (ctv c)).2 := ⟨_, rfl⟩
        have HCO := Lib.hid hCO.symm
        have HTN := Lib.hid hTN
        have HFN := Lib.hid (show TN.fs.length ≤ T.fs.length + 1 by rw [hTN]; exact take_fs _ _)
        clear hCO hTN
        refine wp_region_freeD (P := Try.prog) 8 3 7 (by decide) (by decide) (by decide) (fun i => match i with
          | 0 => .pointer (some ⟨b, 0, none⟩)
          | 1 => .agg (ccl c).toArray
          | 2 => .agg (vcl (ctv c)).toArray
          | 3 => .int .i64 CO
          | 4 => .pointer (some ⟨rb, 0, none⟩)
          | 5 => .agg (ccl c).toArray
          | 6 => .agg (vcl (ctv c)).toArray
          | 7 => .int .i64 CO
          | _ => undef) (fun x y w' => TX w b m g rb g1 g2 g3 X c (cond x TN T) (cond y TN T) w') (by kernel_rfl) (by kernel_rfl) (HX.out.below (Below.refl _ _).drew) ?pb ?steps ?fin
        case pb => exact fun x y a b h hb => h.below hb
        case steps =>
          intro vals
          simp only [List.take_succ_cons, List.take_zero, freeStepsD, Act.put, List.setIfInBounds_toArray, List.set_cons_zero, List.set_cons_succ, Nat.reduceAdd, Nat.reduceEqDiff, reduceIte]
          refine ⟨fun x y w8 hG hW => ?_, fun x y w8 hG hW => ?_, fun x y w8 hG hW => ?_, fun y w8 hG hW => ?_, fun x y w8 hG hW => ?_, fun x y w8 hG hW => ?_, fun x y w8 hG hW => ?_, fun x w8 hG hW => ?_, trivial⟩
          · clear hW
            refine stepAt_value rfl rfl rfl (.pointer (some ⟨b, 0, none⟩)) w8 ?_ ⟨rfl, Below.refl _ _⟩
            go_simp
          · clear hW
            refine stepAt_load_run rfl rfl rfl _ _ rfl _ _ rfl (run_load_call hG.blk.callAll) ⟨rfl, Below.refl _ _⟩
          · have q1 := hW 1 (by decide)
            simp only at q1
            rw [q1]
            clear hW
            refine stepAt_call rfl rfl rfl 19 #[.agg (ccl c).toArray] (by go_simp) ((cvote_any w8 c).mono fun e w' ⟨h1, h2⟩ => ⟨_, h1, rfl, h2⟩)
          · have q0 := hW 0 (by decide)
            simp only at q0
            have q2 := hW 2 (by decide)
            simp only at q2
            rw [q0, q2]
            clear hW
            refine stepAt_call rfl rfl rfl 13 #[.pointer (some ⟨b, 0, none⟩), .agg (vcl (ctv c)).toArray] (by go_simp) ((hG.take (ctv c) (ctv_len c) HLEN.out).mono fun e w' ⟨h1, h2⟩ => ⟨_, h1, congrArg (Value.int .i64) HCO.out, by have h3 : TX w b m g rb g1 g2 g3 X c (takeT T (ctv c)).2 (cond y TN T) w' := h2; rw [← HTN.out] at h3; exact h3⟩)
          · clear hW
            refine stepAt_value rfl rfl rfl (.pointer (some ⟨rb, 0, none⟩)) w8 ?_ ⟨rfl, Below.refl _ _⟩
            go_simp
          · clear hW
            refine stepAt_load_run rfl rfl rfl _ _ rfl _ _ rfl (run_load_call hG.blk.callAll) ⟨rfl, Below.refl _ _⟩
          · have q5 := hW 5 (by decide)
            simp only at q5
            rw [q5]
            clear hW
            refine stepAt_call rfl rfl rfl 19 #[.agg (ccl c).toArray] (by go_simp) ((cvote_any w8 c).mono fun e w' ⟨h1, h2⟩ => ⟨_, h1, rfl, h2⟩)
          · have q4 := hW 4 (by decide)
            simp only at q4
            have q6 := hW 6 (by decide)
            simp only at q6
            rw [q4, q6]
            clear hW
            refine stepAt_call rfl rfl rfl 20 #[.pointer (some ⟨rb, 0, none⟩), .agg (vcl (ctv c)).toArray] (by go_simp) ((hG.rtake (ctv c) (ctv_len c) HLEN.out).mono fun e w' ⟨h1, h2⟩ => ⟨_, h1, congrArg (Value.int .i64) HCO.out, by have h3 : TX w b m g rb g1 g2 g3 X c (cond x TN T) (takeT T (ctv c)).2 w' := h2; rw [← HTN.out] at h3; exact h3⟩)
        case fin =>
          intro vals w6 hV hMid
          have q3 := hV 3 (by omega)
          have q7 := hV 7 (by omega)
          simp only at q3 q7
          simp only [List.take_succ_cons, List.take_zero, List.drop_succ_cons, List.drop_zero, putAll, Act.put, List.setIfInBounds_toArray, List.set_cons_zero, List.set_cons_succ, Nat.reduceAdd]
          rw [q3, q7]
          clear hV q3 q7 HX HCO
          have HX := Lib.hid (show TX w b m g rb g1 g2 g3 X c TN TN w6 from hMid)
          clear hMid
          generalize vals 0 = z0
          generalize vals 1 = z1
          generalize vals 2 = z2
          generalize vals 4 = z4
          generalize vals 5 = z5
          generalize vals 6 = z6
          have hco : ((CO == CO) = true) := beq_self_eq_true CO
          go_upto_region 22 with fail
          clear hco
          replace HX := Lib.hid HX.out.tt
          obtain ⟨FS, vS, hTR⟩ := HX.out
          go_wp2_with fail
          refine (same_any _ b m g rb g1 g2 g3 FS vS _ hTR.p hTR.q).mono ?_
          rintro e w7 ⟨rfl, hbc⟩
          clear hTR
          replace HX := Lib.hid (HX.out.below hbc)
          clear hbc
          go_wp2_with fail
          go_roundw
          case rel => exact ⟨j + 1, TN, by omega, Nat.le_trans HFN.out (by have := HJT.out; omega), by go_num, HX⟩
          case measure => simp [intOf]; omega
    · obtain rfl : j = len := by omega
      have HX := HT
      clear HT hlt
      obtain ⟨wL, hwL⟩ : ∃ wL, wL = wr := ⟨_, rfl⟩
      rw [← hwL] at HX ⊢
      clear hwL
      obtain ⟨FS, vS, hTR⟩ := HX.out
      go_wp2_with fail
      refine (same_any _ b m g rb g1 g2 g3 FS vS _ hTR.p hTR.q).mono ?_
      rintro e wM ⟨rfl, hbc⟩
      clear hTR
      replace HX := Lib.hid (HX.out.below hbc)
      clear hbc
      go_wp2_with fail
      go_ret
      exact ⟨rfl, HX.out.bl⟩
end Go.Proofs.Ytoinigcfcjllcaa
