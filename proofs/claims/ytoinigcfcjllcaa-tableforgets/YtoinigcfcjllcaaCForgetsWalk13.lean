/-
  The texts ForgetsWalk13, one behind the other.
-/
import Derived.Test.YtoinigcfcjllcaaForgetsM9
import Derived.Test.YtoinigcfcjllcaaCOpenCalls
import Derived.Test.YtoinigcfcjllcaaForgetsM6
import Derived.Test.YtoinigcfcjllcaaForgetsM8
/-
  The walk of TableForgets.
-/
namespace Go.Proofs.Ytoinigcfcjllcaa
open Go Go.RowKit
set_option maxRecDepth 10000

def cnL (t : Tb) (x : Nat) : List Bool := (List.range x).map fun i => !otN t i
theorem cnL_length (t : Tb) (x : Nat) : (cnL t x).length = x := by simp [cnL]
theorem cnL_succ (t : Tb) (x : Nat) : cnL t (x + 1) = cnL t x ++ [!otN t x] := by simp [cnL, List.range_succ]
theorem cnL_at (t : Tb) {n x : Nat} (h : x < n) : (cnL t n)[x]? = some (!otN t x) := by simp [cnL, h]
/-- Two slices that grow: votes, and who counts. -/
structure Two14 (B : Nat) (t : Tb) (x : Nat) (u v : Value) (w : World) : Prop where
  w1 : Wide 34 w B u (rowsOf x (lrow t))
  w2 : Wide 1 w B v (ov (cnL t x))
  o1 : ∀ q, u.ownBlock = some q → q < w.heap.size
  o2 : ∀ q, v.ownBlock = some q → q < w.heap.size
  ne : ∀ q, u.ownBlock = some q → v.ownBlock ≠ some q
theorem Two14.nil (B : Nat) (t : Tb) (w : World) : Two14 B t 0 (.slice none 0 0) (.slice none 0 0) w :=
  ⟨wide_nil0 34 w B, wide_nil0 1 w B, (fun q hq => by cases hq), (fun q hq => by cases hq), (fun q hq => by cases hq)⟩
section
variable {B : Nat} {t : Tb} {x : Nat} {u v u' v' : Value} {w w' : World}
theorem Two14.below (h : Two14 B t x u v w) (hb : Below w.heap.size w w') : Two14 B t x u v w' :=
  ⟨h.w1.below hb, h.w2.below hb, fun q hq => Nat.lt_of_lt_of_le (h.o1 q hq) hb.size, fun q hq => Nat.lt_of_lt_of_le (h.o2 q hq) hb.size, h.ne⟩
theorem Two14.kept {F : List Nat} (h : Two14 B t x u v w) (hk : Kept F w w') (hF : ∀ q, B ≤ q → q ∉ F) : Two14 B t x u v w' :=
  ⟨h.w1.kept hk (fun q hq => hF q (h.w1.own q hq)), h.w2.kept hk (fun q hq => hF q (h.w2.own q hq)), fun q hq => Nat.lt_of_lt_of_le (h.o1 q hq) hk.size, fun q hq => Nat.lt_of_lt_of_le (h.o2 q hq) hk.size, h.ne⟩
/-- The votes have grown; who counts hasn't yet. -/
structure Mid14 (B : Nat) (t : Tb) (x : Nat) (u v : Value) (w : World) : Prop where
  w1 : Wide 34 w B u (rowsOf (x + 1) (lrow t))
  w2 : Wide 1 w B v (ov (cnL t x))
  o1 : ∀ q, u.ownBlock = some q → q < w.heap.size
  o2 : ∀ q, v.ownBlock = some q → q < w.heap.size
  ne : ∀ q, u.ownBlock = some q → v.ownBlock ≠ some q
theorem Mid14.below (h : Mid14 B t x u v w) (hb : Below w.heap.size w w') : Mid14 B t x u v w' :=
  ⟨h.w1.below hb, h.w2.below hb, fun q hq => Nat.lt_of_lt_of_le (h.o1 q hq) hb.size, fun q hq => Nat.lt_of_lt_of_le (h.o2 q hq) hb.size, h.ne⟩
theorem Two14.left (h : Two14 B t x u v w) (G : FitT t) (hh : Wide 34 w' B u' (rowsOf x (lrow t) ++ vcl (ltN t x))) (hg : Grew w u w' u') : Mid14 B t x u' v w' := by
  have hsz := hg.grown.size
  rw [show rowsOf x (lrow t) ++ vcl (ltN t x) = rowsOf (x + 1) (lrow t) from (rowsOf_succ x (lrow t)).symm] at hh
  refine ⟨hh, h.w2.grown hg.grown (fun q hq hr => h.ne q hr hq), hh.ownLt (by rw [rowsOf_length G.lrow]; omega), fun q hq => Nat.lt_of_lt_of_le (h.o2 q hq) hsz, fun q hq => ?_⟩
  · rcases hg.own with e | ⟨z, e, hz⟩
    · exact h.ne q (e.symm.trans hq)
    · intro hv
      rw [e] at hq
      cases hq
      have := h.o2 _ hv
      omega
theorem Mid14.right (h : Mid14 B t x u v w) {O : Bool} (hO : O = !otN t x) (hh : Wide 1 w' B v' (ov (cnL t x) ++ [.bool O])) (hg : Grew w v w' v') : Two14 B t (x + 1) u v' w' := by
  have hsz := hg.grown.size
  rw [show ov (cnL t x) ++ [.bool O] = ov (cnL t (x + 1)) by rw [cnL_succ, hO]; simp [ov]] at hh
  refine ⟨h.w1.grown hg.grown (fun q hq hr => h.ne q hq hr), hh, fun q hq => Nat.lt_of_lt_of_le (h.o1 q hq) hsz, hh.ownLt (by rw [ov_length, cnL_length]; omega), fun q hq hv => ?_⟩
  rcases hg.own with e | ⟨z, e, hz⟩
  · exact h.ne q hq (e.symm.trans hv)
  · rw [e] at hv
    cases hv
    have := h.o1 _ hq
    omega
theorem Two14.open1 (h : Two14 B t 8 u v w) (G : FitT t) : ∃ ao cap g off, u = .slice ao 8 cap ∧ Lies w w.heap.size ao g off (rowsOf 8 (lrow t)) := by
  obtain ⟨ao, n, cap, g, off, rfl, e, hl⟩ := h.w1.lies
  rw [rowsOf_length G.lrow] at e
  obtain rfl : n = 8 := by omega
  exact ⟨ao, cap, g, off, rfl, hl⟩
theorem Two14.open2 (h : Two14 B t 8 u v w) : ∃ ao cap g off, v = .slice ao 8 cap ∧ Lies w w.heap.size ao g off (ov (cnL t 8)) := by
  obtain ⟨ao, n, cap, g, off, rfl, e, hl⟩ := h.w2.lies
  rw [ov_length, cnL_length] at e
  obtain rfl : n = 8 := by omega
  exact ⟨ao, cap, g, off, rfl, hl⟩
end
set_option maxHeartbeats 16000000 in
theorem forgets_any (w : World) (k : Int) (ao : Option Addr) (len cap cb off : Nat) (l : List Cl) (at_ more : Int) (hl : l.length = len) (h : Lies w w.heap.size ao cb off (ccls l)) :
    Calls Try.prog 8 #[.int .i64 k, .slice ao len cap, .int .i64 at_, .int .i64 more] w fun e w' => e = .returned (.bool true) ∧ Below w.heap.size w w' := by
  have HS := Lib.hid h
  clear h
  go_enter Try.func8, Try.ntmps8
  go_wp2_with fail
  refine (alive_any w).mono ?_
  rintro e w1 ⟨rfl, hb1⟩
  have HB := Lib.hid hb1
  clear hb1
  by_cases hbig : (200 : Int) < (len : Int)
  · go_wp2_with fail
    go_ret
    exact ⟨rfl, HB.out⟩
  by_cases z0 : at_ < 0
  · go_wp2_with fail
    go_ret
    exact ⟨rfl, HB.out⟩
  by_cases z1 : more < 0
  · go_wp2_with fail
    go_ret
    exact ⟨rfl, HB.out⟩
  by_cases z2 : (1073741824 : Int) < at_
  · go_wp2_with fail
    go_ret
    exact ⟨rfl, HB.out⟩
  by_cases z3 : (1073741824 : Int) < more
  · go_wp2_with fail
    go_ret
    exact ⟨rfl, HB.out⟩
  have HAM := Lib.hid (show 0 ≤ at_ ∧ 0 ≤ more ∧ at_ ≤ 1073741824 ∧ more ≤ 1073741824 by omega)
  go_wp2_with fail
  refine (new_any w1 8 k).mono ?_
  rintro e w2 (⟨hn, rfl, rfl⟩ | ⟨n1, n2, k1, k2, b, m, g, rfl, hT, hH, hb2⟩)
  · have HNO := Lib.hid hn
    clear hn
    by_cases g1 : k < 1
    · go_wp2_with fail
      go_ret
      exact ⟨rfl, HB.out⟩
    have g2 : (32 : Int) < k := by have := HNO.out; omega
    go_wp2_with fail
    go_ret
    exact ⟨rfl, HB.out⟩
  have g1 : ¬ k < 1 := by omega
  have g2 : ¬ (32 : Int) < k := by omega
  have HT := Lib.hid (show T1 w b m g (newT (Int.toNat 8) k.toNat) w2 from ⟨hT, hH.mono HB.out.size, HB.out.trans (hb2.mono HB.out.size)⟩)
  clear hT hH hb2 n1 n2 HB
  go_wp2_with fail
  clear g1 g2 k1 k2
  go_loopw [66] (fun i wr => ∃ (j : Nat) (ta : Tb), j ≤ len ∧ ta.fs.length ≤ j ∧ i = .int .i64 j ∧ Hid (ta.n = 8) ∧ Hid (T1 w b m g ta wr)) (fun i _ => len - (intOf i).toNat)
  case atStart => exact ⟨0, newT (Int.toNat 8) k.toNat, Nat.zero_le _, Nat.le_refl 0, rfl, Lib.hid rfl, HT⟩
  case round =>
    clear HT
    obtain ⟨j, ta, hj, hja, rfl, HP, HT⟩ := hrel
    by_cases hlt : j < len
    · obtain ⟨c, hc⟩ : ∃ c, l[j]? = some c := ⟨_, List.getElem?_eq_getElem (by omega)⟩
      obtain ⟨hao, hcc⟩ := (HS.out.keep HT.out.bl).call hc
      subst hao
      have HCE := Lib.hid hcc
      have hjl : (j : Int) < (len : Int) := by omega
      have HJA := Lib.hid hja
      have HLA := Lib.hid (show ta.fs.length ≤ 1000 by omega)
      clear hc hcc
      have HZ := Lib.hid (zero_call wr)
      have hbc : Below wr.heap.size wr ((wr.alloc (.cells #[.bool false, .int .i64 0, .int .i64 0, .int .i64 0] 41)).setRow wr.heap.size (ccl c).toArray) := below_row ((Below.refl _ wr).alloc (Nat.le_refl _) _) (Nat.le_refl _) _
      have HX := Lib.hid (HZ.out.setRow (ccl c))
      have HAW := Lib.hid (HT.out.away (Nat.le_refl wr.heap.size))
      go_upto_region 11 with (first
        | ((with_reducible refine wpList_load_call (.tmp 68) ?_ ?_ cb (off + j * 4) c ?_ HCE.out ?_); rfl; rfl; rfl)
        | ((with_reducible refine wpList_store_call (.tmp 12) (.tmp 69) ?_ ?_ wr.heap.size cl0 c ?_ ?_ HZ.out ?_); rfl; rfl; rfl; rfl))
      try simp only [Act.put]
      replace HT := Lib.hid (HT.out.below hbc)
      obtain ⟨X, hX⟩ : ∃ X, X = wr.heap.size := ⟨_, rfl⟩
      rw [← hX] at HX HAW HT ⊢
      generalize (wr.alloc (.cells #[.bool false, .int .i64 0, .int .i64 0, .int .i64 0] 41)).setRow X (ccl c).toArray = w5 at HX HT ⊢
      clear hbc HZ hX HCE
      cases hf : c.f with
      | true =>
        have c0 := HX.out.cell 0
        simp only [ccl, List.getElem?_cons_zero] at c0
        rw [hf] at c0
        clear hf
        go_wp2_with fail
        go_roundw
        case rel => exact ⟨j + 1, ta, by omega, Nat.le_trans HJA.out (by omega), by go_num, HP, HT⟩
        case measure => simp [intOf]; omega
      | false =>
        have c0 := HX.out.cell 0
        simp only [ccl, List.getElem?_cons_zero] at c0
        rw [hf] at c0
        clear hf
        have HXA := Lib.hid HX.out.callAll
        go_wp2_with ((with_reducible refine wpList_load_call (.tmp 12) ?_ ?_ X 0 c ?_ HXA.out ?_); rfl; rfl; rfl)
        refine (cvote_any _ c).mono ?_
        rintro e w6 ⟨rfl, hbc⟩
        replace HT := Lib.hid (HT.out.below hbc)
        replace HX := Lib.hid (HX.out.below hbc HX.out.lt)
        clear hbc HXA c0
        go_wp2_with fail
        refine (take_any w6 b m g ta (ctv c) HT.out.p (ctv_len c) HLA.out).mono ?_
        rintro e w7 ⟨rfl, hT, hk⟩
        replace HT := Lib.hid (HT.out.set hT hk)
        clear hT hk
        go_wp2_with fail
        go_roundw
        case rel => exact ⟨j + 1, _, by omega, Nat.le_trans (take_fs _ _) (by have := HJA.out; omega), by go_num, Lib.hid ((takeT_nk ta (ctv c)).1.trans HP.out), HT⟩
        case measure => simp [intOf]; omega
    · obtain rfl : j = len := by omega
      obtain ⟨wS, hwS⟩ : ∃ wS, wS = wr := ⟨_, rfl⟩
      rw [← hwS] at HT ⊢
      clear hwS hlt hja
      obtain ⟨i0, hi0, hz0, hy0, hb0⟩ := info_parts Try.infoVote
      have HI := Lib.hid (⟨hi0, hz0, hy0, hb0⟩ : Try.prog.info? 29 = some i0 ∧ i0.zero = some (.agg (vcl vt0).toArray) ∧ i0.size = 34 ∧ i0.bytes = 48)
      obtain ⟨i1, hi1, hz1, hy1, hb1⟩ := info_parts Try.infoB
      have HJ := Lib.hid (⟨hi1, hz1, hy1, hb1⟩ : Try.prog.info? 4 = some i1 ∧ i1.zero = some (.bool false) ∧ i1.size = 1 ∧ i1.bytes = 1)
      clear hi0 hz0 hy0 hb0 hi1 hz1 hy1 hb1
      have HZC := Lib.hid (show (Value.agg (vcl vt0).toArray).cells.size = 34 from vcl_length vt0_len)
      have HZD := Lib.hid (show (Value.bool false).cells.size = 1 from rfl)
      have HG := Lib.hid HT.out.p.fit
      go_wp2_with fail
      go_loopw [13, 14, 15] (fun u v i wr => ∃ (x : Nat), x ≤ 8 ∧ i = .int .i64 x ∧ Hid (Two14 wS.heap.size ta x u v wr) ∧ Hid (Below wS.heap.size wS wr)) (fun _ _ i _ => 8 - (intOf i).toNat)
      case atStart => exact ⟨0, Nat.zero_le _, rfl, Lib.hid (Two14.nil _ _ _), Lib.hid (Below.refl _ _)⟩
      case round =>
        obtain ⟨x, hx, rfl, HV, HBL⟩ := hrel
        have HTr := Lib.hid (HT.out.below HBL.out)
        by_cases hlt : x < 8
        · have hlx : (x : Int) < 8 := by omega
          have HIS := Lib.hid (show isW ta (x : Int) = true by unfold isW; rw [HP.out]; exact decide_eq_true (by omega))
          have HVA := Lib.hid (show voteA ta (x : Int) = ltN ta x ∧ cntA ta (x : Int) = !otN ta x by unfold voteA cntA; rw [HIS.out]; exact ⟨rfl, rfl⟩)
          have HLX := Lib.hid (HG.out.l x).1
          go_wp2_with fail
          refine (vote_any wr b m g ta (x : Int) HTr.out.p).mono ?_
          rintro e w5 ⟨rfl, hbc⟩
          replace HTr := Lib.hid (HTr.out.below hbc)
          replace HV := Lib.hid (HV.out.below hbc)
          replace HBL := Lib.hid (HBL.out.trans (hbc.mono HBL.out.size))
          clear hbc
          rw [HVA.out.1]
          generalize hasA ta (x : Int) = hs0
          have HZ := Lib.hid (zero_voteC w5)
          have hbc : Below w5.heap.size w5 ((w5.alloc (.cells #[.int .i64 0, .int .i64 0, .int .u8 0, .int .u8 0, .int .u8 0, .int .u8 0, .int .u8 0, .int .u8 0, .int .u8 0, .int .u8 0, .int .u8 0, .int .u8 0, .int .u8 0, .int .u8 0, .int .u8 0, .int .u8 0, .int .u8 0, .int .u8 0, .int .u8 0, .int .u8 0, .int .u8 0, .int .u8 0, .int .u8 0, .int .u8 0, .int .u8 0, .int .u8 0, .int .u8 0, .int .u8 0, .int .u8 0, .int .u8 0, .int .u8 0, .int .u8 0, .int .u8 0, .int .u8 0] 29)).setRow w5.heap.size (vcl (ltN ta x)).toArray) := below_row ((Below.refl _ w5).alloc (Nat.le_refl _) _) (Nat.le_refl _) _
          have HX := Lib.hid (HZ.out.setRow (vcl (ltN ta x)))
          go_upto_region 20 with ((with_reducible refine wpList_store_vote (.tmp 16) (.tmp 86) ?_ ?_ w5.heap.size vt0 (ltN ta x) ?_ ?_ HZ.out vt0_len HLX.out ?_); rfl; rfl; rfl; rfl)
          try simp only [Act.put]
          replace HTr := Lib.hid (HTr.out.below hbc)
          replace HV := Lib.hid (HV.out.below hbc)
          replace HBL := Lib.hid (HBL.out.trans (hbc.mono HBL.out.size))
          obtain ⟨X, hX⟩ : ∃ X, X = w5.heap.size := ⟨_, rfl⟩
          rw [← hX] at HX HTr HV HBL ⊢
          generalize (w5.alloc (.cells #[.int .i64 0, .int .i64 0, .int .u8 0, .int .u8 0, .int .u8 0, .int .u8 0, .int .u8 0, .int .u8 0, .int .u8 0, .int .u8 0, .int .u8 0, .int .u8 0, .int .u8 0, .int .u8 0, .int .u8 0, .int .u8 0, .int .u8 0, .int .u8 0, .int .u8 0, .int .u8 0, .int .u8 0, .int .u8 0, .int .u8 0, .int .u8 0, .int .u8 0, .int .u8 0, .int .u8 0, .int .u8 0, .int .u8 0, .int .u8 0, .int .u8 0, .int .u8 0, .int .u8 0, .int .u8 0] 29)).setRow X (vcl (ltN ta x)).toArray = w6 at HX HTr HV HBL ⊢
          clear hbc HZ hX
          have HXA := Lib.hid HX.out.voteAll
          have HM1 := Lib.hid (show (rowsOf x (lrow ta)).length + 1 ≤ maxLen by rw [rowsOf_length HG.out.lrow]; unfold maxLen; omega)
          have HM2 := Lib.hid (show ((rowsOf x (lrow ta)).length + 1) * 48 ≤ 140737488355328 by rw [rowsOf_length HG.out.lrow]; omega)
          have HN1 := Lib.hid (show (ov (cnL ta x)).length + 1 ≤ maxLen by rw [ov_length, cnL_length]; unfold maxLen; omega)
          have HN2 := Lib.hid (show ((ov (cnL ta x)).length + 1) * 1 ≤ 140737488355328 by rw [ov_length, cnL_length]; omega)
          have HSRC := Lib.hid (src_rowT (P := Try.prog) w6 34 (by decide) 50 29 Try.underlying50 (vcl (ltN ta x)) (vcl_length HLX.out) (vcl_one _))
          have hba : Below w6.heap.size w6 (w6.alloc (.cells (vcl (ltN ta x)).toArray 29)) := (Below.refl _ _).alloc (Nat.le_refl _) _
          have HV7 := Lib.hid (HV.out.below hba)
          have HBL7 := Lib.hid (HBL.out.trans (hba.mono HBL.out.size))
          have HSK := Lib.hid HBL7.out.size
          clear hba HV HBL
          go_wp2_with (first
            | ((with_reducible refine wpList_load_vote (.tmp 16) ?_ ?_ X 0 (ltN ta x) ?_ HLX.out HXA.out ?_); rfl; rfl; rfl)
            | ((with_reducible refine wpList_build_row1 ?_ 50 29 (.tmp 89) ?_ i0 (.agg (vcl vt0).toArray) (s := 34) (by decide) (vcl (ltN ta x)) (vcl_length HLX.out) Try.underlying50 HI.out.1 HI.out.2.1 HI.out.2.2.1 (by decide) ?_ ?_); rfl; rfl; rfl)
            | (at_builtin; refine wpList_append_wide rfl _ _ 50 50 rfl rfl HV7.out.w1 (by decide) 29 i0 (.agg (vcl vt0).toArray) 48 Try.underlying50 HI.out.1 HI.out.2.1 HI.out.2.2.1 HI.out.2.2.2 HZC.out _ rfl 1 (vcl (ltN ta x)) HSRC.out HM1.out HM2.out HSK.out ?_))
          intro v8 w8 hh hg
          have HV8 := Lib.hid (HV7.out.left HG.out hh hg)
          have HBL8 := Lib.hid (HBL7.out.trans (hg.belowW HV7.out.w1 HSK.out))
          clear hh hg HSRC HV7 HBL7 HSK HXA HX HTr
          have HTr := Lib.hid (HT.out.below HBL8.out)
          go_wp2_with fail
          refine (counts_any w8 b m g ta (x : Int) HTr.out.p).mono ?_
          rintro e w8 ⟨rfl, rfl⟩
          rw [HVA.out.2]
          obtain ⟨O, hO⟩ : ∃ O, O = !otN ta x := ⟨_, rfl⟩
          have HO := Lib.hid hO
          rw [← hO]
          clear hO
          have HSRC := Lib.hid (src_rowT (P := Try.prog) w8 1 (by decide) 51 4 Try.underlying51 [.bool O] rfl (fun u hu => by simp at hu; rw [hu]; rfl))
          have hba : Below w8.heap.size w8 (w8.alloc (.cells #[.bool O] 4)) := (Below.refl _ _).alloc (Nat.le_refl _) _
          have HV9 := Lib.hid (HV8.out.below hba)
          have HBL9 := Lib.hid (HBL8.out.trans (hba.mono HBL8.out.size))
          have HSK := Lib.hid HBL9.out.size
          clear hba HV8 HBL8
          go_wp2_with (at_builtin; refine wpList_append_wide rfl _ _ 51 51 rfl rfl HV9.out.w2 (by decide) 4 i1 (.bool false) 1 Try.underlying51 HJ.out.1 HJ.out.2.1 HJ.out.2.2.1 HJ.out.2.2.2 HZD.out _ rfl 1 [.bool O] HSRC.out HN1.out HN2.out HSK.out ?_)
          intro v10 w10 hh hg
          have HV := Lib.hid (HV9.out.right HO.out hh hg)
          have HBL := Lib.hid (HBL9.out.trans (hg.belowW HV9.out.w2 HSK.out))
          clear hh hg HSRC HV9 HBL9 HSK HTr
          go_wp2_with fail
          go_roundw
          case rel => exact ⟨x + 1, by omega, by go_num, HV, HBL⟩
          case measure => simp [intOf]; omega
        · obtain rfl : x = 8 := by omega
          obtain ⟨wL, hwL⟩ : ∃ wL, wL = wr := ⟨_, rfl⟩
          rw [← hwL] at HTr HV HBL ⊢
          clear hwL hlt
          have HT2 := HTr
          clear HTr
          have HV2 := HV
          clear HV
          go_wp2_with fail
          refine (marks_any wL b m g ta HT2.out.p).mono ?_
          rintro e wL ⟨rfl, rfl⟩
          go_wp2_with fail
          refine (forget_any wL b m g ta 0 HT2.out.p (by unfold I6; omega)).mono ?_
          rintro e w5 ⟨rfl, hT, hk⟩
          have HKA := Lib.hid (show High wL.heap.size [] from fun x hx => by cases hx)
          replace HV2 := Lib.hid (HV2.out.kept hk (fun q hq hm => by have h1 := HT.out.p.low q hm; omega))
          replace HT2 := Lib.hid (HT2.out.set hT hk)
          clear hT hk HKA
          rw [show forgetT ta 0 = ta from forgetT_zero (fun f hf => (HG.out.fs.e f hf).1)] at HT2
          go_wp2_with fail
          refine (marks_any w5 b m g ta HT2.out.p).mono ?_
          rintro e w5 ⟨rfl, rfl⟩
          go_wp2_with fail
          refine (forget_any w5 b m g ta at_ HT2.out.p (by have := HAM.out; unfold I6; omega)).mono ?_
          rintro e w6 ⟨rfl, hT, hk⟩
          replace HV2 := Lib.hid (HV2.out.kept hk (fun q hq hm => by have h1 := HT.out.p.low q hm; omega))
          replace HT2 := Lib.hid (HT2.out.set hT hk)
          clear hT hk
          go_wp2_with fail
          refine (marks_any w6 b m g _ HT2.out.p).mono ?_
          rintro e w6 ⟨rfl, rfl⟩
          obtain ⟨tk, htk⟩ : ∃ tk, tk = forgetT ta at_ := ⟨_, rfl⟩
          have HTK := Lib.hid (show tk.fs.length ≤ ta.fs.length by rw [htk]; exact forgetT_fs _ _)
          have HTE := Lib.hid htk
          rw [← htk] at HT2 ⊢
          clear htk
          have HWM := Lib.hid (show wrap64 (at_ + more) = at_ + more by have := HAM.out; unfold wrap64; omega)
          go_wp2_with fail
          first | rw [HWM.out] | skip
          refine (forget_any w6 b m g tk (at_ + more) HT2.out.p (by have := HAM.out; unfold I6; omega)).mono ?_
          rintro e w7 ⟨rfl, hT, hk⟩
          replace HV2 := Lib.hid (HV2.out.kept hk (fun q hq hm => by have h1 := HT.out.p.low q hm; omega))
          replace HT2 := Lib.hid (HT2.out.set hT hk)
          clear hT hk
          obtain ⟨tz, htz⟩ : ∃ tz, tz = forgetT tk (at_ + more) := ⟨_, rfl⟩
          have HTZ := Lib.hid (show tz.fs.length ≤ tk.fs.length by rw [htz]; exact forgetT_fs _ _)
          have HEQ := Lib.hid (show ∀ x : Int, voteA tz x = voteA ta x ∧ cntA tz x = cntA ta x ∧ hasA tz x = hasA ta x from fun x => by rw [htz, HTE.out]; exact ⟨rfl, rfl, rfl⟩)
          rw [← htz] at HT2
          clear htz
          obtain ⟨ao8, cp8, g8, f8, hu8, hl8⟩ := HV2.out.open1 HG.out
          obtain ⟨ao9, cp9, g9, f9, hu9, hl9⟩ := HV2.out.open2
          subst hu8
          subst hu9
          have HL8 := Lib.hid hl8
          have HL9 := Lib.hid hl9
          clear hl8 hl9
          go_wp2_with fail
          go_loopw [20] (fun i wr => ∃ (x : Nat), x ≤ 8 ∧ i = .int .i64 x ∧ Hid (Below w7.heap.size w7 wr)) (fun i _ => 8 - (intOf i).toNat)
          case atStart => exact ⟨0, Nat.zero_le _, rfl, Lib.hid (Below.refl _ _)⟩
          case round =>
            obtain ⟨x, hx, rfl, HB7⟩ := hrel
            have HTr := Lib.hid (HT2.out.below HB7.out)
            by_cases hlt : x < 8
            · have hlx : (x : Int) < 8 := by omega
              have HIS := Lib.hid (show isW ta (x : Int) = true by unfold isW; rw [HP.out]; exact decide_eq_true (by omega))
              have HVA := Lib.hid (show voteA tz (x : Int) = ltN ta x ∧ cntA tz (x : Int) = !otN ta x by rw [(HEQ.out x).1, (HEQ.out x).2.1]; unfold voteA cntA; rw [HIS.out]; exact ⟨rfl, rfl⟩)
              have HLX := Lib.hid (HG.out.l x).1
              have HC8 := Lib.hid (show ∀ w8, Below w7.heap.size w7 w8 → ∀ q v, (vcl (ltN ta x))[q]? = some v → w8.cell? ⟨g8, f8 + x * 34 + q, none⟩ = some v from fun w8 hb q v hq => by
                have hql : q < 34 := by
                  have := (List.getElem?_eq_some_iff.1 hq).1
                  rwa [vcl_length HLX.out] at this
                rw [Nat.add_assoc]
                exact (HL8.out.keep hb).cells _ v (by rw [rowsOf_at HG.out.lrow hlt hql]; exact hq))
              have HC9 := Lib.hid (show ∀ w8, Below w7.heap.size w7 w8 → w8.cell? ⟨g9, f9 + x, none⟩ = some (.bool (!otN ta x)) from fun w8 hb => (HL9.out.keep hb).cells _ _ (ov_at (cnL_at ta hlt)))
              have hn8 : ao8 = some ⟨g8, f8, none⟩ := HL8.out.addr (by rw [rowsOf_length HG.out.lrow]; omega)
              have hn9 : ao9 = some ⟨g9, f9, none⟩ := HL9.out.addr (by rw [ov_length, cnL_length]; omega)
              subst hn8
              subst hn9
              go_wp2_with fail
              refine (vote_any wr b m g tz (x : Int) HTr.out.p).mono ?_
              rintro e w8 ⟨rfl, hbc⟩
              replace HTr := Lib.hid (HTr.out.below hbc)
              replace HB7 := Lib.hid (HB7.out.trans (hbc.mono HB7.out.size))
              clear hbc
              rw [HVA.out.1]
              generalize hasA tz (x : Int) = hs0
              have HZ := Lib.hid (zero_voteC w8)
              have hbc : Below w8.heap.size w8 ((w8.alloc (.cells #[.int .i64 0, .int .i64 0, .int .u8 0, .int .u8 0, .int .u8 0, .int .u8 0, .int .u8 0, .int .u8 0, .int .u8 0, .int .u8 0, .int .u8 0, .int .u8 0, .int .u8 0, .int .u8 0, .int .u8 0, .int .u8 0, .int .u8 0, .int .u8 0, .int .u8 0, .int .u8 0, .int .u8 0, .int .u8 0, .int .u8 0, .int .u8 0, .int .u8 0, .int .u8 0, .int .u8 0, .int .u8 0, .int .u8 0, .int .u8 0, .int .u8 0, .int .u8 0, .int .u8 0, .int .u8 0] 29)).setRow w8.heap.size (vcl (ltN ta x)).toArray) := below_row ((Below.refl _ w8).alloc (Nat.le_refl _) _) (Nat.le_refl _) _
              have HX := Lib.hid (HZ.out.setRow (vcl (ltN ta x)))
              go_upto_region 33 with ((with_reducible refine wpList_store_vote (.tmp 21) (.tmp 124) ?_ ?_ w8.heap.size vt0 (ltN ta x) ?_ ?_ HZ.out vt0_len HLX.out ?_); rfl; rfl; rfl; rfl)
              try simp only [Act.put]
              replace HTr := Lib.hid (HTr.out.below hbc)
              replace HB7 := Lib.hid (HB7.out.trans (hbc.mono HB7.out.size))
              obtain ⟨X, hX⟩ : ∃ X, X = w8.heap.size := ⟨_, rfl⟩
              rw [← hX] at HX HTr HB7 ⊢
              generalize (w8.alloc (.cells #[.int .i64 0, .int .i64 0, .int .u8 0, .int .u8 0, .int .u8 0, .int .u8 0, .int .u8 0, .int .u8 0, .int .u8 0, .int .u8 0, .int .u8 0, .int .u8 0, .int .u8 0, .int .u8 0, .int .u8 0, .int .u8 0, .int .u8 0, .int .u8 0, .int .u8 0, .int .u8 0, .int .u8 0, .int .u8 0, .int .u8 0, .int .u8 0, .int .u8 0, .int .u8 0, .int .u8 0, .int .u8 0, .int .u8 0, .int .u8 0, .int .u8 0, .int .u8 0, .int .u8 0, .int .u8 0] 29)).setRow X (vcl (ltN ta x)).toArray = w9 at HX HTr HB7 ⊢
              clear hbc HZ hX
              obtain ⟨O, hO⟩ : ∃ O, O = !otN ta x := ⟨_, rfl⟩
              have HO := Lib.hid hO.symm
              clear hO
              cases O with
              | true =>
                have HLT := Lib.hid (show (x : Int) < 8 from hlx)
                refine wp_region_free (P := Try.prog) 15 (fun w' => Below w9.heap.size w9 w') (fun oq v w' => match oq with
                    | 0 => v = .agg (vcl (ltN ta x)).toArray
                    | 1 => v = .slice (some ⟨g8, f8, none⟩) 8 cp8
                    | 2 => v = .int .i64 (x : Int)
                    | 3 => v = .pointer (some ⟨g8, f8 + x * 34, none⟩)
                    | 4 => v = .agg (vcl (ltN ta x)).toArray
                    | 5 => v = .bool false
                    | 6 => v = .bool false
                    | 7 => v = .pointer (some ⟨b, 0, none⟩)
                    | 8 => v = .int .i64 (x : Int)
                    | 9 => v = .bool true
                    | 10 => v = .slice (some ⟨g9, f9, none⟩) 8 cp9
                    | 11 => v = .int .i64 (x : Int)
                    | 12 => v = .pointer (some ⟨g9, f9 + x, none⟩)
                    | 13 => v = .bool true
                    | 14 => v = .bool false
                    | _ => True) (by kernel_rfl) (by kernel_rfl) (Below.refl _ _).drew ?gb ?vb ?steps ?fin
                case gb => exact fun a b h1 h2 => h1.trans (h2.mono h1.size)
                case vb =>
                  intro oq v a b h hb
                  match oq with
                  | 0 => exact h
                  | 1 => exact h
                  | 2 => exact h
                  | 3 => exact h
                  | 4 => exact h
                  | 5 => exact h
                  | 6 => exact h
                  | 7 => exact h
                  | 8 => exact h
                  | 9 => exact h
                  | 10 => exact h
                  | 11 => exact h
                  | 12 => exact h
                  | 13 => exact h
                  | 14 => exact h
                  | _ + 15 => trivial
                case steps =>
                  intro vals
                  simp only [List.take_succ_cons, List.take_zero, freeSteps, Act.put, List.setIfInBounds_toArray, List.set_cons_zero, List.set_cons_succ, Nat.reduceAdd]
                  refine ⟨fun w8 hG hW => ?_, fun w8 hG hW => ?_, fun w8 hG hW => ?_, fun w8 hG hW => ?_, fun w8 hG hW => ?_, fun w8 hG hW => ?_, fun w8 hG hW => ?_, fun w8 hG hW => ?_, fun w8 hG hW => ?_, fun w8 hG hW => ?_, fun w8 hG hW => ?_, fun w8 hG hW => ?_, fun w8 hG hW => ?_, fun w8 hG hW => ?_, fun w8 hG hW => ?_, trivial⟩
                  · clear hW
                    refine stepAt_load_run rfl rfl rfl _ _ rfl _ _ rfl (run_load_vote HLX.out (HX.out.below hG HX.out.lt).voteAll) ⟨rfl, Below.refl _ _⟩
                  · clear hW
                    refine stepAt_value rfl rfl rfl (.slice (some ⟨g8, f8, none⟩) 8 cp8) w8 ?_ ⟨rfl, Below.refl _ _⟩
                    go_simp
                  · clear hW
                    refine stepAt_value rfl rfl rfl (.int .i64 (x : Int)) w8 ?_ ⟨rfl, Below.refl _ _⟩
                    go_simp
                  · have q1 := hW 1 (by decide)
                    simp only at q1
                    have q2 := hW 2 (by decide)
                    simp only at q2
                    rw [q1, q2]
                    clear hW
                    refine stepAt_value rfl rfl rfl (.pointer (some ⟨g8, f8 + x * 34, none⟩)) w8 ?_ ⟨rfl, Below.refl _ _⟩
                    have hlt' := HLT.out
                    go_simp
                  · have q3 := hW 3 (by decide)
                    simp only at q3
                    rw [q3]
                    clear hW
                    refine stepAt_load_run rfl rfl rfl _ _ rfl _ _ rfl (run_load_vote HLX.out (HC8.out w8 (HB7.out.trans (hG.mono HB7.out.size)))) ⟨rfl, Below.refl _ _⟩
                  · have q0 := hW 0 (by decide)
                    simp only at q0
                    have q4 := hW 4 (by decide)
                    simp only at q4
                    rw [q0, q4]
                    clear hW
                    refine stepAt_neq_vt rfl rfl rfl (.tmp 126) (.tmp 130) 29 rfl (ltN ta x) (ltN ta x) rfl rfl HLX.out HLX.out ⟨?_, Below.refl _ _⟩
                    rw [eqV_self]
                    rfl
                  · have q5 := hW 5 (by decide)
                    simp only at q5
                    rw [q5]
                    clear hW
                    refine stepAt_value rfl rfl rfl (.bool false) w8 ?_ ⟨rfl, Below.refl _ _⟩
                    go_simp
                  · have q6 := hW 6 (by decide)
                    simp only at q6
                    rw [q6]
                    clear hW
                    refine stepAt_value rfl rfl rfl (.pointer (some ⟨b, 0, none⟩)) w8 ?_ ⟨rfl, Below.refl _ _⟩
                    go_simp
                  · have q6 := hW 6 (by decide)
                    simp only at q6
                    rw [q6]
                    clear hW
                    refine stepAt_value rfl rfl rfl (.int .i64 (x : Int)) w8 ?_ ⟨rfl, Below.refl _ _⟩
                    go_simp
                  · have q6 := hW 6 (by decide)
                    simp only at q6
                    have q7 := hW 7 (by decide)
                    simp only at q7
                    have q8 := hW 8 (by decide)
                    simp only at q8
                    rw [q6, q7, q8]
                    clear hW
                    refine stepAt_call rfl rfl rfl 14 #[.pointer (some ⟨b, 0, none⟩), .int .i64 (x : Int)] (by go_simp) ((counts_any w8 b m g tz (x : Int) (HTr.out.below hG).p).mono fun e w' ⟨h1, h2⟩ => ⟨_, h1, congrArg Value.bool (HVA.out.2.trans HO.out), by rw [h2]; exact Below.refl _ _⟩)
                  · have q6 := hW 6 (by decide)
                    simp only at q6
                    rw [q6]
                    clear hW
                    refine stepAt_value rfl rfl rfl (.slice (some ⟨g9, f9, none⟩) 8 cp9) w8 ?_ ⟨rfl, Below.refl _ _⟩
                    go_simp
                  · have q6 := hW 6 (by decide)
                    simp only at q6
                    rw [q6]
                    clear hW
                    refine stepAt_value rfl rfl rfl (.int .i64 (x : Int)) w8 ?_ ⟨rfl, Below.refl _ _⟩
                    go_simp
                  · have q6 := hW 6 (by decide)
                    simp only at q6
                    have q10 := hW 10 (by decide)
                    simp only at q10
                    have q11 := hW 11 (by decide)
                    simp only at q11
                    rw [q6, q10, q11]
                    clear hW
                    refine stepAt_value rfl rfl rfl (.pointer (some ⟨g9, f9 + x, none⟩)) w8 ?_ ⟨rfl, Below.refl _ _⟩
                    have hlt' := HLT.out
                    go_simp
                  · have q6 := hW 6 (by decide)
                    simp only at q6
                    have q12 := hW 12 (by decide)
                    simp only at q12
                    rw [q6, q12]
                    clear hW
                    refine stepAt_value rfl rfl rfl (.bool true) w8 ?_ ⟨rfl, Below.refl _ _⟩
                    have cc := HC9.out w8 (HB7.out.trans (hG.mono HB7.out.size))
                    rw [HO.out] at cc
                    go_simp
                  · have q6 := hW 6 (by decide)
                    simp only at q6
                    have q9 := hW 9 (by decide)
                    simp only at q9
                    have q13 := hW 13 (by decide)
                    simp only at q13
                    rw [q6, q9, q13]
                    clear hW
                    refine stepAt_value rfl rfl rfl (.bool false) w8 ?_ ⟨rfl, Below.refl _ _⟩
                    go_simp
                case fin =>
                  intro vals wA hG hV
                  have q6 := hV 6 (by omega)
                  simp only at q6
                  have q14 := hV 14 (by omega)
                  simp only at q14
                  simp only [List.take_succ_cons, List.take_zero, List.drop_succ_cons, List.drop_zero, putAll, Act.put, List.setIfInBounds_toArray, List.set_cons_zero, List.set_cons_succ, Nat.reduceAdd]
                  rw [q6, q14]
                  clear hV q6 q14
                  generalize vals 0 = y0
                  generalize vals 1 = y1
                  generalize vals 2 = y2
                  generalize vals 3 = y3
                  generalize vals 4 = y4
                  generalize vals 5 = y5
                  generalize vals 7 = y7
                  generalize vals 8 = y8
                  generalize vals 9 = y9
                  generalize vals 10 = y10
                  generalize vals 11 = y11
                  generalize vals 12 = y12
                  generalize vals 13 = y13
                  replace HTr := Lib.hid (HTr.out.below hG)
                  replace HB7 := Lib.hid (HB7.out.trans (hG.mono HB7.out.size))
                  clear hG
                  go_wp2_with fail
                  go_roundw
                  case rel => exact ⟨x + 1, by omega, by go_num, HB7⟩
                  case measure => simp [intOf]; omega
              | false =>
                have HLT := Lib.hid (show (x : Int) < 8 from hlx)
                refine wp_region_free (P := Try.prog) 15 (fun w' => Below w9.heap.size w9 w') (fun oq v w' => match oq with
                    | 0 => v = .agg (vcl (ltN ta x)).toArray
                    | 1 => v = .slice (some ⟨g8, f8, none⟩) 8 cp8
                    | 2 => v = .int .i64 (x : Int)
                    | 3 => v = .pointer (some ⟨g8, f8 + x * 34, none⟩)
                    | 4 => v = .agg (vcl (ltN ta x)).toArray
                    | 5 => v = .bool false
                    | 6 => v = .bool false
                    | 7 => v = .pointer (some ⟨b, 0, none⟩)
                    | 8 => v = .int .i64 (x : Int)
                    | 9 => v = .bool false
                    | 10 => v = .slice (some ⟨g9, f9, none⟩) 8 cp9
                    | 11 => v = .int .i64 (x : Int)
                    | 12 => v = .pointer (some ⟨g9, f9 + x, none⟩)
                    | 13 => v = .bool false
                    | 14 => v = .bool false
                    | _ => True) (by kernel_rfl) (by kernel_rfl) (Below.refl _ _).drew ?gb ?vb ?steps ?fin
                case gb => exact fun a b h1 h2 => h1.trans (h2.mono h1.size)
                case vb =>
                  intro oq v a b h hb
                  match oq with
                  | 0 => exact h
                  | 1 => exact h
                  | 2 => exact h
                  | 3 => exact h
                  | 4 => exact h
                  | 5 => exact h
                  | 6 => exact h
                  | 7 => exact h
                  | 8 => exact h
                  | 9 => exact h
                  | 10 => exact h
                  | 11 => exact h
                  | 12 => exact h
                  | 13 => exact h
                  | 14 => exact h
                  | _ + 15 => trivial
                case steps =>
                  intro vals
                  simp only [List.take_succ_cons, List.take_zero, freeSteps, Act.put, List.setIfInBounds_toArray, List.set_cons_zero, List.set_cons_succ, Nat.reduceAdd]
                  refine ⟨fun w8 hG hW => ?_, fun w8 hG hW => ?_, fun w8 hG hW => ?_, fun w8 hG hW => ?_, fun w8 hG hW => ?_, fun w8 hG hW => ?_, fun w8 hG hW => ?_, fun w8 hG hW => ?_, fun w8 hG hW => ?_, fun w8 hG hW => ?_, fun w8 hG hW => ?_, fun w8 hG hW => ?_, fun w8 hG hW => ?_, fun w8 hG hW => ?_, fun w8 hG hW => ?_, trivial⟩
                  · clear hW
                    refine stepAt_load_run rfl rfl rfl _ _ rfl _ _ rfl (run_load_vote HLX.out (HX.out.below hG HX.out.lt).voteAll) ⟨rfl, Below.refl _ _⟩
                  · clear hW
                    refine stepAt_value rfl rfl rfl (.slice (some ⟨g8, f8, none⟩) 8 cp8) w8 ?_ ⟨rfl, Below.refl _ _⟩
                    go_simp
                  · clear hW
                    refine stepAt_value rfl rfl rfl (.int .i64 (x : Int)) w8 ?_ ⟨rfl, Below.refl _ _⟩
                    go_simp
                  · have q1 := hW 1 (by decide)
                    simp only at q1
                    have q2 := hW 2 (by decide)
                    simp only at q2
                    rw [q1, q2]
                    clear hW
                    refine stepAt_value rfl rfl rfl (.pointer (some ⟨g8, f8 + x * 34, none⟩)) w8 ?_ ⟨rfl, Below.refl _ _⟩
                    have hlt' := HLT.out
                    go_simp
                  · have q3 := hW 3 (by decide)
                    simp only at q3
                    rw [q3]
                    clear hW
                    refine stepAt_load_run rfl rfl rfl _ _ rfl _ _ rfl (run_load_vote HLX.out (HC8.out w8 (HB7.out.trans (hG.mono HB7.out.size)))) ⟨rfl, Below.refl _ _⟩
                  · have q0 := hW 0 (by decide)
                    simp only at q0
                    have q4 := hW 4 (by decide)
                    simp only at q4
                    rw [q0, q4]
                    clear hW
                    refine stepAt_neq_vt rfl rfl rfl (.tmp 126) (.tmp 130) 29 rfl (ltN ta x) (ltN ta x) rfl rfl HLX.out HLX.out ⟨?_, Below.refl _ _⟩
                    rw [eqV_self]
                    rfl
                  · have q5 := hW 5 (by decide)
                    simp only at q5
                    rw [q5]
                    clear hW
                    refine stepAt_value rfl rfl rfl (.bool false) w8 ?_ ⟨rfl, Below.refl _ _⟩
                    go_simp
                  · have q6 := hW 6 (by decide)
                    simp only at q6
                    rw [q6]
                    clear hW
                    refine stepAt_value rfl rfl rfl (.pointer (some ⟨b, 0, none⟩)) w8 ?_ ⟨rfl, Below.refl _ _⟩
                    go_simp
                  · have q6 := hW 6 (by decide)
                    simp only at q6
                    rw [q6]
                    clear hW
                    refine stepAt_value rfl rfl rfl (.int .i64 (x : Int)) w8 ?_ ⟨rfl, Below.refl _ _⟩
                    go_simp
                  · have q6 := hW 6 (by decide)
                    simp only at q6
                    have q7 := hW 7 (by decide)
                    simp only at q7
                    have q8 := hW 8 (by decide)
                    simp only at q8
                    rw [q6, q7, q8]
                    clear hW
                    refine stepAt_call rfl rfl rfl 14 #[.pointer (some ⟨b, 0, none⟩), .int .i64 (x : Int)] (by go_simp) ((counts_any w8 b m g tz (x : Int) (HTr.out.below hG).p).mono fun e w' ⟨h1, h2⟩ => ⟨_, h1, congrArg Value.bool (HVA.out.2.trans HO.out), by rw [h2]; exact Below.refl _ _⟩)
                  · have q6 := hW 6 (by decide)
                    simp only at q6
                    rw [q6]
                    clear hW
                    refine stepAt_value rfl rfl rfl (.slice (some ⟨g9, f9, none⟩) 8 cp9) w8 ?_ ⟨rfl, Below.refl _ _⟩
                    go_simp
                  · have q6 := hW 6 (by decide)
                    simp only at q6
                    rw [q6]
                    clear hW
                    refine stepAt_value rfl rfl rfl (.int .i64 (x : Int)) w8 ?_ ⟨rfl, Below.refl _ _⟩
                    go_simp
                  · have q6 := hW 6 (by decide)
                    simp only at q6
                    have q10 := hW 10 (by decide)
                    simp only at q10
                    have q11 := hW 11 (by decide)
                    simp only at q11
                    rw [q6, q10, q11]
                    clear hW
                    refine stepAt_value rfl rfl rfl (.pointer (some ⟨g9, f9 + x, none⟩)) w8 ?_ ⟨rfl, Below.refl _ _⟩
                    have hlt' := HLT.out
                    go_simp
                  · have q6 := hW 6 (by decide)
                    simp only at q6
                    have q12 := hW 12 (by decide)
                    simp only at q12
                    rw [q6, q12]
                    clear hW
                    refine stepAt_value rfl rfl rfl (.bool false) w8 ?_ ⟨rfl, Below.refl _ _⟩
                    have cc := HC9.out w8 (HB7.out.trans (hG.mono HB7.out.size))
                    rw [HO.out] at cc
                    go_simp
                  · have q6 := hW 6 (by decide)
                    simp only at q6
                    have q9 := hW 9 (by decide)
                    simp only at q9
                    have q13 := hW 13 (by decide)
                    simp only at q13
                    rw [q6, q9, q13]
                    clear hW
                    refine stepAt_value rfl rfl rfl (.bool false) w8 ?_ ⟨rfl, Below.refl _ _⟩
                    go_simp
                case fin =>
                  intro vals wA hG hV
                  have q6 := hV 6 (by omega)
                  simp only at q6
                  have q14 := hV 14 (by omega)
                  simp only at q14
                  simp only [List.take_succ_cons, List.take_zero, List.drop_succ_cons, List.drop_zero, putAll, Act.put, List.setIfInBounds_toArray, List.set_cons_zero, List.set_cons_succ, Nat.reduceAdd]
                  rw [q6, q14]
                  clear hV q6 q14
                  generalize vals 0 = y0
                  generalize vals 1 = y1
                  generalize vals 2 = y2
                  generalize vals 3 = y3
                  generalize vals 4 = y4
                  generalize vals 5 = y5
                  generalize vals 7 = y7
                  generalize vals 8 = y8
                  generalize vals 9 = y9
                  generalize vals 10 = y10
                  generalize vals 11 = y11
                  generalize vals 12 = y12
                  generalize vals 13 = y13
                  replace HTr := Lib.hid (HTr.out.below hG)
                  replace HB7 := Lib.hid (HB7.out.trans (hG.mono HB7.out.size))
                  clear hG
                  go_wp2_with fail
                  go_roundw
                  case rel => exact ⟨x + 1, by omega, by go_num, HB7⟩
                  case measure => simp [intOf]; omega
            · obtain rfl : x = 8 := by omega
              obtain ⟨wM, hwM⟩ : ∃ wM, wM = wr := ⟨_, rfl⟩
              rw [← hwM] at HTr ⊢
              clear hwM hlt
              have hle1 : (tk.fs.length : Int) ≤ (ta.fs.length : Int) := by have := HTK.out; omega
              have hle2 : (tz.fs.length : Int) ≤ (tk.fs.length : Int) := by have := HTZ.out; omega
              go_wp2_with fail
              refine (marks_any wM b m g tz HTr.out.p).mono ?_
              rintro e wM ⟨rfl, rfl⟩
              go_wp2_with fail
              go_ret
              exact ⟨rfl, HTr.out.bl⟩
end Go.Proofs.Ytoinigcfcjllcaa
