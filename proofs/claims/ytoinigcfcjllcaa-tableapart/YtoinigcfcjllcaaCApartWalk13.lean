/-
  The texts ApartWalk13, one behind the other.
-/
import Derived.Test.YtoinigcfcjllcaaApartM9
import Derived.Test.YtoinigcfcjllcaaCOpenCalls
/-
  The walk of TableApart.
-/
namespace Go.Proofs.Ytoinigcfcjllcaa
open Go Go.RowKit
set_option maxRecDepth 10000

/-- Two tables that say the same of a validator. -/
structure Ap (ta tb : Tb) (who : Int) : Prop where
  g : GoodB ta
  h : GoodB tb
  n : ta.n = tb.n
  k : ta.k = tb.k
  s : 0 ≤ who → SameW ta tb who
theorem Ap.refl {t : Tb} (G : GoodB t) (who : Int) : Ap t t who := ⟨G, G, rfl, rfl, fun _ => SameW.refl t who⟩
theorem Ap.forget {ta tb : Tb} {who : Int} (h : Ap ta tb who) (s : Int) : Ap (forgetT ta s) (forgetT tb s) who := ⟨forgetT_good h.g s, forgetT_good h.h s, h.n, h.k, fun hw => (h.s hw).forget h.k s⟩
theorem Ap.hit {ta tb : Tb} {who : Int} (h : Ap ta tb who) {v : Vt} (hw : v.w = who) : (takeT ta v).1 = (takeT tb v).1 ∧ Ap (takeT ta v).2 (takeT tb v).2 who := by
  subst hw
  by_cases h0 : 0 ≤ v.w
  · have h1 := take_same h.g h.h h.n h.k (h.s h0)
    exact ⟨h1.1, takeT_good h.g v, takeT_good h.h v, by rw [(takeT_nk ta v).1, (takeT_nk tb v).1]; exact h.n, by rw [(takeT_nk ta v).2, (takeT_nk tb v).2]; exact h.k, fun _ => h1.2⟩
  · have e1 : takeT ta v = (5, ta) := by unfold takeT; rw [if_neg fun hc => h0 hc.1]
    have e2 : takeT tb v = (5, tb) := by unfold takeT; rw [if_neg fun hc => h0 hc.1]
    rw [e1, e2]
    exact ⟨rfl, h⟩
theorem Ap.miss {ta tb : Tb} {who : Int} (h : Ap ta tb who) {v : Vt} (hw : ¬ v.w = who) : Ap (takeT ta v).2 tb who :=
  ⟨takeT_good h.g v, h.h, by rw [(takeT_nk ta v).1]; exact h.n, by rw [(takeT_nk ta v).2]; exact h.k, fun h0 => (take_other ta v h0 hw).trans (h.s h0)⟩
theorem Ap.eqs {ta tb : Tb} {who : Int} (h : Ap ta tb who) : voteA ta who = voteA tb who ∧ hasA ta who = hasA tb who ∧ cntA ta who = cntA tb who := by
  have hw : isW ta who = isW tb who := by unfold isW; rw [h.n]
  unfold voteA hasA cntA
  rw [← hw]
  cases hi : isW ta who with
  | false => exact ⟨rfl, rfl, rfl⟩
  | true =>
    obtain ⟨k, rfl, _⟩ := isW_nat hi
    have hs := h.s (by omega)
    have h1 : ltN ta k = ltN tb k := hs.l
    have h2 : hsN ta k = hsN tb k := hs.h
    have h3 : otN ta k = otN tb k := hs.o
    rw [Int.toNat_natCast, h1, h2, h3]
    exact ⟨rfl, rfl, rfl⟩
set_option maxHeartbeats 16000000 in
theorem apart_any (w : World) (k : Int) (ao : Option Addr) (len cap cb off : Nat) (l : List Cl) (who : Int) (hl : l.length = len) (h6 : ∀ c ∈ l, I6 c.s) (h : Lies w w.heap.size ao cb off (ccls l)) :
    Calls Try.prog 6 #[.int .i64 k, .slice ao len cap, .int .i64 who] w fun e w' => e = .returned (.bool true) ∧ Below w.heap.size w w' := by
  have HS := Lib.hid h
  clear h
  go_enter Try.func6, Try.ntmps6
  go_wp2_with fail
  refine (alive_any w).mono ?_
  rintro e w1 ⟨rfl, hb1⟩
  have HB := Lib.hid hb1
  clear hb1
  by_cases hbig : (200 : Int) < (len : Int)
  · go_wp2_with fail
    go_ret
    exact ⟨rfl, HB.out⟩
  go_wp2_with fail
  refine (new_any w1 8 k).mono ?_
  rintro e w2 (⟨hn, rfl, rfl⟩ | ⟨n1, n2, k1, k2, b1, m1, t1, rfl, hT, hH, hb2⟩)
  · have HNO := Lib.hid hn
    go_wp2_with fail
    refine (new_any _ 8 k).mono ?_
    rintro e w3 (⟨hn2, rfl, rfl⟩ | ⟨n1, n2, k1, k2, b1, m1, t1, rfl, hT, hH, hb2⟩)
    · clear hn hn2
      by_cases g0 : k < 1
      · go_wp2_with fail
        go_ret
        exact ⟨rfl, HB.out⟩
      have gl : (32 : Int) < k := by have := HNO.out; omega
      go_wp2_with fail
      go_ret
      exact ⟨rfl, HB.out⟩
    · exact absurd ⟨n1, n2, k1, k2⟩ hn
  have HNK := Lib.hid (show (1 : Int) ≤ 8 ∧ (8 : Int) ≤ 64 ∧ 1 ≤ k ∧ k ≤ 32 from ⟨n1, n2, k1, k2⟩)
  obtain ⟨K, rfl⟩ : ∃ K : Nat, k = (K : Int) := ⟨k.toNat, by omega⟩
  rw [Int.toNat_natCast] at hT
  have HT1 := Lib.hid hT
  have HH1 := Lib.hid hH
  have HB2 := Lib.hid (HB.out.trans (hb2.mono HB.out.size))
  clear hT hH hb2 n1 n2 k1 k2
  go_wp2_with fail
  refine (new_any w2 8 (K : Int)).mono ?_
  rintro e w3 (⟨hn2, rfl, rfl⟩ | ⟨_, _, _, _, b2, m2, t2, rfl, hT, hH, hb3⟩)
  · exact absurd HNK.out hn2
  rw [Int.toNat_natCast] at hT
  have HT := Lib.hid (T2.new (w0 := w) HB2.out HT1.out (HH1.out.mono HB.out.size) hT hH hb3)
  clear HT1 HH1 HB HB2 hT hH hb3
  go_wp2_with fail
  go_loopw [39] (fun i wr => ∃ (j : Nat) (ta tb : Tb), j ≤ len ∧ ta.fs.length ≤ j ∧ tb.fs.length ≤ j ∧ i = .int .i64 j ∧ Hid (Ap ta tb who) ∧ Hid (T2 w b1 m1 t1 b2 m2 t2 ta tb wr)) (fun i _ => len - (intOf i).toNat)
  case atStart => exact ⟨0, newT (Int.toNat 8) K, newT (Int.toNat 8) K, Nat.zero_le _, Nat.le_refl 0, Nat.le_refl 0, rfl, Lib.hid (Ap.refl HT.out.p.fit.gd who), HT⟩
  case round =>
    clear HT
    obtain ⟨j, ta, tb, hj, hja, hjb, rfl, HP, HT⟩ := hrel
    by_cases hlt : j < len
    · obtain ⟨c, hc⟩ : ∃ c, l[j]? = some c := ⟨_, List.getElem?_eq_getElem (by omega)⟩
      obtain ⟨hao, hcc⟩ := (HS.out.keep HT.out.bl).call hc
      subst hao
      have HCE := Lib.hid hcc
      have HI := Lib.hid (h6 c (List.mem_of_getElem? hc))
      have hjl : (j : Int) < (len : Int) := by omega
      have HJA := Lib.hid hja
      have HJB := Lib.hid hjb
      have HLA := Lib.hid (show ta.fs.length ≤ 1000 by omega)
      have HLB := Lib.hid (show tb.fs.length ≤ 1000 by omega)
      clear hc hcc
      have HZ := Lib.hid (zero_call wr)
      have hbc : Below wr.heap.size wr ((wr.alloc (.cells #[.bool false, .int .i64 0, .int .i64 0, .int .i64 0] 41)).setRow wr.heap.size (ccl c).toArray) := below_row ((Below.refl _ wr).alloc (Nat.le_refl _) _) (Nat.le_refl _) _
      have HX := Lib.hid (HZ.out.setRow (ccl c))
      have HAW := Lib.hid (HT.out.away (Nat.le_refl wr.heap.size))
      go_upto_region 11 with (first
        | ((with_reducible refine wpList_load_call (.tmp 41) ?_ ?_ cb (off + j * 4) c ?_ HCE.out ?_); rfl; rfl; rfl)
        | ((with_reducible refine wpList_store_call (.tmp 10) (.tmp 42) ?_ ?_ wr.heap.size cl0 c ?_ ?_ HZ.out ?_); rfl; rfl; rfl; rfl))
      try simp only [Act.put]
      replace HT := Lib.hid (HT.out.below hbc)
      obtain ⟨X, hX⟩ : ∃ X, X = wr.heap.size := ⟨_, rfl⟩
      rw [← hX] at HX HAW HT ⊢
      generalize (wr.alloc (.cells #[.bool false, .int .i64 0, .int .i64 0, .int .i64 0] 41)).setRow X (ccl c).toArray = w5 at HX HT ⊢
      clear hbc HZ hX HCE
      cases hf : c.f with
      | true =>
        have c0 := HX.out.cell 0
        have c2 := HX.out.cell 2
        simp only [ccl, List.getElem?_cons_zero, List.getElem?_cons_succ] at c0 c2
        rw [hf] at c0
        clear hf
        go_wp2_with fail
        refine (forget_any w5 b1 m1 t1 ta c.s HT.out.p HI.out).mono ?_
        rintro e w6 ⟨rfl, hT, hk⟩
        clear c0 c2
        replace HX := Lib.hid (HX.out.kept hk HAW.out.1)
        replace HT := Lib.hid (HT.out.setp hT hk)
        clear hT hk
        have c2 := HX.out.cell 2
        simp only [ccl, List.getElem?_cons_zero, List.getElem?_cons_succ] at c2
        go_wp2_with fail
        refine (forget_any w6 b2 m2 t2 tb c.s HT.out.q HI.out).mono ?_
        rintro e w7 ⟨rfl, hT, hk⟩
        clear c2
        replace HT := Lib.hid (HT.out.setq hT hk)
        clear hT hk
        go_wp2_with fail
        go_roundw
        case rel => exact ⟨j + 1, _, _, by omega, Nat.le_trans (forgetT_fs _ _) (by have := HJA.out; omega), Nat.le_trans (forgetT_fs _ _) (by have := HJB.out; omega), by go_num, Lib.hid (HP.out.forget c.s), HT⟩
        case measure => simp [intOf]; omega
      | false =>
        have c0 := HX.out.cell 0
        simp only [ccl, List.getElem?_cons_zero] at c0
        rw [hf] at c0
        clear hf
        have HXA := Lib.hid HX.out.callAll
        go_wp2_with ((with_reducible refine wpList_load_call (.tmp 10) ?_ ?_ X 0 c ?_ HXA.out ?_); rfl; rfl; rfl)
        refine (cvote_any _ c).mono ?_
        rintro e w6 ⟨rfl, hbc⟩
        replace HT := Lib.hid (HT.out.below hbc)
        replace HX := Lib.hid (HX.out.below hbc HX.out.lt)
        clear hbc HXA c0
        go_wp2_with fail
        refine (take_any w6 b1 m1 t1 ta (ctv c) HT.out.p (ctv_len c) HLA.out).mono ?_
        rintro e w7 ⟨rfl, hT, hk⟩
        replace HX := Lib.hid (HX.out.kept hk HAW.out.1)
        replace HT := Lib.hid (HT.out.setp hT hk)
        clear hT hk
        have c1 := HX.out.cell 1
        simp only [ccl, List.getElem?_cons_zero, List.getElem?_cons_succ] at c1
        by_cases hw : c.w = who
        · have HPN := Lib.hid (HP.out.hit (v := ctv c) hw)
          have hwe : (c.w == who) = true := beq_iff_eq.2 hw
          clear hw
          have HXA := Lib.hid HX.out.callAll
          go_wp2_with ((with_reducible refine wpList_load_call (.tmp 10) ?_ ?_ X 0 c ?_ HXA.out ?_); rfl; rfl; rfl)
          refine (cvote_any _ c).mono ?_
          rintro e w8 ⟨rfl, hbc⟩
          replace HT := Lib.hid (HT.out.below hbc)
          replace HX := Lib.hid (HX.out.below hbc HX.out.lt)
          clear hbc HXA c1 hwe
          go_wp2_with fail
          refine (take_any w8 b2 m2 t2 tb (ctv c) HT.out.q (ctv_len c) HLB.out).mono ?_
          rintro e w9 ⟨rfl, hT, hk⟩
          replace HT := Lib.hid (HT.out.setq hT hk)
          clear hT hk
          rw [← HPN.out.1]
          obtain ⟨CO, hCO⟩ : ∃ CO, CO = (takeT ta (ctv c)).1 := ⟨_, rfl⟩
          rw [← hCO]
          clear hCO
          have hco : ((CO == CO) = true) := beq_self_eq_true CO
          go_wp2_with fail
          go_roundw
          case rel => exact ⟨j + 1, _, _, by omega, Nat.le_trans (take_fs _ _) (by have := HJA.out; omega), Nat.le_trans (take_fs _ _) (by have := HJB.out; omega), by go_num, Lib.hid HPN.out.2, HT⟩
          case measure => simp [intOf]; omega
        · have HPN := Lib.hid (HP.out.miss (v := ctv c) hw)
          have hwe : (c.w == who) = false := beq_eq_false_iff_ne.2 hw
          clear hw
          go_wp2_with fail
          go_roundw
          case rel => exact ⟨j + 1, _, _, by omega, Nat.le_trans (take_fs _ _) (by have := HJA.out; omega), Nat.le_trans HJB.out (by omega), by go_num, HPN, HT⟩
          case measure => simp [intOf]; omega
    · obtain rfl : j = len := by omega
      obtain ⟨w4, hw4⟩ : ∃ w4, w4 = wr := ⟨_, rfl⟩
      rw [← hw4] at HT ⊢
      clear hw4 hlt hja hjb
      go_wp2_with fail
      refine (vote_any w4 b1 m1 t1 ta who HT.out.p).mono ?_
      rintro e w5 ⟨rfl, hbc⟩
      replace HT := Lib.hid (HT.out.below hbc)
      clear hbc
      have HE := Lib.hid HP.out.eqs
      obtain ⟨VV, hVV⟩ : ∃ VV, VV = voteA ta who := ⟨_, rfl⟩
      obtain ⟨H, hH⟩ : ∃ H, H = hasA ta who := ⟨_, rfl⟩
      obtain ⟨C, hC⟩ : ∃ C, C = cntA ta who := ⟨_, rfl⟩
      have HLX := Lib.hid (show VV.g.length = 32 by rw [hVV]; unfold voteA; split; exact (HT.out.p.fit.l _).1; exact vt0_len)
      have HLY := HLX
      rw [← hVV, ← hH, ← hC] at HE
      rw [← hVV, ← hH]
      have HCC := Lib.hid hC.symm
      clear hVV hH hC
      have HZ := Lib.hid (zero_voteC w5)
      have hbc : Below w5.heap.size w5 ((w5.alloc (.cells #[.int .i64 0, .int .i64 0, .int .u8 0, .int .u8 0, .int .u8 0, .int .u8 0, .int .u8 0, .int .u8 0, .int .u8 0, .int .u8 0, .int .u8 0, .int .u8 0, .int .u8 0, .int .u8 0, .int .u8 0, .int .u8 0, .int .u8 0, .int .u8 0, .int .u8 0, .int .u8 0, .int .u8 0, .int .u8 0, .int .u8 0, .int .u8 0, .int .u8 0, .int .u8 0, .int .u8 0, .int .u8 0, .int .u8 0, .int .u8 0, .int .u8 0, .int .u8 0, .int .u8 0, .int .u8 0] 29)).setRow w5.heap.size (vcl VV).toArray) := below_row ((Below.refl _ w5).alloc (Nat.le_refl _) _) (Nat.le_refl _) _
      have HX := Lib.hid (HZ.out.setRow (vcl VV))
      go_upto_region 19 with ((with_reducible refine wpList_store_vote (.tmp 12) (.tmp 74) ?_ ?_ w5.heap.size vt0 VV ?_ ?_ HZ.out vt0_len HLX.out ?_); rfl; rfl; rfl; rfl)
      try simp only [Act.put]
      replace HT := Lib.hid (HT.out.below hbc)
      obtain ⟨X, hX⟩ : ∃ X, X = w5.heap.size := ⟨_, rfl⟩
      rw [← hX] at HX HT ⊢
      generalize (w5.alloc (.cells #[.int .i64 0, .int .i64 0, .int .u8 0, .int .u8 0, .int .u8 0, .int .u8 0, .int .u8 0, .int .u8 0, .int .u8 0, .int .u8 0, .int .u8 0, .int .u8 0, .int .u8 0, .int .u8 0, .int .u8 0, .int .u8 0, .int .u8 0, .int .u8 0, .int .u8 0, .int .u8 0, .int .u8 0, .int .u8 0, .int .u8 0, .int .u8 0, .int .u8 0, .int .u8 0, .int .u8 0, .int .u8 0, .int .u8 0, .int .u8 0, .int .u8 0, .int .u8 0, .int .u8 0, .int .u8 0] 29)).setRow X (vcl VV).toArray = w6 at HX HT ⊢
      clear hbc HZ hX
      go_wp2_with fail
      refine (vote_any w6 b2 m2 t2 tb who HT.out.q).mono ?_
      rintro e w7 ⟨rfl, hbc⟩
      replace HT := Lib.hid (HT.out.below hbc)
      replace HX := Lib.hid (HX.out.below hbc HX.out.lt)
      clear hbc
      rw [← HE.out.1, ← HE.out.2.1]
      have HZ := Lib.hid (zero_voteC w7)
      have hbc : Below w7.heap.size w7 ((w7.alloc (.cells #[.int .i64 0, .int .i64 0, .int .u8 0, .int .u8 0, .int .u8 0, .int .u8 0, .int .u8 0, .int .u8 0, .int .u8 0, .int .u8 0, .int .u8 0, .int .u8 0, .int .u8 0, .int .u8 0, .int .u8 0, .int .u8 0, .int .u8 0, .int .u8 0, .int .u8 0, .int .u8 0, .int .u8 0, .int .u8 0, .int .u8 0, .int .u8 0, .int .u8 0, .int .u8 0, .int .u8 0, .int .u8 0, .int .u8 0, .int .u8 0, .int .u8 0, .int .u8 0, .int .u8 0, .int .u8 0] 29)).setRow w7.heap.size (vcl VV).toArray) := below_row ((Below.refl _ w7).alloc (Nat.le_refl _) _) (Nat.le_refl _) _
      have HY := Lib.hid (HZ.out.setRow (vcl VV))
      go_upto_region 20 with ((with_reducible refine wpList_store_vote (.tmp 14) (.tmp 80) ?_ ?_ w7.heap.size vt0 VV ?_ ?_ HZ.out vt0_len HLY.out ?_); rfl; rfl; rfl; rfl)
      try simp only [Act.put]
      replace HT := Lib.hid (HT.out.below hbc)
      replace HX := Lib.hid (HX.out.below hbc HX.out.lt)
      obtain ⟨Y, hX⟩ : ∃ Y, Y = w7.heap.size := ⟨_, rfl⟩
      rw [← hX] at HY HT HX ⊢
      generalize (w7.alloc (.cells #[.int .i64 0, .int .i64 0, .int .u8 0, .int .u8 0, .int .u8 0, .int .u8 0, .int .u8 0, .int .u8 0, .int .u8 0, .int .u8 0, .int .u8 0, .int .u8 0, .int .u8 0, .int .u8 0, .int .u8 0, .int .u8 0, .int .u8 0, .int .u8 0, .int .u8 0, .int .u8 0, .int .u8 0, .int .u8 0, .int .u8 0, .int .u8 0, .int .u8 0, .int .u8 0, .int .u8 0, .int .u8 0, .int .u8 0, .int .u8 0, .int .u8 0, .int .u8 0, .int .u8 0, .int .u8 0] 29)).setRow Y (vcl VV).toArray = w8 at HY HT HX ⊢
      clear hbc HZ hX
      have HXA := Lib.hid HX.out.voteAll
      have HYA := Lib.hid HY.out.voteAll
      cases H <;> cases C
      · go_wp2_with (first
          | ((with_reducible refine wpList_load_vote (.tmp 12) ?_ ?_ X 0 VV ?_ HLX.out HXA.out ?_); rfl; rfl; rfl)
          | ((with_reducible refine wpList_load_vote (.tmp 14) ?_ ?_ Y 0 VV ?_ HLX.out HYA.out ?_); rfl; rfl; rfl)
          | ((with_reducible refine wpList_eql_vt (.tmp 82) (.tmp 83) 29 ?_ ?_ VV VV ?_ ?_ HLX.out HLX.out ?_); rfl; rfl; rfl; rfl; rw [eqV_self]))
        refine (counts_any w8 b1 m1 t1 ta who HT.out.p).mono ?_
        rintro e w8 ⟨rfl, rfl⟩
        rw [HCC.out]
        go_wp2_with fail
        refine (counts_any w8 b2 m2 t2 tb who HT.out.q).mono ?_
        rintro e w8 ⟨rfl, rfl⟩
        rw [← HE.out.2.2]
        go_wp2_with fail
        go_ret
        exact ⟨rfl, HT.out.bl⟩
      · go_wp2_with (first
          | ((with_reducible refine wpList_load_vote (.tmp 12) ?_ ?_ X 0 VV ?_ HLX.out HXA.out ?_); rfl; rfl; rfl)
          | ((with_reducible refine wpList_load_vote (.tmp 14) ?_ ?_ Y 0 VV ?_ HLX.out HYA.out ?_); rfl; rfl; rfl)
          | ((with_reducible refine wpList_eql_vt (.tmp 82) (.tmp 83) 29 ?_ ?_ VV VV ?_ ?_ HLX.out HLX.out ?_); rfl; rfl; rfl; rfl; rw [eqV_self]))
        refine (counts_any w8 b1 m1 t1 ta who HT.out.p).mono ?_
        rintro e w8 ⟨rfl, rfl⟩
        rw [HCC.out]
        go_wp2_with fail
        refine (counts_any w8 b2 m2 t2 tb who HT.out.q).mono ?_
        rintro e w8 ⟨rfl, rfl⟩
        rw [← HE.out.2.2]
        go_wp2_with fail
        go_ret
        exact ⟨rfl, HT.out.bl⟩
      · go_wp2_with (first
          | ((with_reducible refine wpList_load_vote (.tmp 12) ?_ ?_ X 0 VV ?_ HLX.out HXA.out ?_); rfl; rfl; rfl)
          | ((with_reducible refine wpList_load_vote (.tmp 14) ?_ ?_ Y 0 VV ?_ HLX.out HYA.out ?_); rfl; rfl; rfl)
          | ((with_reducible refine wpList_eql_vt (.tmp 82) (.tmp 83) 29 ?_ ?_ VV VV ?_ ?_ HLX.out HLX.out ?_); rfl; rfl; rfl; rfl; rw [eqV_self]))
        refine (counts_any w8 b1 m1 t1 ta who HT.out.p).mono ?_
        rintro e w8 ⟨rfl, rfl⟩
        rw [HCC.out]
        go_wp2_with fail
        refine (counts_any w8 b2 m2 t2 tb who HT.out.q).mono ?_
        rintro e w8 ⟨rfl, rfl⟩
        rw [← HE.out.2.2]
        go_wp2_with fail
        go_ret
        exact ⟨rfl, HT.out.bl⟩
      · go_wp2_with (first
          | ((with_reducible refine wpList_load_vote (.tmp 12) ?_ ?_ X 0 VV ?_ HLX.out HXA.out ?_); rfl; rfl; rfl)
          | ((with_reducible refine wpList_load_vote (.tmp 14) ?_ ?_ Y 0 VV ?_ HLX.out HYA.out ?_); rfl; rfl; rfl)
          | ((with_reducible refine wpList_eql_vt (.tmp 82) (.tmp 83) 29 ?_ ?_ VV VV ?_ ?_ HLX.out HLX.out ?_); rfl; rfl; rfl; rfl; rw [eqV_self]))
        refine (counts_any w8 b1 m1 t1 ta who HT.out.p).mono ?_
        rintro e w8 ⟨rfl, rfl⟩
        rw [HCC.out]
        go_wp2_with fail
        refine (counts_any w8 b2 m2 t2 tb who HT.out.q).mono ?_
        rintro e w8 ⟨rfl, rfl⟩
        rw [← HE.out.2.2]
        go_wp2_with fail
        go_ret
        exact ⟨rfl, HT.out.bl⟩
end Go.Proofs.Ytoinigcfcjllcaa
