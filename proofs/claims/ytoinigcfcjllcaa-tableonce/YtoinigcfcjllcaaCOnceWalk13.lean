/-
  The texts OnceWalk13, one behind the other.
-/
import Derived.Test.YtoinigcfcjllcaaOnceM9
import Derived.Test.YtoinigcfcjllcaaCOpenCalls
import Derived.Test.YtoinigcfcjllcaaOnceM6
/-
  The walk of TableOnce.
-/
namespace Go.Proofs.Ytoinigcfcjllcaa
open Go Go.RowKit
set_option maxRecDepth 10000

theorem voteA_len {t : Tb} (h : FitT t) (w : Int) : (voteA t w).g.length = 32 := by
  unfold voteA
  split
  · exact (h.l _).1
  · exact vt0_len
theorem voteA_s {t : Tb} (h : FitT t) (w : Int) : 0 ≤ (voteA t w).s ∧ (voteA t w).s ≤ 1073741824 := by
  unfold voteA
  split
  · exact (h.l _).2
  · exact ⟨by decide, by decide⟩
/-- What one vote changes of its validator. -/
theorem once_cases (t : Tb) (v : Vt) (G : FitT t) :
    ((takeT t v).1 = 0 ∧ cntA t v.w = true ∧ cntA (takeT t v).2 v.w = true ∧ hasA (takeT t v).2 v.w = true ∧ voteA (takeT t v).2 v.w = v ∧ (hasA t v.w = true → ¬ ep t.k v.s < ep t.k (voteA t v.w).s)) ∨
    ((takeT t v).1 = 2 ∧ cntA t v.w = true ∧ cntA (takeT t v).2 v.w = false ∧ voteA t v.w = voteA (takeT t v).2 v.w ∧ hasA t v.w = hasA (takeT t v).2 v.w) ∨
    ((takeT t v).1 ≠ 0 ∧ (takeT t v).1 ≠ 2 ∧ cntA t v.w = cntA (takeT t v).2 v.w ∧ voteA t v.w = voteA (takeT t v).2 v.w ∧ hasA t v.w = hasA (takeT t v).2 v.w) := by
  have hot : ∀ (u : Tb), otN u v.w.toNat = otT u v.w := fun _ => rfl
  have hhs : ∀ (u : Tb), hsN u v.w.toNat = hsT u v.w := fun _ => rfl
  have hlt : ∀ (u : Tb), ltN u v.w.toNat = ltT u v.w := fun _ => rfl
  have hw : okV t v → isW t v.w = true := fun h => by unfold isW; exact decide_eq_true ⟨h.1, h.2.1⟩
  rcases takeT_cases t v with ⟨_, h⟩ | ⟨_, _, h⟩ | ⟨_, _, _, _, _, h⟩ | ⟨_, hk, ho, _, _, h⟩ | ⟨_, _, _, _, _, h⟩ | ⟨hk, ho, _, hc, h⟩
  · rw [h]; exact .inr (.inr ⟨by simp, by simp, rfl, rfl, rfl⟩)
  · rw [h]; exact .inr (.inr ⟨by simp, by simp, rfl, rfl, rfl⟩)
  · rw [h]; exact .inr (.inr ⟨by simp, by simp, rfl, rfl, rfl⟩)
  · rw [h]
    refine .inr (.inl ⟨rfl, ?_, ?_, rfl, rfl⟩)
    · unfold cntA; rw [hw hk, hot, ho]; rfl
    · have h1 : otT (setO t v.w) v.w = true := by unfold otT setO; exact getD_set_self _ (by rw [G.gd.on]; have := hk.1; have := hk.2.1; omega) _ _
      unfold cntA
      rw [hot, h1]
      exact Bool.and_false _
  · rw [h]; exact .inr (.inr ⟨by simp, by simp, rfl, rfl, rfl⟩)
  · rw [h]
    have hwn : v.w.toNat < t.n := by have := hk.1; have := hk.2.1; omega
    have h1 : ltT (setL (addF t v) v) v.w = v := by unfold ltT setL addF; exact getD_set_self _ (by rw [G.gd.ln]; exact hwn) _ _
    have h2 : hsT (setL (addF t v) v) v.w = true := by unfold hsT setL addF; exact getD_set_self _ (by rw [G.gd.hn]; exact hwn) _ _
    have h3 : isW (setL (addF t v) v) v.w = true := hw hk
    have h4 : otT (setL (addF t v) v) v.w = false := ho
    refine .inl ⟨rfl, ?_, ?_, ?_, ?_, fun hh hl => ?_⟩
    · unfold cntA; rw [hw hk, hot, ho]; rfl
    · unfold cntA; rw [h3, hot, h4]; rfl
    · unfold hasA; rw [h3, hhs, h2]; rfl
    · unfold voteA; rw [if_pos h3, hlt, h1]
    · unfold hasA at hh
      unfold voteA at hl
      rw [hw hk, hhs, Bool.true_and] at hh
      rw [if_pos (hw hk), hlt] at hl
      exact hc ⟨hh, hl⟩
set_option maxHeartbeats 32000000 in
theorem once_any (w : World) (n k : Int) (ao : Option Addr) (len cap cb off : Nat) (l : List Cl) (hl : l.length = len) (h6 : ∀ c ∈ l, I6 c.s) (h : Lies w w.heap.size ao cb off (ccls l)) :
    Calls Try.prog 5 #[.int .i64 n, .int .i64 k, .slice ao len cap] w fun e w' => e = .returned (.bool true) ∧ Below w.heap.size w w' := by
  have HS := Lib.hid h
  clear h
  go_enter Try.func5, Try.ntmps5
  go_wp2_with fail
  refine (alive_any w).mono ?_
  rintro e w1 ⟨rfl, hb1⟩
  have HB := Lib.hid hb1
  clear hb1
  by_cases hbig : (200 : Int) < (len : Int)
  · go_wp2_with fail
    go_ret
    exact ⟨rfl, HB.out⟩
  go_wp2_with fail
  refine (new_any w1 n k).mono ?_
  rintro e w2 (⟨hn, rfl, rfl⟩ | ⟨n1, n2, k1, k2, b, m, g, rfl, hT, hH, hb2⟩)
  · clear hn
    go_wp2_with fail
    go_ret
    exact ⟨rfl, HB.out⟩
  obtain ⟨K, rfl⟩ : ∃ K : Nat, k = (K : Int) := ⟨k.toNat, by omega⟩
  rw [Int.toNat_natCast] at hT
  have HT := Lib.hid (show T1 w b m g (newT n.toNat K) w2 from ⟨hT, hH.mono HB.out.size, HB.out.trans (hb2.mono HB.out.size)⟩)
  have HKK := Lib.hid (show 1 ≤ K ∧ K ≤ 32 by omega)
  clear hT hH hb2 n1 n2 k1 k2 HB
  go_wp2_with fail
  go_loopw [28] (fun i wr => ∃ (j : Nat) (ta : Tb), j ≤ len ∧ ta.fs.length ≤ j ∧ i = .int .i64 j ∧ Hid (ta.k = K) ∧ Hid (T1 w b m g ta wr)) (fun i _ => len - (intOf i).toNat)
  case atStart => exact ⟨0, newT n.toNat K, Nat.zero_le _, Nat.le_refl 0, rfl, Lib.hid rfl, HT⟩
  case round =>
    clear HT
    obtain ⟨j, ta, hj, hja, rfl, HP, HT⟩ := hrel
    by_cases hlt : j < len
    · obtain ⟨c, hc⟩ : ∃ c, l[j]? = some c := ⟨_, List.getElem?_eq_getElem (by omega)⟩
      obtain ⟨hao, hcc⟩ := (HS.out.keep HT.out.bl).call hc
      subst hao
      have HCE := Lib.hid hcc
      have HI := Lib.hid (h6 c (List.mem_of_getElem? hc))
      have hjl : (j : Int) < (len : Int) := by omega
      have HJA := Lib.hid hja
      have HLA := Lib.hid (show ta.fs.length ≤ 1000 by omega)
      clear hc hcc
      have HZ := Lib.hid (zero_call wr)
      have hbc : Below wr.heap.size wr ((wr.alloc (.cells #[.bool false, .int .i64 0, .int .i64 0, .int .i64 0] 41)).setRow wr.heap.size (ccl c).toArray) := below_row ((Below.refl _ wr).alloc (Nat.le_refl _) _) (Nat.le_refl _) _
      have HX := Lib.hid (HZ.out.setRow (ccl c))
      have HAW := Lib.hid (HT.out.away (Nat.le_refl wr.heap.size))
      go_upto_region 11 with (first
        | ((with_reducible refine wpList_load_call (.tmp 30) ?_ ?_ cb (off + j * 4) c ?_ HCE.out ?_); rfl; rfl; rfl)
        | ((with_reducible refine wpList_store_call (.tmp 9) (.tmp 31) ?_ ?_ wr.heap.size cl0 c ?_ ?_ HZ.out ?_); rfl; rfl; rfl; rfl))
      try simp only [Act.put]
      replace HT := Lib.hid (HT.out.below hbc)
      obtain ⟨X, hX⟩ : ∃ X, X = wr.heap.size := ⟨_, rfl⟩
      rw [← hX] at HX HAW HT ⊢
      generalize (wr.alloc (.cells #[.bool false, .int .i64 0, .int .i64 0, .int .i64 0] 41)).setRow X (ccl c).toArray = w5 at HX HT ⊢
      clear hbc HZ hX HCE
      have c1 := HX.out.cell 1
      simp only [ccl, List.getElem?_cons_zero, List.getElem?_cons_succ] at c1
      go_wp2_with fail
      refine (vote_any w5 b m g ta c.w HT.out.p).mono ?_
      rintro e w6 ⟨rfl, hbc⟩
      replace HT := Lib.hid (HT.out.below hbc)
      replace HX := Lib.hid (HX.out.below hbc HX.out.lt)
      clear hbc c1
      have HLY := Lib.hid (voteA_len HT.out.p.fit c.w)
      have HSY := Lib.hid (voteA_s HT.out.p.fit c.w)
      obtain ⟨H, hH⟩ : ∃ H, H = hasA ta c.w := ⟨_, rfl⟩
      obtain ⟨VB, hVB⟩ : ∃ VB, VB = voteA ta c.w := ⟨_, rfl⟩
      have HVB := Lib.hid hVB
      have HHB := Lib.hid hH
      rw [← hVB] at HLY HSY ⊢
      rw [← hH]
      clear hH hVB
      have HAY := Lib.hid (HT.out.away (Nat.le_refl w6.heap.size))
      have HZ := Lib.hid (zero_voteC w6)
      have hbc : Below w6.heap.size w6 ((w6.alloc (.cells #[.int .i64 0, .int .i64 0, .int .u8 0, .int .u8 0, .int .u8 0, .int .u8 0, .int .u8 0, .int .u8 0, .int .u8 0, .int .u8 0, .int .u8 0, .int .u8 0, .int .u8 0, .int .u8 0, .int .u8 0, .int .u8 0, .int .u8 0, .int .u8 0, .int .u8 0, .int .u8 0, .int .u8 0, .int .u8 0, .int .u8 0, .int .u8 0, .int .u8 0, .int .u8 0, .int .u8 0, .int .u8 0, .int .u8 0, .int .u8 0, .int .u8 0, .int .u8 0, .int .u8 0, .int .u8 0] 29)).setRow w6.heap.size (vcl VB).toArray) := below_row ((Below.refl _ w6).alloc (Nat.le_refl _) _) (Nat.le_refl _) _
      have HY := Lib.hid (HZ.out.setRow (vcl VB))
      go_upto_region 12 with ((with_reducible refine wpList_store_vote (.tmp 10) (.tmp 37) ?_ ?_ w6.heap.size vt0 VB ?_ ?_ HZ.out vt0_len HLY.out ?_); rfl; rfl; rfl; rfl)
      try simp only [Act.put]
      replace HT := Lib.hid (HT.out.below hbc)
      replace HX := Lib.hid (HX.out.below hbc HX.out.lt)
      obtain ⟨Y, hX⟩ : ∃ Y, Y = w6.heap.size := ⟨_, rfl⟩
      rw [← hX] at HY HAY HT HX ⊢
      generalize (w6.alloc (.cells #[.int .i64 0, .int .i64 0, .int .u8 0, .int .u8 0, .int .u8 0, .int .u8 0, .int .u8 0, .int .u8 0, .int .u8 0, .int .u8 0, .int .u8 0, .int .u8 0, .int .u8 0, .int .u8 0, .int .u8 0, .int .u8 0, .int .u8 0, .int .u8 0, .int .u8 0, .int .u8 0, .int .u8 0, .int .u8 0, .int .u8 0, .int .u8 0, .int .u8 0, .int .u8 0, .int .u8 0, .int .u8 0, .int .u8 0, .int .u8 0, .int .u8 0, .int .u8 0, .int .u8 0, .int .u8 0] 29)).setRow Y (vcl VB).toArray = w7 at HY HT HX ⊢
      clear hbc HZ hX
      have c1 := HX.out.cell 1
      simp only [ccl, List.getElem?_cons_zero, List.getElem?_cons_succ] at c1
      go_wp2_with fail
      refine (counts_any w7 b m g ta c.w HT.out.p).mono ?_
      rintro e w7 ⟨rfl, rfl⟩
      obtain ⟨C1, hC1⟩ : ∃ C1, C1 = cntA ta c.w := ⟨_, rfl⟩
      have HC1 := Lib.hid hC1
      rw [← hC1]
      clear hC1 c1
      cases hf : c.f with
      | true =>
        have c0 := HX.out.cell 0
        have c2 := HX.out.cell 2
        simp only [ccl, List.getElem?_cons_zero, List.getElem?_cons_succ] at c0 c2
        rw [hf] at c0
        clear hf
        go_wp2_with fail
        refine (forget_any w7 b m g ta c.s HT.out.p HI.out).mono ?_
        rintro e w8 ⟨rfl, hT, hk⟩
        clear c0 c2
        replace HT := Lib.hid (HT.out.set hT hk)
        clear hT hk
        go_wp2_with fail
        go_roundw
        case rel => exact ⟨j + 1, forgetT ta c.s, by omega, Nat.le_trans (forgetT_fs _ _) (by have := HJA.out; omega), by go_num, HP, HT⟩
        case measure => simp [intOf]; omega
      | false =>
        have c0 := HX.out.cell 0
        simp only [ccl, List.getElem?_cons_zero] at c0
        rw [hf] at c0
        clear hf
        have HXA := Lib.hid HX.out.callAll
        go_wp2_with ((with_reducible refine wpList_load_call (.tmp 9) ?_ ?_ X 0 c ?_ HXA.out ?_); rfl; rfl; rfl)
        refine (cvote_any _ c).mono ?_
        rintro e w8 ⟨rfl, hbc⟩
        replace HT := Lib.hid (HT.out.below hbc)
        replace HX := Lib.hid (HX.out.below hbc HX.out.lt)
        replace HY := Lib.hid (HY.out.below hbc HY.out.lt)
        clear hbc HXA c0
        go_wp2_with fail
        have HT0 := HT
        refine (take_any w8 b m g ta (ctv c) HT.out.p (ctv_len c) HLA.out).mono ?_
        rintro e w9 ⟨rfl, hT, hk⟩
        replace HX := Lib.hid (HX.out.kept hk HAW.out)
        replace HY := Lib.hid (HY.out.kept hk HAY.out)
        replace HT := Lib.hid (HT.out.set hT hk)
        clear hT hk
        have HOC := Lib.hid (once_cases ta (ctv c) HT0.out.p.fit)
        obtain ⟨CO, hCO⟩ : ∃ CO, CO = (takeT ta (ctv c)).1 := ⟨_, rfl⟩
        obtain ⟨tb, htb⟩ : ∃ tb, tb = (takeT ta (ctv c)).2 := ⟨_, rfl⟩
        have HTB := Lib.hid (show tb.fs.length ≤ ta.fs.length + 1 ∧ tb.k = K by rw [htb, (takeT_nk ta (ctv c)).2]; exact ⟨take_fs _ _, HP.out⟩)
        rw [show (ctv c).w = c.w from rfl, ← hCO, ← htb, HP.out, ← HVB.out, ← HHB.out, ← HC1.out] at HOC
        rw [← htb] at HT
        rw [← hCO]
        clear hCO htb HVB HHB HC1 HT0
        have c1 := HX.out.cell 1
        simp only [ccl, List.getElem?_cons_zero, List.getElem?_cons_succ] at c1
        go_wp2_with fail
        refine (vote_any w9 b m g tb c.w HT.out.p).mono ?_
        rintro e w10 ⟨rfl, hbc⟩
        replace HT := Lib.hid (HT.out.below hbc)
        replace HX := Lib.hid (HX.out.below hbc HX.out.lt)
        replace HY := Lib.hid (HY.out.below hbc HY.out.lt)
        clear hbc c1
        have HLU := Lib.hid (voteA_len HT.out.p.fit c.w)
        obtain ⟨VA, hVA⟩ : ∃ VA, VA = voteA tb c.w := ⟨_, rfl⟩
        obtain ⟨H2, hH2⟩ : ∃ H2, H2 = hasA tb c.w := ⟨_, rfl⟩
        obtain ⟨C2, hC2⟩ : ∃ C2, C2 = cntA tb c.w := ⟨_, rfl⟩
        have HC2 := Lib.hid hC2.symm
        rw [← hVA, ← hH2, ← hC2] at HOC
        rw [← hVA] at HLU ⊢
        rw [← hH2]
        clear hVA hH2 hC2
        have HZ := Lib.hid (zero_voteC w10)
        have hbc : Below w10.heap.size w10 ((w10.alloc (.cells #[.int .i64 0, .int .i64 0, .int .u8 0, .int .u8 0, .int .u8 0, .int .u8 0, .int .u8 0, .int .u8 0, .int .u8 0, .int .u8 0, .int .u8 0, .int .u8 0, .int .u8 0, .int .u8 0, .int .u8 0, .int .u8 0, .int .u8 0, .int .u8 0, .int .u8 0, .int .u8 0, .int .u8 0, .int .u8 0, .int .u8 0, .int .u8 0, .int .u8 0, .int .u8 0, .int .u8 0, .int .u8 0, .int .u8 0, .int .u8 0, .int .u8 0, .int .u8 0, .int .u8 0, .int .u8 0] 29)).setRow w10.heap.size (vcl VA).toArray) := below_row ((Below.refl _ w10).alloc (Nat.le_refl _) _) (Nat.le_refl _) _
        have HU := Lib.hid (HZ.out.setRow (vcl VA))
        go_upto_region 17 with ((with_reducible refine wpList_store_vote (.tmp 14) (.tmp 58) ?_ ?_ w10.heap.size vt0 VA ?_ ?_ HZ.out vt0_len HLU.out ?_); rfl; rfl; rfl; rfl)
        try simp only [Act.put]
        replace HT := Lib.hid (HT.out.below hbc)
        replace HX := Lib.hid (HX.out.below hbc HX.out.lt)
        replace HY := Lib.hid (HY.out.below hbc HY.out.lt)
        obtain ⟨U, hX⟩ : ∃ U, U = w10.heap.size := ⟨_, rfl⟩
        rw [← hX] at HU HT HX HY ⊢
        generalize (w10.alloc (.cells #[.int .i64 0, .int .i64 0, .int .u8 0, .int .u8 0, .int .u8 0, .int .u8 0, .int .u8 0, .int .u8 0, .int .u8 0, .int .u8 0, .int .u8 0, .int .u8 0, .int .u8 0, .int .u8 0, .int .u8 0, .int .u8 0, .int .u8 0, .int .u8 0, .int .u8 0, .int .u8 0, .int .u8 0, .int .u8 0, .int .u8 0, .int .u8 0, .int .u8 0, .int .u8 0, .int .u8 0, .int .u8 0, .int .u8 0, .int .u8 0, .int .u8 0, .int .u8 0, .int .u8 0, .int .u8 0] 29)).setRow U (vcl VA).toArray = w11 at HU HT HX HY ⊢
        clear hbc HZ hX
        have HKZ := Lib.hid (show ¬ K = 0 by have := HKK.out; omega)
        have HQY := Lib.hid (ep_wrap HKK.out.1 (show I6 VB.s by have := HSY.out; unfold I6; omega)).1
        have HQC := Lib.hid (ep_wrap HKK.out.1 HI.out).1
        have c1 := HX.out.cell 1
        simp only [ccl, List.getElem?_cons_zero, List.getElem?_cons_succ] at c1
        rcases HOC.out with ⟨e0, e1, e2, e3, e4, e5⟩ | ⟨e0, e1, e2, e3, e4⟩ | ⟨e0, e0', e2, e3, e4⟩
        · subst e0
          subst e1
          subst e2
          subst e3
          subst e4
          have HE5 := Lib.hid e5
          clear e5 HOC
          cases H with
          | true =>
            go_wp2_with fail
            refine (counts_any w11 b m g tb c.w HT.out.p).mono ?_
            rintro e w11 ⟨rfl, rfl⟩
            rw [HC2.out]
            go_upto_region 19 with fail
            clear c1
            refine wp_region_free (P := Try.prog) 39 (fun w' => Below w11.heap.size w11 w') (fun oq v w' => match oq with
                | 0 => v = .int .i64 0
                | 1 => v = .bool true
                | 2 => v = .bool true
                | 3 => v = .bool true
                | 4 => v = .bool false
                | 5 => v = .bool false
                | 6 => v = .agg (vcl (ctv c)).toArray
                | 7 => v = .agg (ccl c).toArray
                | 8 => v = .agg (vcl (ctv c)).toArray
                | 9 => v = .bool false
                | 10 => v = .bool false
                | 11 => v = .bool false
                | 12 => v = .bool true
                | 13 => v = .bool true
                | 14 => v = .pointer (some ⟨U, 1, none⟩)
                | 15 => v = .int .i64 c.s
                | 16 => v = .int .i64 (K : Int)
                | 17 => v = .int .i64 (ep K c.s)
                | 18 => v = .pointer (some ⟨Y, 1, none⟩)
                | 19 => v = .int .i64 VB.s
                | 20 => v = .int .i64 (K : Int)
                | 21 => v = .int .i64 (ep K VB.s)
                | 22 => v = .bool false
                | 23 => v = .bool false
                | 24 => v = .bool false
                | 25 => v = .bool false
                | 26 => v = .bool false
                | 27 => v = .int .i64 0
                | 28 => v = .bool false
                | 29 => v = .bool false
                | 30 => v = undef
                | 31 => v = undef
                | 32 => v = undef
                | 33 => v = undef
                | 34 => v = undef
                | 35 => v = undef
                | 36 => v = undef
                | 37 => v = undef
                | 38 => v = .bool false
                | _ => True) (by kernel_rfl) (by kernel_rfl) (Below.refl _ _).drew ?gb ?vb ?steps ?fin
            case gb => exact fun a b h1 h2 => h1.trans (h2.mono h1.size)
            case vb =>
              intro oq v a b h hb
              match oq with
              | 0 => exact h
              | 1 => exact h
              | 2 => exact h
              | 3 => exact h
              | 4 => exact h
              | 5 => exact h
              | 6 => exact h
              | 7 => exact h
              | 8 => exact h
              | 9 => exact h
              | 10 => exact h
              | 11 => exact h
              | 12 => exact h
              | 13 => exact h
              | 14 => exact h
              | 15 => exact h
              | 16 => exact h
              | 17 => exact h
              | 18 => exact h
              | 19 => exact h
              | 20 => exact h
              | 21 => exact h
              | 22 => exact h
              | 23 => exact h
              | 24 => exact h
              | 25 => exact h
              | 26 => exact h
              | 27 => exact h
              | 28 => exact h
              | 29 => exact h
              | 30 => exact h
              | 31 => exact h
              | 32 => exact h
              | 33 => exact h
              | 34 => exact h
              | 35 => exact h
              | 36 => exact h
              | 37 => exact h
              | 38 => exact h
              | _ + 39 => trivial
            case steps =>
              intro vals
              simp only [List.take_succ_cons, List.take_zero, freeSteps, Act.put, List.setIfInBounds_toArray, List.set_cons_zero, List.set_cons_succ, Nat.reduceAdd]
              refine ⟨fun w8 hG hW => ?_, fun w8 hG hW => ?_, fun w8 hG hW => ?_, fun w8 hG hW => ?_, fun w8 hG hW => ?_, fun w8 hG hW => ?_, fun w8 hG hW => ?_, fun w8 hG hW => ?_, fun w8 hG hW => ?_, fun w8 hG hW => ?_, fun w8 hG hW => ?_, fun w8 hG hW => ?_, fun w8 hG hW => ?_, fun w8 hG hW => ?_, fun w8 hG hW => ?_, fun w8 hG hW => ?_, fun w8 hG hW => ?_, fun w8 hG hW => ?_, fun w8 hG hW => ?_, fun w8 hG hW => ?_, fun w8 hG hW => ?_, fun w8 hG hW => ?_, fun w8 hG hW => ?_, fun w8 hG hW => ?_, fun w8 hG hW => ?_, fun w8 hG hW => ?_, fun w8 hG hW => ?_, fun w8 hG hW => ?_, fun w8 hG hW => ?_, fun w8 hG hW => ?_, fun w8 hG hW => ?_, fun w8 hG hW => ?_, fun w8 hG hW => ?_, fun w8 hG hW => ?_, fun w8 hG hW => ?_, fun w8 hG hW => ?_, fun w8 hG hW => ?_, fun w8 hG hW => ?_, fun w8 hG hW => ?_, trivial⟩
              · clear hW
                refine stepAt_value rfl rfl rfl (.int .i64 0) w8 ?_ ⟨rfl, Below.refl _ _⟩
                go_simp
              · have q0 := hW 0 (by decide)
                simp only at q0
                rw [q0]
                clear hW
                refine stepAt_value rfl rfl rfl (.bool true) w8 ?_ ⟨rfl, Below.refl _ _⟩
                go_simp
              · have q1 := hW 1 (by decide)
                simp only at q1
                rw [q1]
                clear hW
                refine stepAt_value rfl rfl rfl (.bool true) w8 ?_ ⟨rfl, Below.refl _ _⟩
                go_simp
              · have q2 := hW 2 (by decide)
                simp only at q2
                rw [q2]
                clear hW
                refine stepAt_value rfl rfl rfl (.bool true) w8 ?_ ⟨rfl, Below.refl _ _⟩
                go_simp
              · have q2 := hW 2 (by decide)
                simp only at q2
                have q3 := hW 3 (by decide)
                simp only at q3
                rw [q2, q3]
                clear hW
                refine stepAt_value rfl rfl rfl (.bool false) w8 ?_ ⟨rfl, Below.refl _ _⟩
                go_simp
              · have q2 := hW 2 (by decide)
                simp only at q2
                have q4 := hW 4 (by decide)
                simp only at q4
                rw [q2, q4]
                clear hW
                refine stepAt_value rfl rfl rfl (.bool false) w8 ?_ ⟨rfl, Below.refl _ _⟩
                go_simp
              · have q5 := hW 5 (by decide)
                simp only at q5
                rw [q5]
                clear hW
                refine stepAt_load_run rfl rfl rfl _ _ rfl _ _ rfl (run_load_vote HLU.out (HU.out.below hG HU.out.lt).voteAll) ⟨rfl, Below.refl _ _⟩
              · have q5 := hW 5 (by decide)
                simp only at q5
                rw [q5]
                clear hW
                refine stepAt_load_run rfl rfl rfl _ _ rfl _ _ rfl (run_load_call (HX.out.below hG HX.out.lt).callAll) ⟨rfl, Below.refl _ _⟩
              · have q5 := hW 5 (by decide)
                simp only at q5
                have q7 := hW 7 (by decide)
                simp only at q7
                rw [q5, q7]
                clear hW
                refine stepAt_call rfl rfl rfl 19 #[.agg (ccl c).toArray] (by go_simp) ((cvote_any w8 c).mono fun e w' ⟨h1, h2⟩ => ⟨_, h1, rfl, h2⟩)
              · have q5 := hW 5 (by decide)
                simp only at q5
                have q6 := hW 6 (by decide)
                simp only at q6
                have q8 := hW 8 (by decide)
                simp only at q8
                rw [q5, q6, q8]
                clear hW
                refine stepAt_neq_vt rfl rfl rfl (.tmp 87) (.tmp 89) 29 rfl (ctv c) (ctv c) rfl rfl HLU.out HLU.out ⟨?_, Below.refl _ _⟩
                rw [eqV_self]
                rfl
              · have q2 := hW 2 (by decide)
                simp only at q2
                have q5 := hW 5 (by decide)
                simp only at q5
                have q9 := hW 9 (by decide)
                simp only at q9
                rw [q2, q5, q9]
                clear hW
                refine stepAt_value rfl rfl rfl (.bool false) w8 ?_ ⟨rfl, Below.refl _ _⟩
                go_simp
              · have q2 := hW 2 (by decide)
                simp only at q2
                have q10 := hW 10 (by decide)
                simp only at q10
                rw [q2, q10]
                clear hW
                refine stepAt_value rfl rfl rfl (.bool false) w8 ?_ ⟨rfl, Below.refl _ _⟩
                go_simp
              · have q11 := hW 11 (by decide)
                simp only at q11
                rw [q11]
                clear hW
                refine stepAt_value rfl rfl rfl (.bool true) w8 ?_ ⟨rfl, Below.refl _ _⟩
                go_simp
              · have q11 := hW 11 (by decide)
                simp only at q11
                have q12 := hW 12 (by decide)
                simp only at q12
                rw [q11, q12]
                clear hW
                refine stepAt_value rfl rfl rfl (.bool true) w8 ?_ ⟨rfl, Below.refl _ _⟩
                go_simp
              · have q13 := hW 13 (by decide)
                simp only at q13
                rw [q13]
                clear hW
                refine stepAt_value rfl rfl rfl (.pointer (some ⟨U, 1, none⟩)) w8 ?_ ⟨rfl, Below.refl _ _⟩
                go_simp
              · have q13 := hW 13 (by decide)
                simp only at q13
                have q14 := hW 14 (by decide)
                simp only at q14
                rw [q13, q14]
                clear hW
                refine stepAt_value rfl rfl rfl (.int .i64 c.s) w8 ?_ ⟨rfl, Below.refl _ _⟩
                have cc := (HU.out.below hG HU.out.lt).cell 1
                simp only [vcl, ctv, List.getElem?_cons_zero, List.getElem?_cons_succ] at cc
                go_simp
              · have q13 := hW 13 (by decide)
                simp only at q13
                rw [q13]
                clear hW
                refine stepAt_value rfl rfl rfl (.int .i64 (K : Int)) w8 ?_ ⟨rfl, Below.refl _ _⟩
                go_simp
              · have q13 := hW 13 (by decide)
                simp only at q13
                have q15 := hW 15 (by decide)
                simp only at q15
                have q16 := hW 16 (by decide)
                simp only at q16
                rw [q13, q15, q16]
                clear hW
                have hwr := HQC.out
                have hk00 := HKZ.out
                refine stepAt_value rfl rfl rfl (.int .i64 (ep K c.s)) w8 ?_ ⟨rfl, Below.refl _ _⟩
                go_simp
                rw [IntKind.wrap_i64]
                unfold wrap64 at hwr
                exact hwr
              · have q13 := hW 13 (by decide)
                simp only at q13
                rw [q13]
                clear hW
                refine stepAt_value rfl rfl rfl (.pointer (some ⟨Y, 1, none⟩)) w8 ?_ ⟨rfl, Below.refl _ _⟩
                go_simp
              · have q13 := hW 13 (by decide)
                simp only at q13
                have q18 := hW 18 (by decide)
                simp only at q18
                rw [q13, q18]
                clear hW
                refine stepAt_value rfl rfl rfl (.int .i64 VB.s) w8 ?_ ⟨rfl, Below.refl _ _⟩
                have cc := (HY.out.below hG HY.out.lt).cell 1
                simp only [vcl, List.getElem?_cons_zero, List.getElem?_cons_succ] at cc
                go_simp
              · have q13 := hW 13 (by decide)
                simp only at q13
                rw [q13]
                clear hW
                refine stepAt_value rfl rfl rfl (.int .i64 (K : Int)) w8 ?_ ⟨rfl, Below.refl _ _⟩
                go_simp
              · have q13 := hW 13 (by decide)
                simp only at q13
                have q19 := hW 19 (by decide)
                simp only at q19
                have q20 := hW 20 (by decide)
                simp only at q20
                rw [q13, q19, q20]
                clear hW
                have hwr := HQY.out
                have hk00 := HKZ.out
                refine stepAt_value rfl rfl rfl (.int .i64 (ep K VB.s)) w8 ?_ ⟨rfl, Below.refl _ _⟩
                go_simp
                rw [IntKind.wrap_i64]
                unfold wrap64 at hwr
                exact hwr
              · have q13 := hW 13 (by decide)
                simp only at q13
                have q17 := hW 17 (by decide)
                simp only at q17
                have q21 := hW 21 (by decide)
                simp only at q21
                rw [q13, q17, q21]
                clear hW
                refine stepAt_value rfl rfl rfl (.bool false) w8 ?_ ⟨rfl, Below.refl _ _⟩
                have hnl := HE5.out (by first | rfl | trivial)
                go_simp
                exact hnl
              · have q11 := hW 11 (by decide)
                simp only at q11
                have q13 := hW 13 (by decide)
                simp only at q13
                have q22 := hW 22 (by decide)
                simp only at q22
                rw [q11, q13, q22]
                clear hW
                refine stepAt_value rfl rfl rfl (.bool false) w8 ?_ ⟨rfl, Below.refl _ _⟩
                go_simp
              · have q2 := hW 2 (by decide)
                simp only at q2
                have q11 := hW 11 (by decide)
                simp only at q11
                have q23 := hW 23 (by decide)
                simp only at q23
                rw [q2, q11, q23]
                clear hW
                refine stepAt_value rfl rfl rfl (.bool false) w8 ?_ ⟨rfl, Below.refl _ _⟩
                go_simp
              · have q2 := hW 2 (by decide)
                simp only at q2
                have q24 := hW 24 (by decide)
                simp only at q24
                rw [q2, q24]
                clear hW
                refine stepAt_value rfl rfl rfl (.bool false) w8 ?_ ⟨rfl, Below.refl _ _⟩
                go_simp
              · have q25 := hW 25 (by decide)
                simp only at q25
                rw [q25]
                clear hW
                refine stepAt_value rfl rfl rfl (.bool false) w8 ?_ ⟨rfl, Below.refl _ _⟩
                go_simp
              · have q26 := hW 26 (by decide)
                simp only at q26
                rw [q26]
                clear hW
                refine stepAt_value rfl rfl rfl (.int .i64 0) w8 ?_ ⟨rfl, Below.refl _ _⟩
                go_simp
              · have q26 := hW 26 (by decide)
                simp only at q26
                have q27 := hW 27 (by decide)
                simp only at q27
                rw [q26, q27]
                clear hW
                refine stepAt_value rfl rfl rfl (.bool false) w8 ?_ ⟨rfl, Below.refl _ _⟩
                go_simp
              · have q26 := hW 26 (by decide)
                simp only at q26
                have q28 := hW 28 (by decide)
                simp only at q28
                rw [q26, q28]
                clear hW
                refine stepAt_value rfl rfl rfl (.bool false) w8 ?_ ⟨rfl, Below.refl _ _⟩
                go_simp
              · have q29 := hW 29 (by decide)
                simp only at q29
                rw [q29]
                clear hW
                exact stepAt_skip rfl rfl rfl ⟨rfl, Below.refl _ _⟩
              · have q29 := hW 29 (by decide)
                simp only at q29
                rw [q29]
                clear hW
                exact stepAt_skip rfl rfl rfl ⟨rfl, Below.refl _ _⟩
              · have q29 := hW 29 (by decide)
                simp only at q29
                rw [q29]
                clear hW
                exact stepAt_skip rfl rfl rfl ⟨rfl, Below.refl _ _⟩
              · have q29 := hW 29 (by decide)
                simp only at q29
                rw [q29]
                clear hW
                exact stepAt_skip rfl rfl rfl ⟨rfl, Below.refl _ _⟩
              · have q33 := hW 33 (by decide)
                simp only at q33
                rw [q33]
                clear hW
                exact stepAt_skip rfl rfl rfl ⟨rfl, Below.refl _ _⟩
              · have q33 := hW 33 (by decide)
                simp only at q33
                rw [q33]
                clear hW
                exact stepAt_skip rfl rfl rfl ⟨rfl, Below.refl _ _⟩
              · have q33 := hW 33 (by decide)
                simp only at q33
                rw [q33]
                clear hW
                exact stepAt_skip rfl rfl rfl ⟨rfl, Below.refl _ _⟩
              · have q29 := hW 29 (by decide)
                simp only at q29
                rw [q29]
                clear hW
                exact stepAt_skip rfl rfl rfl ⟨rfl, Below.refl _ _⟩
              · have q26 := hW 26 (by decide)
                simp only at q26
                have q29 := hW 29 (by decide)
                simp only at q29
                rw [q26, q29]
                clear hW
                refine stepAt_value rfl rfl rfl (.bool false) w8 ?_ ⟨rfl, Below.refl _ _⟩
                go_simp
            case fin =>
              intro vals w12 hG hV
              have q26 := hV 26 (by omega)
              simp only at q26
              have q38 := hV 38 (by omega)
              simp only at q38
              simp only [List.take_succ_cons, List.take_zero, List.drop_succ_cons, List.drop_zero, putAll, Act.put, List.setIfInBounds_toArray, List.set_cons_zero, List.set_cons_succ, Nat.reduceAdd]
              rw [q26, q38]
              clear hV q26 q38
              generalize vals 0 = y0
              generalize vals 1 = y1
              generalize vals 2 = y2
              generalize vals 3 = y3
              generalize vals 4 = y4
              generalize vals 5 = y5
              generalize vals 6 = y6
              generalize vals 7 = y7
              generalize vals 8 = y8
              generalize vals 9 = y9
              generalize vals 10 = y10
              generalize vals 11 = y11
              generalize vals 12 = y12
              generalize vals 13 = y13
              generalize vals 14 = y14
              generalize vals 15 = y15
              generalize vals 16 = y16
              generalize vals 17 = y17
              generalize vals 18 = y18
              generalize vals 19 = y19
              generalize vals 20 = y20
              generalize vals 21 = y21
              generalize vals 22 = y22
              generalize vals 23 = y23
              generalize vals 24 = y24
              generalize vals 25 = y25
              generalize vals 27 = y27
              generalize vals 28 = y28
              generalize vals 29 = y29
              generalize vals 30 = y30
              generalize vals 31 = y31
              generalize vals 32 = y32
              generalize vals 33 = y33
              generalize vals 34 = y34
              generalize vals 35 = y35
              generalize vals 36 = y36
              generalize vals 37 = y37
              replace HT := Lib.hid (HT.out.below hG)
              clear hG
              go_wp2_with fail
              go_roundw
              case rel => exact ⟨j + 1, tb, by omega, by have := HTB.out.1; have := HJA.out; omega, by go_num, Lib.hid HTB.out.2, HT⟩
              case measure => simp [intOf]; omega
          | false =>
            go_wp2_with fail
            refine (counts_any w11 b m g tb c.w HT.out.p).mono ?_
            rintro e w11 ⟨rfl, rfl⟩
            rw [HC2.out]
            go_upto_region 19 with fail
            clear c1
            refine wp_region_free (P := Try.prog) 39 (fun w' => Below w11.heap.size w11 w') (fun oq v w' => match oq with
                | 0 => v = .int .i64 0
                | 1 => v = .bool true
                | 2 => v = .bool true
                | 3 => v = .bool true
                | 4 => v = .bool false
                | 5 => v = .bool false
                | 6 => v = .agg (vcl (ctv c)).toArray
                | 7 => v = .agg (ccl c).toArray
                | 8 => v = .agg (vcl (ctv c)).toArray
                | 9 => v = .bool false
                | 10 => v = .bool false
                | 11 => v = .bool false
                | 12 => v = .bool false
                | 13 => v = .bool false
                | 14 => v = undef
                | 15 => v = undef
                | 16 => v = undef
                | 17 => v = undef
                | 18 => v = undef
                | 19 => v = undef
                | 20 => v = undef
                | 21 => v = undef
                | 22 => v = undef
                | 23 => v = .bool false
                | 24 => v = .bool false
                | 25 => v = .bool false
                | 26 => v = .bool false
                | 27 => v = .int .i64 0
                | 28 => v = .bool false
                | 29 => v = .bool false
                | 30 => v = undef
                | 31 => v = undef
                | 32 => v = undef
                | 33 => v = undef
                | 34 => v = undef
                | 35 => v = undef
                | 36 => v = undef
                | 37 => v = undef
                | 38 => v = .bool false
                | _ => True) (by kernel_rfl) (by kernel_rfl) (Below.refl _ _).drew ?gb ?vb ?steps ?fin
            case gb => exact fun a b h1 h2 => h1.trans (h2.mono h1.size)
            case vb =>
              intro oq v a b h hb
              match oq with
              | 0 => exact h
              | 1 => exact h
              | 2 => exact h
              | 3 => exact h
              | 4 => exact h
              | 5 => exact h
              | 6 => exact h
              | 7 => exact h
              | 8 => exact h
              | 9 => exact h
              | 10 => exact h
              | 11 => exact h
              | 12 => exact h
              | 13 => exact h
              | 14 => exact h
              | 15 => exact h
              | 16 => exact h
              | 17 => exact h
              | 18 => exact h
              | 19 => exact h
              | 20 => exact h
              | 21 => exact h
              | 22 => exact h
              | 23 => exact h
              | 24 => exact h
              | 25 => exact h
              | 26 => exact h
              | 27 => exact h
              | 28 => exact h
              | 29 => exact h
              | 30 => exact h
              | 31 => exact h
              | 32 => exact h
              | 33 => exact h
              | 34 => exact h
              | 35 => exact h
              | 36 => exact h
              | 37 => exact h
              | 38 => exact h
              | _ + 39 => trivial
            case steps =>
              intro vals
              simp only [List.take_succ_cons, List.take_zero, freeSteps, Act.put, List.setIfInBounds_toArray, List.set_cons_zero, List.set_cons_succ, Nat.reduceAdd]
              refine ⟨fun w8 hG hW => ?_, fun w8 hG hW => ?_, fun w8 hG hW => ?_, fun w8 hG hW => ?_, fun w8 hG hW => ?_, fun w8 hG hW => ?_, fun w8 hG hW => ?_, fun w8 hG hW => ?_, fun w8 hG hW => ?_, fun w8 hG hW => ?_, fun w8 hG hW => ?_, fun w8 hG hW => ?_, fun w8 hG hW => ?_, fun w8 hG hW => ?_, fun w8 hG hW => ?_, fun w8 hG hW => ?_, fun w8 hG hW => ?_, fun w8 hG hW => ?_, fun w8 hG hW => ?_, fun w8 hG hW => ?_, fun w8 hG hW => ?_, fun w8 hG hW => ?_, fun w8 hG hW => ?_, fun w8 hG hW => ?_, fun w8 hG hW => ?_, fun w8 hG hW => ?_, fun w8 hG hW => ?_, fun w8 hG hW => ?_, fun w8 hG hW => ?_, fun w8 hG hW => ?_, fun w8 hG hW => ?_, fun w8 hG hW => ?_, fun w8 hG hW => ?_, fun w8 hG hW => ?_, fun w8 hG hW => ?_, fun w8 hG hW => ?_, fun w8 hG hW => ?_, fun w8 hG hW => ?_, fun w8 hG hW => ?_, trivial⟩
              · clear hW
                refine stepAt_value rfl rfl rfl (.int .i64 0) w8 ?_ ⟨rfl, Below.refl _ _⟩
                go_simp
              · have q0 := hW 0 (by decide)
                simp only at q0
                rw [q0]
                clear hW
                refine stepAt_value rfl rfl rfl (.bool true) w8 ?_ ⟨rfl, Below.refl _ _⟩
                go_simp
              · have q1 := hW 1 (by decide)
                simp only at q1
                rw [q1]
                clear hW
                refine stepAt_value rfl rfl rfl (.bool true) w8 ?_ ⟨rfl, Below.refl _ _⟩
                go_simp
              · have q2 := hW 2 (by decide)
                simp only at q2
                rw [q2]
                clear hW
                refine stepAt_value rfl rfl rfl (.bool true) w8 ?_ ⟨rfl, Below.refl _ _⟩
                go_simp
              · have q2 := hW 2 (by decide)
                simp only at q2
                have q3 := hW 3 (by decide)
                simp only at q3
                rw [q2, q3]
                clear hW
                refine stepAt_value rfl rfl rfl (.bool false) w8 ?_ ⟨rfl, Below.refl _ _⟩
                go_simp
              · have q2 := hW 2 (by decide)
                simp only at q2
                have q4 := hW 4 (by decide)
                simp only at q4
                rw [q2, q4]
                clear hW
                refine stepAt_value rfl rfl rfl (.bool false) w8 ?_ ⟨rfl, Below.refl _ _⟩
                go_simp
              · have q5 := hW 5 (by decide)
                simp only at q5
                rw [q5]
                clear hW
                refine stepAt_load_run rfl rfl rfl _ _ rfl _ _ rfl (run_load_vote HLU.out (HU.out.below hG HU.out.lt).voteAll) ⟨rfl, Below.refl _ _⟩
              · have q5 := hW 5 (by decide)
                simp only at q5
                rw [q5]
                clear hW
                refine stepAt_load_run rfl rfl rfl _ _ rfl _ _ rfl (run_load_call (HX.out.below hG HX.out.lt).callAll) ⟨rfl, Below.refl _ _⟩
              · have q5 := hW 5 (by decide)
                simp only at q5
                have q7 := hW 7 (by decide)
                simp only at q7
                rw [q5, q7]
                clear hW
                refine stepAt_call rfl rfl rfl 19 #[.agg (ccl c).toArray] (by go_simp) ((cvote_any w8 c).mono fun e w' ⟨h1, h2⟩ => ⟨_, h1, rfl, h2⟩)
              · have q5 := hW 5 (by decide)
                simp only at q5
                have q6 := hW 6 (by decide)
                simp only at q6
                have q8 := hW 8 (by decide)
                simp only at q8
                rw [q5, q6, q8]
                clear hW
                refine stepAt_neq_vt rfl rfl rfl (.tmp 87) (.tmp 89) 29 rfl (ctv c) (ctv c) rfl rfl HLU.out HLU.out ⟨?_, Below.refl _ _⟩
                rw [eqV_self]
                rfl
              · have q2 := hW 2 (by decide)
                simp only at q2
                have q5 := hW 5 (by decide)
                simp only at q5
                have q9 := hW 9 (by decide)
                simp only at q9
                rw [q2, q5, q9]
                clear hW
                refine stepAt_value rfl rfl rfl (.bool false) w8 ?_ ⟨rfl, Below.refl _ _⟩
                go_simp
              · have q2 := hW 2 (by decide)
                simp only at q2
                have q10 := hW 10 (by decide)
                simp only at q10
                rw [q2, q10]
                clear hW
                refine stepAt_value rfl rfl rfl (.bool false) w8 ?_ ⟨rfl, Below.refl _ _⟩
                go_simp
              · have q11 := hW 11 (by decide)
                simp only at q11
                rw [q11]
                clear hW
                refine stepAt_value rfl rfl rfl (.bool false) w8 ?_ ⟨rfl, Below.refl _ _⟩
                go_simp
              · have q11 := hW 11 (by decide)
                simp only at q11
                have q12 := hW 12 (by decide)
                simp only at q12
                rw [q11, q12]
                clear hW
                refine stepAt_value rfl rfl rfl (.bool false) w8 ?_ ⟨rfl, Below.refl _ _⟩
                go_simp
              · have q13 := hW 13 (by decide)
                simp only at q13
                rw [q13]
                clear hW
                exact stepAt_skip rfl rfl rfl ⟨rfl, Below.refl _ _⟩
              · have q13 := hW 13 (by decide)
                simp only at q13
                rw [q13]
                clear hW
                exact stepAt_skip rfl rfl rfl ⟨rfl, Below.refl _ _⟩
              · have q13 := hW 13 (by decide)
                simp only at q13
                rw [q13]
                clear hW
                exact stepAt_skip rfl rfl rfl ⟨rfl, Below.refl _ _⟩
              · have q13 := hW 13 (by decide)
                simp only at q13
                rw [q13]
                clear hW
                exact stepAt_skip rfl rfl rfl ⟨rfl, Below.refl _ _⟩
              · have q13 := hW 13 (by decide)
                simp only at q13
                rw [q13]
                clear hW
                exact stepAt_skip rfl rfl rfl ⟨rfl, Below.refl _ _⟩
              · have q13 := hW 13 (by decide)
                simp only at q13
                rw [q13]
                clear hW
                exact stepAt_skip rfl rfl rfl ⟨rfl, Below.refl _ _⟩
              · have q13 := hW 13 (by decide)
                simp only at q13
                rw [q13]
                clear hW
                exact stepAt_skip rfl rfl rfl ⟨rfl, Below.refl _ _⟩
              · have q13 := hW 13 (by decide)
                simp only at q13
                rw [q13]
                clear hW
                exact stepAt_skip rfl rfl rfl ⟨rfl, Below.refl _ _⟩
              · have q13 := hW 13 (by decide)
                simp only at q13
                rw [q13]
                clear hW
                exact stepAt_skip rfl rfl rfl ⟨rfl, Below.refl _ _⟩
              · have q11 := hW 11 (by decide)
                simp only at q11
                have q13 := hW 13 (by decide)
                simp only at q13
                rw [q11, q13]
                clear hW
                refine stepAt_value rfl rfl rfl (.bool false) w8 ?_ ⟨rfl, Below.refl _ _⟩
                go_simp
              · have q2 := hW 2 (by decide)
                simp only at q2
                have q11 := hW 11 (by decide)
                simp only at q11
                have q23 := hW 23 (by decide)
                simp only at q23
                rw [q2, q11, q23]
                clear hW
                refine stepAt_value rfl rfl rfl (.bool false) w8 ?_ ⟨rfl, Below.refl _ _⟩
                go_simp
              · have q2 := hW 2 (by decide)
                simp only at q2
                have q24 := hW 24 (by decide)
                simp only at q24
                rw [q2, q24]
                clear hW
                refine stepAt_value rfl rfl rfl (.bool false) w8 ?_ ⟨rfl, Below.refl _ _⟩
                go_simp
              · have q25 := hW 25 (by decide)
                simp only at q25
                rw [q25]
                clear hW
                refine stepAt_value rfl rfl rfl (.bool false) w8 ?_ ⟨rfl, Below.refl _ _⟩
                go_simp
              · have q26 := hW 26 (by decide)
                simp only at q26
                rw [q26]
                clear hW
                refine stepAt_value rfl rfl rfl (.int .i64 0) w8 ?_ ⟨rfl, Below.refl _ _⟩
                go_simp
              · have q26 := hW 26 (by decide)
                simp only at q26
                have q27 := hW 27 (by decide)
                simp only at q27
                rw [q26, q27]
                clear hW
                refine stepAt_value rfl rfl rfl (.bool false) w8 ?_ ⟨rfl, Below.refl _ _⟩
                go_simp
              · have q26 := hW 26 (by decide)
                simp only at q26
                have q28 := hW 28 (by decide)
                simp only at q28
                rw [q26, q28]
                clear hW
                refine stepAt_value rfl rfl rfl (.bool false) w8 ?_ ⟨rfl, Below.refl _ _⟩
                go_simp
              · have q29 := hW 29 (by decide)
                simp only at q29
                rw [q29]
                clear hW
                exact stepAt_skip rfl rfl rfl ⟨rfl, Below.refl _ _⟩
              · have q29 := hW 29 (by decide)
                simp only at q29
                rw [q29]
                clear hW
                exact stepAt_skip rfl rfl rfl ⟨rfl, Below.refl _ _⟩
              · have q29 := hW 29 (by decide)
                simp only at q29
                rw [q29]
                clear hW
                exact stepAt_skip rfl rfl rfl ⟨rfl, Below.refl _ _⟩
              · have q29 := hW 29 (by decide)
                simp only at q29
                rw [q29]
                clear hW
                exact stepAt_skip rfl rfl rfl ⟨rfl, Below.refl _ _⟩
              · have q33 := hW 33 (by decide)
                simp only at q33
                rw [q33]
                clear hW
                exact stepAt_skip rfl rfl rfl ⟨rfl, Below.refl _ _⟩
              · have q33 := hW 33 (by decide)
                simp only at q33
                rw [q33]
                clear hW
                exact stepAt_skip rfl rfl rfl ⟨rfl, Below.refl _ _⟩
              · have q33 := hW 33 (by decide)
                simp only at q33
                rw [q33]
                clear hW
                exact stepAt_skip rfl rfl rfl ⟨rfl, Below.refl _ _⟩
              · have q29 := hW 29 (by decide)
                simp only at q29
                rw [q29]
                clear hW
                exact stepAt_skip rfl rfl rfl ⟨rfl, Below.refl _ _⟩
              · have q26 := hW 26 (by decide)
                simp only at q26
                have q29 := hW 29 (by decide)
                simp only at q29
                rw [q26, q29]
                clear hW
                refine stepAt_value rfl rfl rfl (.bool false) w8 ?_ ⟨rfl, Below.refl _ _⟩
                go_simp
            case fin =>
              intro vals w12 hG hV
              have q26 := hV 26 (by omega)
              simp only at q26
              have q38 := hV 38 (by omega)
              simp only at q38
              simp only [List.take_succ_cons, List.take_zero, List.drop_succ_cons, List.drop_zero, putAll, Act.put, List.setIfInBounds_toArray, List.set_cons_zero, List.set_cons_succ, Nat.reduceAdd]
              rw [q26, q38]
              clear hV q26 q38
              generalize vals 0 = y0
              generalize vals 1 = y1
              generalize vals 2 = y2
              generalize vals 3 = y3
              generalize vals 4 = y4
              generalize vals 5 = y5
              generalize vals 6 = y6
              generalize vals 7 = y7
              generalize vals 8 = y8
              generalize vals 9 = y9
              generalize vals 10 = y10
              generalize vals 11 = y11
              generalize vals 12 = y12
              generalize vals 13 = y13
              generalize vals 14 = y14
              generalize vals 15 = y15
              generalize vals 16 = y16
              generalize vals 17 = y17
              generalize vals 18 = y18
              generalize vals 19 = y19
              generalize vals 20 = y20
              generalize vals 21 = y21
              generalize vals 22 = y22
              generalize vals 23 = y23
              generalize vals 24 = y24
              generalize vals 25 = y25
              generalize vals 27 = y27
              generalize vals 28 = y28
              generalize vals 29 = y29
              generalize vals 30 = y30
              generalize vals 31 = y31
              generalize vals 32 = y32
              generalize vals 33 = y33
              generalize vals 34 = y34
              generalize vals 35 = y35
              generalize vals 36 = y36
              generalize vals 37 = y37
              replace HT := Lib.hid (HT.out.below hG)
              clear hG
              go_wp2_with fail
              go_roundw
              case rel => exact ⟨j + 1, tb, by omega, by have := HTB.out.1; have := HJA.out; omega, by go_num, Lib.hid HTB.out.2, HT⟩
              case measure => simp [intOf]; omega
        · subst e0
          subst e1
          subst e2
          subst e3
          subst e4
          clear HOC
          cases H with
          | true =>
            go_wp2_with fail
            refine (counts_any w11 b m g tb c.w HT.out.p).mono ?_
            rintro e w11 ⟨rfl, rfl⟩
            rw [HC2.out]
            go_upto_region 19 with fail
            clear c1
            refine wp_region_free (P := Try.prog) 39 (fun w' => Below w11.heap.size w11 w') (fun oq v w' => match oq with
                | 0 => v = .int .i64 2
                | 1 => v = .bool false
                | 2 => v = .bool false
                | 3 => v = undef
                | 4 => v = undef
                | 5 => v = undef
                | 6 => v = undef
                | 7 => v = undef
                | 8 => v = undef
                | 9 => v = undef
                | 10 => v = undef
                | 11 => v = undef
                | 12 => v = undef
                | 13 => v = undef
                | 14 => v = undef
                | 15 => v = undef
                | 16 => v = undef
                | 17 => v = undef
                | 18 => v = undef
                | 19 => v = undef
                | 20 => v = undef
                | 21 => v = undef
                | 22 => v = undef
                | 23 => v = undef
                | 24 => v = undef
                | 25 => v = .bool false
                | 26 => v = .bool false
                | 27 => v = .int .i64 2
                | 28 => v = .bool true
                | 29 => v = .bool true
                | 30 => v = .agg (vcl VB).toArray
                | 31 => v = .agg (vcl VB).toArray
                | 32 => v = .bool false
                | 33 => v = .bool false
                | 34 => v = .bool true
                | 35 => v = .bool true
                | 36 => v = .bool false
                | 37 => v = .bool false
                | 38 => v = .bool false
                | _ => True) (by kernel_rfl) (by kernel_rfl) (Below.refl _ _).drew ?gb ?vb ?steps ?fin
            case gb => exact fun a b h1 h2 => h1.trans (h2.mono h1.size)
            case vb =>
              intro oq v a b h hb
              match oq with
              | 0 => exact h
              | 1 => exact h
              | 2 => exact h
              | 3 => exact h
              | 4 => exact h
              | 5 => exact h
              | 6 => exact h
              | 7 => exact h
              | 8 => exact h
              | 9 => exact h
              | 10 => exact h
              | 11 => exact h
              | 12 => exact h
              | 13 => exact h
              | 14 => exact h
              | 15 => exact h
              | 16 => exact h
              | 17 => exact h
              | 18 => exact h
              | 19 => exact h
              | 20 => exact h
              | 21 => exact h
              | 22 => exact h
              | 23 => exact h
              | 24 => exact h
              | 25 => exact h
              | 26 => exact h
              | 27 => exact h
              | 28 => exact h
              | 29 => exact h
              | 30 => exact h
              | 31 => exact h
              | 32 => exact h
              | 33 => exact h
              | 34 => exact h
              | 35 => exact h
              | 36 => exact h
              | 37 => exact h
              | 38 => exact h
              | _ + 39 => trivial
            case steps =>
              intro vals
              simp only [List.take_succ_cons, List.take_zero, freeSteps, Act.put, List.setIfInBounds_toArray, List.set_cons_zero, List.set_cons_succ, Nat.reduceAdd]
              refine ⟨fun w8 hG hW => ?_, fun w8 hG hW => ?_, fun w8 hG hW => ?_, fun w8 hG hW => ?_, fun w8 hG hW => ?_, fun w8 hG hW => ?_, fun w8 hG hW => ?_, fun w8 hG hW => ?_, fun w8 hG hW => ?_, fun w8 hG hW => ?_, fun w8 hG hW => ?_, fun w8 hG hW => ?_, fun w8 hG hW => ?_, fun w8 hG hW => ?_, fun w8 hG hW => ?_, fun w8 hG hW => ?_, fun w8 hG hW => ?_, fun w8 hG hW => ?_, fun w8 hG hW => ?_, fun w8 hG hW => ?_, fun w8 hG hW => ?_, fun w8 hG hW => ?_, fun w8 hG hW => ?_, fun w8 hG hW => ?_, fun w8 hG hW => ?_, fun w8 hG hW => ?_, fun w8 hG hW => ?_, fun w8 hG hW => ?_, fun w8 hG hW => ?_, fun w8 hG hW => ?_, fun w8 hG hW => ?_, fun w8 hG hW => ?_, fun w8 hG hW => ?_, fun w8 hG hW => ?_, fun w8 hG hW => ?_, fun w8 hG hW => ?_, fun w8 hG hW => ?_, fun w8 hG hW => ?_, fun w8 hG hW => ?_, trivial⟩
              · clear hW
                refine stepAt_value rfl rfl rfl (.int .i64 2) w8 ?_ ⟨rfl, Below.refl _ _⟩
                go_simp
              · have q0 := hW 0 (by decide)
                simp only at q0
                rw [q0]
                clear hW
                refine stepAt_value rfl rfl rfl (.bool false) w8 ?_ ⟨rfl, Below.refl _ _⟩
                go_simp
              · have q1 := hW 1 (by decide)
                simp only at q1
                rw [q1]
                clear hW
                refine stepAt_value rfl rfl rfl (.bool false) w8 ?_ ⟨rfl, Below.refl _ _⟩
                go_simp
              · have q2 := hW 2 (by decide)
                simp only at q2
                rw [q2]
                clear hW
                exact stepAt_skip rfl rfl rfl ⟨rfl, Below.refl _ _⟩
              · have q2 := hW 2 (by decide)
                simp only at q2
                rw [q2]
                clear hW
                exact stepAt_skip rfl rfl rfl ⟨rfl, Below.refl _ _⟩
              · have q2 := hW 2 (by decide)
                simp only at q2
                rw [q2]
                clear hW
                exact stepAt_skip rfl rfl rfl ⟨rfl, Below.refl _ _⟩
              · have q5 := hW 5 (by decide)
                simp only at q5
                rw [q5]
                clear hW
                exact stepAt_skip rfl rfl rfl ⟨rfl, Below.refl _ _⟩
              · have q5 := hW 5 (by decide)
                simp only at q5
                rw [q5]
                clear hW
                exact stepAt_skip rfl rfl rfl ⟨rfl, Below.refl _ _⟩
              · have q5 := hW 5 (by decide)
                simp only at q5
                rw [q5]
                clear hW
                exact stepAt_skip rfl rfl rfl ⟨rfl, Below.refl _ _⟩
              · have q5 := hW 5 (by decide)
                simp only at q5
                rw [q5]
                clear hW
                exact stepAt_skip rfl rfl rfl ⟨rfl, Below.refl _ _⟩
              · have q2 := hW 2 (by decide)
                simp only at q2
                rw [q2]
                clear hW
                exact stepAt_skip rfl rfl rfl ⟨rfl, Below.refl _ _⟩
              · have q2 := hW 2 (by decide)
                simp only at q2
                rw [q2]
                clear hW
                exact stepAt_skip rfl rfl rfl ⟨rfl, Below.refl _ _⟩
              · have q11 := hW 11 (by decide)
                simp only at q11
                rw [q11]
                clear hW
                exact stepAt_skip rfl rfl rfl ⟨rfl, Below.refl _ _⟩
              · have q11 := hW 11 (by decide)
                simp only at q11
                rw [q11]
                clear hW
                exact stepAt_skip rfl rfl rfl ⟨rfl, Below.refl _ _⟩
              · have q13 := hW 13 (by decide)
                simp only at q13
                rw [q13]
                clear hW
                exact stepAt_skip rfl rfl rfl ⟨rfl, Below.refl _ _⟩
              · have q13 := hW 13 (by decide)
                simp only at q13
                rw [q13]
                clear hW
                exact stepAt_skip rfl rfl rfl ⟨rfl, Below.refl _ _⟩
              · have q13 := hW 13 (by decide)
                simp only at q13
                rw [q13]
                clear hW
                exact stepAt_skip rfl rfl rfl ⟨rfl, Below.refl _ _⟩
              · have q13 := hW 13 (by decide)
                simp only at q13
                rw [q13]
                clear hW
                exact stepAt_skip rfl rfl rfl ⟨rfl, Below.refl _ _⟩
              · have q13 := hW 13 (by decide)
                simp only at q13
                rw [q13]
                clear hW
                exact stepAt_skip rfl rfl rfl ⟨rfl, Below.refl _ _⟩
              · have q13 := hW 13 (by decide)
                simp only at q13
                rw [q13]
                clear hW
                exact stepAt_skip rfl rfl rfl ⟨rfl, Below.refl _ _⟩
              · have q13 := hW 13 (by decide)
                simp only at q13
                rw [q13]
                clear hW
                exact stepAt_skip rfl rfl rfl ⟨rfl, Below.refl _ _⟩
              · have q13 := hW 13 (by decide)
                simp only at q13
                rw [q13]
                clear hW
                exact stepAt_skip rfl rfl rfl ⟨rfl, Below.refl _ _⟩
              · have q13 := hW 13 (by decide)
                simp only at q13
                rw [q13]
                clear hW
                exact stepAt_skip rfl rfl rfl ⟨rfl, Below.refl _ _⟩
              · have q11 := hW 11 (by decide)
                simp only at q11
                rw [q11]
                clear hW
                exact stepAt_skip rfl rfl rfl ⟨rfl, Below.refl _ _⟩
              · have q2 := hW 2 (by decide)
                simp only at q2
                rw [q2]
                clear hW
                exact stepAt_skip rfl rfl rfl ⟨rfl, Below.refl _ _⟩
              · have q2 := hW 2 (by decide)
                simp only at q2
                rw [q2]
                clear hW
                refine stepAt_value rfl rfl rfl (.bool false) w8 ?_ ⟨rfl, Below.refl _ _⟩
                go_simp
              · have q25 := hW 25 (by decide)
                simp only at q25
                rw [q25]
                clear hW
                refine stepAt_value rfl rfl rfl (.bool false) w8 ?_ ⟨rfl, Below.refl _ _⟩
                go_simp
              · have q26 := hW 26 (by decide)
                simp only at q26
                rw [q26]
                clear hW
                refine stepAt_value rfl rfl rfl (.int .i64 2) w8 ?_ ⟨rfl, Below.refl _ _⟩
                go_simp
              · have q26 := hW 26 (by decide)
                simp only at q26
                have q27 := hW 27 (by decide)
                simp only at q27
                rw [q26, q27]
                clear hW
                refine stepAt_value rfl rfl rfl (.bool true) w8 ?_ ⟨rfl, Below.refl _ _⟩
                go_simp
              · have q26 := hW 26 (by decide)
                simp only at q26
                have q28 := hW 28 (by decide)
                simp only at q28
                rw [q26, q28]
                clear hW
                refine stepAt_value rfl rfl rfl (.bool true) w8 ?_ ⟨rfl, Below.refl _ _⟩
                go_simp
              · have q29 := hW 29 (by decide)
                simp only at q29
                rw [q29]
                clear hW
                refine stepAt_load_run rfl rfl rfl _ _ rfl _ _ rfl (run_load_vote HLU.out (HU.out.below hG HU.out.lt).voteAll) ⟨rfl, Below.refl _ _⟩
              · have q29 := hW 29 (by decide)
                simp only at q29
                rw [q29]
                clear hW
                refine stepAt_load_run rfl rfl rfl _ _ rfl _ _ rfl (run_load_vote HLU.out (HY.out.below hG HY.out.lt).voteAll) ⟨rfl, Below.refl _ _⟩
              · have q29 := hW 29 (by decide)
                simp only at q29
                have q30 := hW 30 (by decide)
                simp only at q30
                have q31 := hW 31 (by decide)
                simp only at q31
                rw [q29, q30, q31]
                clear hW
                refine stepAt_neq_vt rfl rfl rfl (.tmp 111) (.tmp 112) 29 rfl VB VB rfl rfl HLU.out HLU.out ⟨?_, Below.refl _ _⟩
                rw [eqV_self]
                rfl
              · have q29 := hW 29 (by decide)
                simp only at q29
                have q32 := hW 32 (by decide)
                simp only at q32
                rw [q29, q32]
                clear hW
                refine stepAt_value rfl rfl rfl (.bool false) w8 ?_ ⟨rfl, Below.refl _ _⟩
                go_simp
              · have q33 := hW 33 (by decide)
                simp only at q33
                rw [q33]
                clear hW
                refine stepAt_value rfl rfl rfl (.bool true) w8 ?_ ⟨rfl, Below.refl _ _⟩
                go_simp
              · have q33 := hW 33 (by decide)
                simp only at q33
                rw [q33]
                clear hW
                refine stepAt_value rfl rfl rfl (.bool true) w8 ?_ ⟨rfl, Below.refl _ _⟩
                go_simp
              · have q33 := hW 33 (by decide)
                simp only at q33
                have q34 := hW 34 (by decide)
                simp only at q34
                have q35 := hW 35 (by decide)
                simp only at q35
                rw [q33, q34, q35]
                clear hW
                refine stepAt_value rfl rfl rfl (.bool false) w8 ?_ ⟨rfl, Below.refl _ _⟩
                go_simp
              · have q29 := hW 29 (by decide)
                simp only at q29
                have q33 := hW 33 (by decide)
                simp only at q33
                have q36 := hW 36 (by decide)
                simp only at q36
                rw [q29, q33, q36]
                clear hW
                refine stepAt_value rfl rfl rfl (.bool false) w8 ?_ ⟨rfl, Below.refl _ _⟩
                go_simp
              · have q26 := hW 26 (by decide)
                simp only at q26
                have q29 := hW 29 (by decide)
                simp only at q29
                have q37 := hW 37 (by decide)
                simp only at q37
                rw [q26, q29, q37]
                clear hW
                refine stepAt_value rfl rfl rfl (.bool false) w8 ?_ ⟨rfl, Below.refl _ _⟩
                go_simp
            case fin =>
              intro vals w12 hG hV
              have q26 := hV 26 (by omega)
              simp only at q26
              have q38 := hV 38 (by omega)
              simp only at q38
              simp only [List.take_succ_cons, List.take_zero, List.drop_succ_cons, List.drop_zero, putAll, Act.put, List.setIfInBounds_toArray, List.set_cons_zero, List.set_cons_succ, Nat.reduceAdd]
              rw [q26, q38]
              clear hV q26 q38
              generalize vals 0 = y0
              generalize vals 1 = y1
              generalize vals 2 = y2
              generalize vals 3 = y3
              generalize vals 4 = y4
              generalize vals 5 = y5
              generalize vals 6 = y6
              generalize vals 7 = y7
              generalize vals 8 = y8
              generalize vals 9 = y9
              generalize vals 10 = y10
              generalize vals 11 = y11
              generalize vals 12 = y12
              generalize vals 13 = y13
              generalize vals 14 = y14
              generalize vals 15 = y15
              generalize vals 16 = y16
              generalize vals 17 = y17
              generalize vals 18 = y18
              generalize vals 19 = y19
              generalize vals 20 = y20
              generalize vals 21 = y21
              generalize vals 22 = y22
              generalize vals 23 = y23
              generalize vals 24 = y24
              generalize vals 25 = y25
              generalize vals 27 = y27
              generalize vals 28 = y28
              generalize vals 29 = y29
              generalize vals 30 = y30
              generalize vals 31 = y31
              generalize vals 32 = y32
              generalize vals 33 = y33
              generalize vals 34 = y34
              generalize vals 35 = y35
              generalize vals 36 = y36
              generalize vals 37 = y37
              replace HT := Lib.hid (HT.out.below hG)
              clear hG
              go_wp2_with fail
              go_roundw
              case rel => exact ⟨j + 1, tb, by omega, by have := HTB.out.1; have := HJA.out; omega, by go_num, Lib.hid HTB.out.2, HT⟩
              case measure => simp [intOf]; omega
          | false =>
            go_wp2_with fail
            refine (counts_any w11 b m g tb c.w HT.out.p).mono ?_
            rintro e w11 ⟨rfl, rfl⟩
            rw [HC2.out]
            go_upto_region 19 with fail
            clear c1
            refine wp_region_free (P := Try.prog) 39 (fun w' => Below w11.heap.size w11 w') (fun oq v w' => match oq with
                | 0 => v = .int .i64 2
                | 1 => v = .bool false
                | 2 => v = .bool false
                | 3 => v = undef
                | 4 => v = undef
                | 5 => v = undef
                | 6 => v = undef
                | 7 => v = undef
                | 8 => v = undef
                | 9 => v = undef
                | 10 => v = undef
                | 11 => v = undef
                | 12 => v = undef
                | 13 => v = undef
                | 14 => v = undef
                | 15 => v = undef
                | 16 => v = undef
                | 17 => v = undef
                | 18 => v = undef
                | 19 => v = undef
                | 20 => v = undef
                | 21 => v = undef
                | 22 => v = undef
                | 23 => v = undef
                | 24 => v = undef
                | 25 => v = .bool false
                | 26 => v = .bool false
                | 27 => v = .int .i64 2
                | 28 => v = .bool true
                | 29 => v = .bool true
                | 30 => v = .agg (vcl VB).toArray
                | 31 => v = .agg (vcl VB).toArray
                | 32 => v = .bool false
                | 33 => v = .bool false
                | 34 => v = .bool false
                | 35 => v = .bool false
                | 36 => v = .bool false
                | 37 => v = .bool false
                | 38 => v = .bool false
                | _ => True) (by kernel_rfl) (by kernel_rfl) (Below.refl _ _).drew ?gb ?vb ?steps ?fin
            case gb => exact fun a b h1 h2 => h1.trans (h2.mono h1.size)
            case vb =>
              intro oq v a b h hb
              match oq with
              | 0 => exact h
              | 1 => exact h
              | 2 => exact h
              | 3 => exact h
              | 4 => exact h
              | 5 => exact h
              | 6 => exact h
              | 7 => exact h
              | 8 => exact h
              | 9 => exact h
              | 10 => exact h
              | 11 => exact h
              | 12 => exact h
              | 13 => exact h
              | 14 => exact h
              | 15 => exact h
              | 16 => exact h
              | 17 => exact h
              | 18 => exact h
              | 19 => exact h
              | 20 => exact h
              | 21 => exact h
              | 22 => exact h
              | 23 => exact h
              | 24 => exact h
              | 25 => exact h
              | 26 => exact h
              | 27 => exact h
              | 28 => exact h
              | 29 => exact h
              | 30 => exact h
              | 31 => exact h
              | 32 => exact h
              | 33 => exact h
              | 34 => exact h
              | 35 => exact h
              | 36 => exact h
              | 37 => exact h
              | 38 => exact h
              | _ + 39 => trivial
            case steps =>
              intro vals
              simp only [List.take_succ_cons, List.take_zero, freeSteps, Act.put, List.setIfInBounds_toArray, List.set_cons_zero, List.set_cons_succ, Nat.reduceAdd]
              refine ⟨fun w8 hG hW => ?_, fun w8 hG hW => ?_, fun w8 hG hW => ?_, fun w8 hG hW => ?_, fun w8 hG hW => ?_, fun w8 hG hW => ?_, fun w8 hG hW => ?_, fun w8 hG hW => ?_, fun w8 hG hW => ?_, fun w8 hG hW => ?_, fun w8 hG hW => ?_, fun w8 hG hW => ?_, fun w8 hG hW => ?_, fun w8 hG hW => ?_, fun w8 hG hW => ?_, fun w8 hG hW => ?_, fun w8 hG hW => ?_, fun w8 hG hW => ?_, fun w8 hG hW => ?_, fun w8 hG hW => ?_, fun w8 hG hW => ?_, fun w8 hG hW => ?_, fun w8 hG hW => ?_, fun w8 hG hW => ?_, fun w8 hG hW => ?_, fun w8 hG hW => ?_, fun w8 hG hW => ?_, fun w8 hG hW => ?_, fun w8 hG hW => ?_, fun w8 hG hW => ?_, fun w8 hG hW => ?_, fun w8 hG hW => ?_, fun w8 hG hW => ?_, fun w8 hG hW => ?_, fun w8 hG hW => ?_, fun w8 hG hW => ?_, fun w8 hG hW => ?_, fun w8 hG hW => ?_, fun w8 hG hW => ?_, trivial⟩
              · clear hW
                refine stepAt_value rfl rfl rfl (.int .i64 2) w8 ?_ ⟨rfl, Below.refl _ _⟩
                go_simp
              · have q0 := hW 0 (by decide)
                simp only at q0
                rw [q0]
                clear hW
                refine stepAt_value rfl rfl rfl (.bool false) w8 ?_ ⟨rfl, Below.refl _ _⟩
                go_simp
              · have q1 := hW 1 (by decide)
                simp only at q1
                rw [q1]
                clear hW
                refine stepAt_value rfl rfl rfl (.bool false) w8 ?_ ⟨rfl, Below.refl _ _⟩
                go_simp
              · have q2 := hW 2 (by decide)
                simp only at q2
                rw [q2]
                clear hW
                exact stepAt_skip rfl rfl rfl ⟨rfl, Below.refl _ _⟩
              · have q2 := hW 2 (by decide)
                simp only at q2
                rw [q2]
                clear hW
                exact stepAt_skip rfl rfl rfl ⟨rfl, Below.refl _ _⟩
              · have q2 := hW 2 (by decide)
                simp only at q2
                rw [q2]
                clear hW
                exact stepAt_skip rfl rfl rfl ⟨rfl, Below.refl _ _⟩
              · have q5 := hW 5 (by decide)
                simp only at q5
                rw [q5]
                clear hW
                exact stepAt_skip rfl rfl rfl ⟨rfl, Below.refl _ _⟩
              · have q5 := hW 5 (by decide)
                simp only at q5
                rw [q5]
                clear hW
                exact stepAt_skip rfl rfl rfl ⟨rfl, Below.refl _ _⟩
              · have q5 := hW 5 (by decide)
                simp only at q5
                rw [q5]
                clear hW
                exact stepAt_skip rfl rfl rfl ⟨rfl, Below.refl _ _⟩
              · have q5 := hW 5 (by decide)
                simp only at q5
                rw [q5]
                clear hW
                exact stepAt_skip rfl rfl rfl ⟨rfl, Below.refl _ _⟩
              · have q2 := hW 2 (by decide)
                simp only at q2
                rw [q2]
                clear hW
                exact stepAt_skip rfl rfl rfl ⟨rfl, Below.refl _ _⟩
              · have q2 := hW 2 (by decide)
                simp only at q2
                rw [q2]
                clear hW
                exact stepAt_skip rfl rfl rfl ⟨rfl, Below.refl _ _⟩
              · have q11 := hW 11 (by decide)
                simp only at q11
                rw [q11]
                clear hW
                exact stepAt_skip rfl rfl rfl ⟨rfl, Below.refl _ _⟩
              · have q11 := hW 11 (by decide)
                simp only at q11
                rw [q11]
                clear hW
                exact stepAt_skip rfl rfl rfl ⟨rfl, Below.refl _ _⟩
              · have q13 := hW 13 (by decide)
                simp only at q13
                rw [q13]
                clear hW
                exact stepAt_skip rfl rfl rfl ⟨rfl, Below.refl _ _⟩
              · have q13 := hW 13 (by decide)
                simp only at q13
                rw [q13]
                clear hW
                exact stepAt_skip rfl rfl rfl ⟨rfl, Below.refl _ _⟩
              · have q13 := hW 13 (by decide)
                simp only at q13
                rw [q13]
                clear hW
                exact stepAt_skip rfl rfl rfl ⟨rfl, Below.refl _ _⟩
              · have q13 := hW 13 (by decide)
                simp only at q13
                rw [q13]
                clear hW
                exact stepAt_skip rfl rfl rfl ⟨rfl, Below.refl _ _⟩
              · have q13 := hW 13 (by decide)
                simp only at q13
                rw [q13]
                clear hW
                exact stepAt_skip rfl rfl rfl ⟨rfl, Below.refl _ _⟩
              · have q13 := hW 13 (by decide)
                simp only at q13
                rw [q13]
                clear hW
                exact stepAt_skip rfl rfl rfl ⟨rfl, Below.refl _ _⟩
              · have q13 := hW 13 (by decide)
                simp only at q13
                rw [q13]
                clear hW
                exact stepAt_skip rfl rfl rfl ⟨rfl, Below.refl _ _⟩
              · have q13 := hW 13 (by decide)
                simp only at q13
                rw [q13]
                clear hW
                exact stepAt_skip rfl rfl rfl ⟨rfl, Below.refl _ _⟩
              · have q13 := hW 13 (by decide)
                simp only at q13
                rw [q13]
                clear hW
                exact stepAt_skip rfl rfl rfl ⟨rfl, Below.refl _ _⟩
              · have q11 := hW 11 (by decide)
                simp only at q11
                rw [q11]
                clear hW
                exact stepAt_skip rfl rfl rfl ⟨rfl, Below.refl _ _⟩
              · have q2 := hW 2 (by decide)
                simp only at q2
                rw [q2]
                clear hW
                exact stepAt_skip rfl rfl rfl ⟨rfl, Below.refl _ _⟩
              · have q2 := hW 2 (by decide)
                simp only at q2
                rw [q2]
                clear hW
                refine stepAt_value rfl rfl rfl (.bool false) w8 ?_ ⟨rfl, Below.refl _ _⟩
                go_simp
              · have q25 := hW 25 (by decide)
                simp only at q25
                rw [q25]
                clear hW
                refine stepAt_value rfl rfl rfl (.bool false) w8 ?_ ⟨rfl, Below.refl _ _⟩
                go_simp
              · have q26 := hW 26 (by decide)
                simp only at q26
                rw [q26]
                clear hW
                refine stepAt_value rfl rfl rfl (.int .i64 2) w8 ?_ ⟨rfl, Below.refl _ _⟩
                go_simp
              · have q26 := hW 26 (by decide)
                simp only at q26
                have q27 := hW 27 (by decide)
                simp only at q27
                rw [q26, q27]
                clear hW
                refine stepAt_value rfl rfl rfl (.bool true) w8 ?_ ⟨rfl, Below.refl _ _⟩
                go_simp
              · have q26 := hW 26 (by decide)
                simp only at q26
                have q28 := hW 28 (by decide)
                simp only at q28
                rw [q26, q28]
                clear hW
                refine stepAt_value rfl rfl rfl (.bool true) w8 ?_ ⟨rfl, Below.refl _ _⟩
                go_simp
              · have q29 := hW 29 (by decide)
                simp only at q29
                rw [q29]
                clear hW
                refine stepAt_load_run rfl rfl rfl _ _ rfl _ _ rfl (run_load_vote HLU.out (HU.out.below hG HU.out.lt).voteAll) ⟨rfl, Below.refl _ _⟩
              · have q29 := hW 29 (by decide)
                simp only at q29
                rw [q29]
                clear hW
                refine stepAt_load_run rfl rfl rfl _ _ rfl _ _ rfl (run_load_vote HLU.out (HY.out.below hG HY.out.lt).voteAll) ⟨rfl, Below.refl _ _⟩
              · have q29 := hW 29 (by decide)
                simp only at q29
                have q30 := hW 30 (by decide)
                simp only at q30
                have q31 := hW 31 (by decide)
                simp only at q31
                rw [q29, q30, q31]
                clear hW
                refine stepAt_neq_vt rfl rfl rfl (.tmp 111) (.tmp 112) 29 rfl VB VB rfl rfl HLU.out HLU.out ⟨?_, Below.refl _ _⟩
                rw [eqV_self]
                rfl
              · have q29 := hW 29 (by decide)
                simp only at q29
                have q32 := hW 32 (by decide)
                simp only at q32
                rw [q29, q32]
                clear hW
                refine stepAt_value rfl rfl rfl (.bool false) w8 ?_ ⟨rfl, Below.refl _ _⟩
                go_simp
              · have q33 := hW 33 (by decide)
                simp only at q33
                rw [q33]
                clear hW
                refine stepAt_value rfl rfl rfl (.bool false) w8 ?_ ⟨rfl, Below.refl _ _⟩
                go_simp
              · have q33 := hW 33 (by decide)
                simp only at q33
                rw [q33]
                clear hW
                refine stepAt_value rfl rfl rfl (.bool false) w8 ?_ ⟨rfl, Below.refl _ _⟩
                go_simp
              · have q33 := hW 33 (by decide)
                simp only at q33
                have q34 := hW 34 (by decide)
                simp only at q34
                have q35 := hW 35 (by decide)
                simp only at q35
                rw [q33, q34, q35]
                clear hW
                refine stepAt_value rfl rfl rfl (.bool false) w8 ?_ ⟨rfl, Below.refl _ _⟩
                go_simp
              · have q29 := hW 29 (by decide)
                simp only at q29
                have q33 := hW 33 (by decide)
                simp only at q33
                have q36 := hW 36 (by decide)
                simp only at q36
                rw [q29, q33, q36]
                clear hW
                refine stepAt_value rfl rfl rfl (.bool false) w8 ?_ ⟨rfl, Below.refl _ _⟩
                go_simp
              · have q26 := hW 26 (by decide)
                simp only at q26
                have q29 := hW 29 (by decide)
                simp only at q29
                have q37 := hW 37 (by decide)
                simp only at q37
                rw [q26, q29, q37]
                clear hW
                refine stepAt_value rfl rfl rfl (.bool false) w8 ?_ ⟨rfl, Below.refl _ _⟩
                go_simp
            case fin =>
              intro vals w12 hG hV
              have q26 := hV 26 (by omega)
              simp only at q26
              have q38 := hV 38 (by omega)
              simp only at q38
              simp only [List.take_succ_cons, List.take_zero, List.drop_succ_cons, List.drop_zero, putAll, Act.put, List.setIfInBounds_toArray, List.set_cons_zero, List.set_cons_succ, Nat.reduceAdd]
              rw [q26, q38]
              clear hV q26 q38
              generalize vals 0 = y0
              generalize vals 1 = y1
              generalize vals 2 = y2
              generalize vals 3 = y3
              generalize vals 4 = y4
              generalize vals 5 = y5
              generalize vals 6 = y6
              generalize vals 7 = y7
              generalize vals 8 = y8
              generalize vals 9 = y9
              generalize vals 10 = y10
              generalize vals 11 = y11
              generalize vals 12 = y12
              generalize vals 13 = y13
              generalize vals 14 = y14
              generalize vals 15 = y15
              generalize vals 16 = y16
              generalize vals 17 = y17
              generalize vals 18 = y18
              generalize vals 19 = y19
              generalize vals 20 = y20
              generalize vals 21 = y21
              generalize vals 22 = y22
              generalize vals 23 = y23
              generalize vals 24 = y24
              generalize vals 25 = y25
              generalize vals 27 = y27
              generalize vals 28 = y28
              generalize vals 29 = y29
              generalize vals 30 = y30
              generalize vals 31 = y31
              generalize vals 32 = y32
              generalize vals 33 = y33
              generalize vals 34 = y34
              generalize vals 35 = y35
              generalize vals 36 = y36
              generalize vals 37 = y37
              replace HT := Lib.hid (HT.out.below hG)
              clear hG
              go_wp2_with fail
              go_roundw
              case rel => exact ⟨j + 1, tb, by omega, by have := HTB.out.1; have := HJA.out; omega, by go_num, Lib.hid HTB.out.2, HT⟩
              case measure => simp [intOf]; omega
        · have co0 : (CO == 0) = false := beq_eq_false_iff_ne.2 e0
          have co2 : (CO == 2) = false := beq_eq_false_iff_ne.2 e0'
          subst e2
          subst e3
          subst e4
          have HC0 := Lib.hid co0
          have HCN := Lib.hid (show ¬ CO = 0 from e0)
          clear e0 e0' HOC
          cases C1 with
          | true =>
            cases H with
            | true =>
              go_wp2_with fail
              refine (counts_any w11 b m g tb c.w HT.out.p).mono ?_
              rintro e w11 ⟨rfl, rfl⟩
              rw [HC2.out]
              go_upto_region 19 with fail
              clear c1 co0 co2
              refine wp_region_free (P := Try.prog) 39 (fun w' => Below w11.heap.size w11 w') (fun oq v w' => match oq with
                  | 0 => v = .int .i64 CO
                  | 1 => v = .bool false
                  | 2 => v = .bool false
                  | 3 => v = undef
                  | 4 => v = undef
                  | 5 => v = undef
                  | 6 => v = undef
                  | 7 => v = undef
                  | 8 => v = undef
                  | 9 => v = undef
                  | 10 => v = undef
                  | 11 => v = undef
                  | 12 => v = undef
                  | 13 => v = undef
                  | 14 => v = undef
                  | 15 => v = undef
                  | 16 => v = undef
                  | 17 => v = undef
                  | 18 => v = undef
                  | 19 => v = undef
                  | 20 => v = undef
                  | 21 => v = undef
                  | 22 => v = undef
                  | 23 => v = undef
                  | 24 => v = undef
                  | 25 => v = .bool false
                  | 26 => v = .bool false
                  | 27 => v = .int .i64 CO
                  | 28 => v = .bool true
                  | 29 => v = .bool true
                  | 30 => v = .agg (vcl VB).toArray
                  | 31 => v = .agg (vcl VB).toArray
                  | 32 => v = .bool false
                  | 33 => v = .bool false
                  | 34 => v = .bool true
                  | 35 => v = .bool true
                  | 36 => v = .bool false
                  | 37 => v = .bool false
                  | 38 => v = .bool false
                  | _ => True) (by kernel_rfl) (by kernel_rfl) (Below.refl _ _).drew ?gb ?vb ?steps ?fin
              case gb => exact fun a b h1 h2 => h1.trans (h2.mono h1.size)
              case vb =>
                intro oq v a b h hb
                match oq with
                | 0 => exact h
                | 1 => exact h
                | 2 => exact h
                | 3 => exact h
                | 4 => exact h
                | 5 => exact h
                | 6 => exact h
                | 7 => exact h
                | 8 => exact h
                | 9 => exact h
                | 10 => exact h
                | 11 => exact h
                | 12 => exact h
                | 13 => exact h
                | 14 => exact h
                | 15 => exact h
                | 16 => exact h
                | 17 => exact h
                | 18 => exact h
                | 19 => exact h
                | 20 => exact h
                | 21 => exact h
                | 22 => exact h
                | 23 => exact h
                | 24 => exact h
                | 25 => exact h
                | 26 => exact h
                | 27 => exact h
                | 28 => exact h
                | 29 => exact h
                | 30 => exact h
                | 31 => exact h
                | 32 => exact h
                | 33 => exact h
                | 34 => exact h
                | 35 => exact h
                | 36 => exact h
                | 37 => exact h
                | 38 => exact h
                | _ + 39 => trivial
              case steps =>
                intro vals
                simp only [List.take_succ_cons, List.take_zero, freeSteps, Act.put, List.setIfInBounds_toArray, List.set_cons_zero, List.set_cons_succ, Nat.reduceAdd]
                refine ⟨fun w8 hG hW => ?_, fun w8 hG hW => ?_, fun w8 hG hW => ?_, fun w8 hG hW => ?_, fun w8 hG hW => ?_, fun w8 hG hW => ?_, fun w8 hG hW => ?_, fun w8 hG hW => ?_, fun w8 hG hW => ?_, fun w8 hG hW => ?_, fun w8 hG hW => ?_, fun w8 hG hW => ?_, fun w8 hG hW => ?_, fun w8 hG hW => ?_, fun w8 hG hW => ?_, fun w8 hG hW => ?_, fun w8 hG hW => ?_, fun w8 hG hW => ?_, fun w8 hG hW => ?_, fun w8 hG hW => ?_, fun w8 hG hW => ?_, fun w8 hG hW => ?_, fun w8 hG hW => ?_, fun w8 hG hW => ?_, fun w8 hG hW => ?_, fun w8 hG hW => ?_, fun w8 hG hW => ?_, fun w8 hG hW => ?_, fun w8 hG hW => ?_, fun w8 hG hW => ?_, fun w8 hG hW => ?_, fun w8 hG hW => ?_, fun w8 hG hW => ?_, fun w8 hG hW => ?_, fun w8 hG hW => ?_, fun w8 hG hW => ?_, fun w8 hG hW => ?_, fun w8 hG hW => ?_, fun w8 hG hW => ?_, trivial⟩
                · clear hW
                  refine stepAt_value rfl rfl rfl (.int .i64 CO) w8 ?_ ⟨rfl, Below.refl _ _⟩
                  go_simp
                · have q0 := hW 0 (by decide)
                  simp only at q0
                  rw [q0]
                  clear hW
                  refine stepAt_value rfl rfl rfl (.bool false) w8 ?_ ⟨rfl, Below.refl _ _⟩
                  have co0 := HC0.out
                  go_simp
                · have q1 := hW 1 (by decide)
                  simp only at q1
                  rw [q1]
                  clear hW
                  refine stepAt_value rfl rfl rfl (.bool false) w8 ?_ ⟨rfl, Below.refl _ _⟩
                  go_simp
                · have q2 := hW 2 (by decide)
                  simp only at q2
                  rw [q2]
                  clear hW
                  exact stepAt_skip rfl rfl rfl ⟨rfl, Below.refl _ _⟩
                · have q2 := hW 2 (by decide)
                  simp only at q2
                  rw [q2]
                  clear hW
                  exact stepAt_skip rfl rfl rfl ⟨rfl, Below.refl _ _⟩
                · have q2 := hW 2 (by decide)
                  simp only at q2
                  rw [q2]
                  clear hW
                  exact stepAt_skip rfl rfl rfl ⟨rfl, Below.refl _ _⟩
                · have q5 := hW 5 (by decide)
                  simp only at q5
                  rw [q5]
                  clear hW
                  exact stepAt_skip rfl rfl rfl ⟨rfl, Below.refl _ _⟩
                · have q5 := hW 5 (by decide)
                  simp only at q5
                  rw [q5]
                  clear hW
                  exact stepAt_skip rfl rfl rfl ⟨rfl, Below.refl _ _⟩
                · have q5 := hW 5 (by decide)
                  simp only at q5
                  rw [q5]
                  clear hW
                  exact stepAt_skip rfl rfl rfl ⟨rfl, Below.refl _ _⟩
                · have q5 := hW 5 (by decide)
                  simp only at q5
                  rw [q5]
                  clear hW
                  exact stepAt_skip rfl rfl rfl ⟨rfl, Below.refl _ _⟩
                · have q2 := hW 2 (by decide)
                  simp only at q2
                  rw [q2]
                  clear hW
                  exact stepAt_skip rfl rfl rfl ⟨rfl, Below.refl _ _⟩
                · have q2 := hW 2 (by decide)
                  simp only at q2
                  rw [q2]
                  clear hW
                  exact stepAt_skip rfl rfl rfl ⟨rfl, Below.refl _ _⟩
                · have q11 := hW 11 (by decide)
                  simp only at q11
                  rw [q11]
                  clear hW
                  exact stepAt_skip rfl rfl rfl ⟨rfl, Below.refl _ _⟩
                · have q11 := hW 11 (by decide)
                  simp only at q11
                  rw [q11]
                  clear hW
                  exact stepAt_skip rfl rfl rfl ⟨rfl, Below.refl _ _⟩
                · have q13 := hW 13 (by decide)
                  simp only at q13
                  rw [q13]
                  clear hW
                  exact stepAt_skip rfl rfl rfl ⟨rfl, Below.refl _ _⟩
                · have q13 := hW 13 (by decide)
                  simp only at q13
                  rw [q13]
                  clear hW
                  exact stepAt_skip rfl rfl rfl ⟨rfl, Below.refl _ _⟩
                · have q13 := hW 13 (by decide)
                  simp only at q13
                  rw [q13]
                  clear hW
                  exact stepAt_skip rfl rfl rfl ⟨rfl, Below.refl _ _⟩
                · have q13 := hW 13 (by decide)
                  simp only at q13
                  rw [q13]
                  clear hW
                  exact stepAt_skip rfl rfl rfl ⟨rfl, Below.refl _ _⟩
                · have q13 := hW 13 (by decide)
                  simp only at q13
                  rw [q13]
                  clear hW
                  exact stepAt_skip rfl rfl rfl ⟨rfl, Below.refl _ _⟩
                · have q13 := hW 13 (by decide)
                  simp only at q13
                  rw [q13]
                  clear hW
                  exact stepAt_skip rfl rfl rfl ⟨rfl, Below.refl _ _⟩
                · have q13 := hW 13 (by decide)
                  simp only at q13
                  rw [q13]
                  clear hW
                  exact stepAt_skip rfl rfl rfl ⟨rfl, Below.refl _ _⟩
                · have q13 := hW 13 (by decide)
                  simp only at q13
                  rw [q13]
                  clear hW
                  exact stepAt_skip rfl rfl rfl ⟨rfl, Below.refl _ _⟩
                · have q13 := hW 13 (by decide)
                  simp only at q13
                  rw [q13]
                  clear hW
                  exact stepAt_skip rfl rfl rfl ⟨rfl, Below.refl _ _⟩
                · have q11 := hW 11 (by decide)
                  simp only at q11
                  rw [q11]
                  clear hW
                  exact stepAt_skip rfl rfl rfl ⟨rfl, Below.refl _ _⟩
                · have q2 := hW 2 (by decide)
                  simp only at q2
                  rw [q2]
                  clear hW
                  exact stepAt_skip rfl rfl rfl ⟨rfl, Below.refl _ _⟩
                · have q2 := hW 2 (by decide)
                  simp only at q2
                  rw [q2]
                  clear hW
                  refine stepAt_value rfl rfl rfl (.bool false) w8 ?_ ⟨rfl, Below.refl _ _⟩
                  go_simp
                · have q25 := hW 25 (by decide)
                  simp only at q25
                  rw [q25]
                  clear hW
                  refine stepAt_value rfl rfl rfl (.bool false) w8 ?_ ⟨rfl, Below.refl _ _⟩
                  go_simp
                · have q26 := hW 26 (by decide)
                  simp only at q26
                  rw [q26]
                  clear hW
                  refine stepAt_value rfl rfl rfl (.int .i64 CO) w8 ?_ ⟨rfl, Below.refl _ _⟩
                  go_simp
                · have q26 := hW 26 (by decide)
                  simp only at q26
                  have q27 := hW 27 (by decide)
                  simp only at q27
                  rw [q26, q27]
                  clear hW
                  refine stepAt_value rfl rfl rfl (.bool true) w8 ?_ ⟨rfl, Below.refl _ _⟩
                  have cn0 := HCN.out
                  go_simp
                · have q26 := hW 26 (by decide)
                  simp only at q26
                  have q28 := hW 28 (by decide)
                  simp only at q28
                  rw [q26, q28]
                  clear hW
                  refine stepAt_value rfl rfl rfl (.bool true) w8 ?_ ⟨rfl, Below.refl _ _⟩
                  go_simp
                · have q29 := hW 29 (by decide)
                  simp only at q29
                  rw [q29]
                  clear hW
                  refine stepAt_load_run rfl rfl rfl _ _ rfl _ _ rfl (run_load_vote HLU.out (HU.out.below hG HU.out.lt).voteAll) ⟨rfl, Below.refl _ _⟩
                · have q29 := hW 29 (by decide)
                  simp only at q29
                  rw [q29]
                  clear hW
                  refine stepAt_load_run rfl rfl rfl _ _ rfl _ _ rfl (run_load_vote HLU.out (HY.out.below hG HY.out.lt).voteAll) ⟨rfl, Below.refl _ _⟩
                · have q29 := hW 29 (by decide)
                  simp only at q29
                  have q30 := hW 30 (by decide)
                  simp only at q30
                  have q31 := hW 31 (by decide)
                  simp only at q31
                  rw [q29, q30, q31]
                  clear hW
                  refine stepAt_neq_vt rfl rfl rfl (.tmp 111) (.tmp 112) 29 rfl VB VB rfl rfl HLU.out HLU.out ⟨?_, Below.refl _ _⟩
                  rw [eqV_self]
                  rfl
                · have q29 := hW 29 (by decide)
                  simp only at q29
                  have q32 := hW 32 (by decide)
                  simp only at q32
                  rw [q29, q32]
                  clear hW
                  refine stepAt_value rfl rfl rfl (.bool false) w8 ?_ ⟨rfl, Below.refl _ _⟩
                  go_simp
                · have q33 := hW 33 (by decide)
                  simp only at q33
                  rw [q33]
                  clear hW
                  refine stepAt_value rfl rfl rfl (.bool true) w8 ?_ ⟨rfl, Below.refl _ _⟩
                  go_simp
                · have q33 := hW 33 (by decide)
                  simp only at q33
                  rw [q33]
                  clear hW
                  refine stepAt_value rfl rfl rfl (.bool true) w8 ?_ ⟨rfl, Below.refl _ _⟩
                  go_simp
                · have q33 := hW 33 (by decide)
                  simp only at q33
                  have q34 := hW 34 (by decide)
                  simp only at q34
                  have q35 := hW 35 (by decide)
                  simp only at q35
                  rw [q33, q34, q35]
                  clear hW
                  refine stepAt_value rfl rfl rfl (.bool false) w8 ?_ ⟨rfl, Below.refl _ _⟩
                  go_simp
                · have q29 := hW 29 (by decide)
                  simp only at q29
                  have q33 := hW 33 (by decide)
                  simp only at q33
                  have q36 := hW 36 (by decide)
                  simp only at q36
                  rw [q29, q33, q36]
                  clear hW
                  refine stepAt_value rfl rfl rfl (.bool false) w8 ?_ ⟨rfl, Below.refl _ _⟩
                  go_simp
                · have q26 := hW 26 (by decide)
                  simp only at q26
                  have q29 := hW 29 (by decide)
                  simp only at q29
                  have q37 := hW 37 (by decide)
                  simp only at q37
                  rw [q26, q29, q37]
                  clear hW
                  refine stepAt_value rfl rfl rfl (.bool false) w8 ?_ ⟨rfl, Below.refl _ _⟩
                  go_simp
              case fin =>
                intro vals w12 hG hV
                have q26 := hV 26 (by omega)
                simp only at q26
                have q38 := hV 38 (by omega)
                simp only at q38
                simp only [List.take_succ_cons, List.take_zero, List.drop_succ_cons, List.drop_zero, putAll, Act.put, List.setIfInBounds_toArray, List.set_cons_zero, List.set_cons_succ, Nat.reduceAdd]
                rw [q26, q38]
                clear hV q26 q38
                generalize vals 0 = y0
                generalize vals 1 = y1
                generalize vals 2 = y2
                generalize vals 3 = y3
                generalize vals 4 = y4
                generalize vals 5 = y5
                generalize vals 6 = y6
                generalize vals 7 = y7
                generalize vals 8 = y8
                generalize vals 9 = y9
                generalize vals 10 = y10
                generalize vals 11 = y11
                generalize vals 12 = y12
                generalize vals 13 = y13
                generalize vals 14 = y14
                generalize vals 15 = y15
                generalize vals 16 = y16
                generalize vals 17 = y17
                generalize vals 18 = y18
                generalize vals 19 = y19
                generalize vals 20 = y20
                generalize vals 21 = y21
                generalize vals 22 = y22
                generalize vals 23 = y23
                generalize vals 24 = y24
                generalize vals 25 = y25
                generalize vals 27 = y27
                generalize vals 28 = y28
                generalize vals 29 = y29
                generalize vals 30 = y30
                generalize vals 31 = y31
                generalize vals 32 = y32
                generalize vals 33 = y33
                generalize vals 34 = y34
                generalize vals 35 = y35
                generalize vals 36 = y36
                generalize vals 37 = y37
                replace HT := Lib.hid (HT.out.below hG)
                clear hG
                go_wp2_with fail
                go_roundw
                case rel => exact ⟨j + 1, tb, by omega, by have := HTB.out.1; have := HJA.out; omega, by go_num, Lib.hid HTB.out.2, HT⟩
                case measure => simp [intOf]; omega
            | false =>
              go_wp2_with fail
              refine (counts_any w11 b m g tb c.w HT.out.p).mono ?_
              rintro e w11 ⟨rfl, rfl⟩
              rw [HC2.out]
              go_upto_region 19 with fail
              clear c1 co0 co2
              refine wp_region_free (P := Try.prog) 39 (fun w' => Below w11.heap.size w11 w') (fun oq v w' => match oq with
                  | 0 => v = .int .i64 CO
                  | 1 => v = .bool false
                  | 2 => v = .bool false
                  | 3 => v = undef
                  | 4 => v = undef
                  | 5 => v = undef
                  | 6 => v = undef
                  | 7 => v = undef
                  | 8 => v = undef
                  | 9 => v = undef
                  | 10 => v = undef
                  | 11 => v = undef
                  | 12 => v = undef
                  | 13 => v = undef
                  | 14 => v = undef
                  | 15 => v = undef
                  | 16 => v = undef
                  | 17 => v = undef
                  | 18 => v = undef
                  | 19 => v = undef
                  | 20 => v = undef
                  | 21 => v = undef
                  | 22 => v = undef
                  | 23 => v = undef
                  | 24 => v = undef
                  | 25 => v = .bool false
                  | 26 => v = .bool false
                  | 27 => v = .int .i64 CO
                  | 28 => v = .bool true
                  | 29 => v = .bool true
                  | 30 => v = .agg (vcl VB).toArray
                  | 31 => v = .agg (vcl VB).toArray
                  | 32 => v = .bool false
                  | 33 => v = .bool false
                  | 34 => v = .bool false
                  | 35 => v = .bool false
                  | 36 => v = .bool false
                  | 37 => v = .bool false
                  | 38 => v = .bool false
                  | _ => True) (by kernel_rfl) (by kernel_rfl) (Below.refl _ _).drew ?gb ?vb ?steps ?fin
              case gb => exact fun a b h1 h2 => h1.trans (h2.mono h1.size)
              case vb =>
                intro oq v a b h hb
                match oq with
                | 0 => exact h
                | 1 => exact h
                | 2 => exact h
                | 3 => exact h
                | 4 => exact h
                | 5 => exact h
                | 6 => exact h
                | 7 => exact h
                | 8 => exact h
                | 9 => exact h
                | 10 => exact h
                | 11 => exact h
                | 12 => exact h
                | 13 => exact h
                | 14 => exact h
                | 15 => exact h
                | 16 => exact h
                | 17 => exact h
                | 18 => exact h
                | 19 => exact h
                | 20 => exact h
                | 21 => exact h
                | 22 => exact h
                | 23 => exact h
                | 24 => exact h
                | 25 => exact h
                | 26 => exact h
                | 27 => exact h
                | 28 => exact h
                | 29 => exact h
                | 30 => exact h
                | 31 => exact h
                | 32 => exact h
                | 33 => exact h
                | 34 => exact h
                | 35 => exact h
                | 36 => exact h
                | 37 => exact h
                | 38 => exact h
                | _ + 39 => trivial
              case steps =>
                intro vals
                simp only [List.take_succ_cons, List.take_zero, freeSteps, Act.put, List.setIfInBounds_toArray, List.set_cons_zero, List.set_cons_succ, Nat.reduceAdd]
                refine ⟨fun w8 hG hW => ?_, fun w8 hG hW => ?_, fun w8 hG hW => ?_, fun w8 hG hW => ?_, fun w8 hG hW => ?_, fun w8 hG hW => ?_, fun w8 hG hW => ?_, fun w8 hG hW => ?_, fun w8 hG hW => ?_, fun w8 hG hW => ?_, fun w8 hG hW => ?_, fun w8 hG hW => ?_, fun w8 hG hW => ?_, fun w8 hG hW => ?_, fun w8 hG hW => ?_, fun w8 hG hW => ?_, fun w8 hG hW => ?_, fun w8 hG hW => ?_, fun w8 hG hW => ?_, fun w8 hG hW => ?_, fun w8 hG hW => ?_, fun w8 hG hW => ?_, fun w8 hG hW => ?_, fun w8 hG hW => ?_, fun w8 hG hW => ?_, fun w8 hG hW => ?_, fun w8 hG hW => ?_, fun w8 hG hW => ?_, fun w8 hG hW => ?_, fun w8 hG hW => ?_, fun w8 hG hW => ?_, fun w8 hG hW => ?_, fun w8 hG hW => ?_, fun w8 hG hW => ?_, fun w8 hG hW => ?_, fun w8 hG hW => ?_, fun w8 hG hW => ?_, fun w8 hG hW => ?_, fun w8 hG hW => ?_, trivial⟩
                · clear hW
                  refine stepAt_value rfl rfl rfl (.int .i64 CO) w8 ?_ ⟨rfl, Below.refl _ _⟩
                  go_simp
                · have q0 := hW 0 (by decide)
                  simp only at q0
                  rw [q0]
                  clear hW
                  refine stepAt_value rfl rfl rfl (.bool false) w8 ?_ ⟨rfl, Below.refl _ _⟩
                  have co0 := HC0.out
                  go_simp
                · have q1 := hW 1 (by decide)
                  simp only at q1
                  rw [q1]
                  clear hW
                  refine stepAt_value rfl rfl rfl (.bool false) w8 ?_ ⟨rfl, Below.refl _ _⟩
                  go_simp
                · have q2 := hW 2 (by decide)
                  simp only at q2
                  rw [q2]
                  clear hW
                  exact stepAt_skip rfl rfl rfl ⟨rfl, Below.refl _ _⟩
                · have q2 := hW 2 (by decide)
                  simp only at q2
                  rw [q2]
                  clear hW
                  exact stepAt_skip rfl rfl rfl ⟨rfl, Below.refl _ _⟩
                · have q2 := hW 2 (by decide)
                  simp only at q2
                  rw [q2]
                  clear hW
                  exact stepAt_skip rfl rfl rfl ⟨rfl, Below.refl _ _⟩
                · have q5 := hW 5 (by decide)
                  simp only at q5
                  rw [q5]
                  clear hW
                  exact stepAt_skip rfl rfl rfl ⟨rfl, Below.refl _ _⟩
                · have q5 := hW 5 (by decide)
                  simp only at q5
                  rw [q5]
                  clear hW
                  exact stepAt_skip rfl rfl rfl ⟨rfl, Below.refl _ _⟩
                · have q5 := hW 5 (by decide)
                  simp only at q5
                  rw [q5]
                  clear hW
                  exact stepAt_skip rfl rfl rfl ⟨rfl, Below.refl _ _⟩
                · have q5 := hW 5 (by decide)
                  simp only at q5
                  rw [q5]
                  clear hW
                  exact stepAt_skip rfl rfl rfl ⟨rfl, Below.refl _ _⟩
                · have q2 := hW 2 (by decide)
                  simp only at q2
                  rw [q2]
                  clear hW
                  exact stepAt_skip rfl rfl rfl ⟨rfl, Below.refl _ _⟩
                · have q2 := hW 2 (by decide)
                  simp only at q2
                  rw [q2]
                  clear hW
                  exact stepAt_skip rfl rfl rfl ⟨rfl, Below.refl _ _⟩
                · have q11 := hW 11 (by decide)
                  simp only at q11
                  rw [q11]
                  clear hW
                  exact stepAt_skip rfl rfl rfl ⟨rfl, Below.refl _ _⟩
                · have q11 := hW 11 (by decide)
                  simp only at q11
                  rw [q11]
                  clear hW
                  exact stepAt_skip rfl rfl rfl ⟨rfl, Below.refl _ _⟩
                · have q13 := hW 13 (by decide)
                  simp only at q13
                  rw [q13]
                  clear hW
                  exact stepAt_skip rfl rfl rfl ⟨rfl, Below.refl _ _⟩
                · have q13 := hW 13 (by decide)
                  simp only at q13
                  rw [q13]
                  clear hW
                  exact stepAt_skip rfl rfl rfl ⟨rfl, Below.refl _ _⟩
                · have q13 := hW 13 (by decide)
                  simp only at q13
                  rw [q13]
                  clear hW
                  exact stepAt_skip rfl rfl rfl ⟨rfl, Below.refl _ _⟩
                · have q13 := hW 13 (by decide)
                  simp only at q13
                  rw [q13]
                  clear hW
                  exact stepAt_skip rfl rfl rfl ⟨rfl, Below.refl _ _⟩
                · have q13 := hW 13 (by decide)
                  simp only at q13
                  rw [q13]
                  clear hW
                  exact stepAt_skip rfl rfl rfl ⟨rfl, Below.refl _ _⟩
                · have q13 := hW 13 (by decide)
                  simp only at q13
                  rw [q13]
                  clear hW
                  exact stepAt_skip rfl rfl rfl ⟨rfl, Below.refl _ _⟩
                · have q13 := hW 13 (by decide)
                  simp only at q13
                  rw [q13]
                  clear hW
                  exact stepAt_skip rfl rfl rfl ⟨rfl, Below.refl _ _⟩
                · have q13 := hW 13 (by decide)
                  simp only at q13
                  rw [q13]
                  clear hW
                  exact stepAt_skip rfl rfl rfl ⟨rfl, Below.refl _ _⟩
                · have q13 := hW 13 (by decide)
                  simp only at q13
                  rw [q13]
                  clear hW
                  exact stepAt_skip rfl rfl rfl ⟨rfl, Below.refl _ _⟩
                · have q11 := hW 11 (by decide)
                  simp only at q11
                  rw [q11]
                  clear hW
                  exact stepAt_skip rfl rfl rfl ⟨rfl, Below.refl _ _⟩
                · have q2 := hW 2 (by decide)
                  simp only at q2
                  rw [q2]
                  clear hW
                  exact stepAt_skip rfl rfl rfl ⟨rfl, Below.refl _ _⟩
                · have q2 := hW 2 (by decide)
                  simp only at q2
                  rw [q2]
                  clear hW
                  refine stepAt_value rfl rfl rfl (.bool false) w8 ?_ ⟨rfl, Below.refl _ _⟩
                  go_simp
                · have q25 := hW 25 (by decide)
                  simp only at q25
                  rw [q25]
                  clear hW
                  refine stepAt_value rfl rfl rfl (.bool false) w8 ?_ ⟨rfl, Below.refl _ _⟩
                  go_simp
                · have q26 := hW 26 (by decide)
                  simp only at q26
                  rw [q26]
                  clear hW
                  refine stepAt_value rfl rfl rfl (.int .i64 CO) w8 ?_ ⟨rfl, Below.refl _ _⟩
                  go_simp
                · have q26 := hW 26 (by decide)
                  simp only at q26
                  have q27 := hW 27 (by decide)
                  simp only at q27
                  rw [q26, q27]
                  clear hW
                  refine stepAt_value rfl rfl rfl (.bool true) w8 ?_ ⟨rfl, Below.refl _ _⟩
                  have cn0 := HCN.out
                  go_simp
                · have q26 := hW 26 (by decide)
                  simp only at q26
                  have q28 := hW 28 (by decide)
                  simp only at q28
                  rw [q26, q28]
                  clear hW
                  refine stepAt_value rfl rfl rfl (.bool true) w8 ?_ ⟨rfl, Below.refl _ _⟩
                  go_simp
                · have q29 := hW 29 (by decide)
                  simp only at q29
                  rw [q29]
                  clear hW
                  refine stepAt_load_run rfl rfl rfl _ _ rfl _ _ rfl (run_load_vote HLU.out (HU.out.below hG HU.out.lt).voteAll) ⟨rfl, Below.refl _ _⟩
                · have q29 := hW 29 (by decide)
                  simp only at q29
                  rw [q29]
                  clear hW
                  refine stepAt_load_run rfl rfl rfl _ _ rfl _ _ rfl (run_load_vote HLU.out (HY.out.below hG HY.out.lt).voteAll) ⟨rfl, Below.refl _ _⟩
                · have q29 := hW 29 (by decide)
                  simp only at q29
                  have q30 := hW 30 (by decide)
                  simp only at q30
                  have q31 := hW 31 (by decide)
                  simp only at q31
                  rw [q29, q30, q31]
                  clear hW
                  refine stepAt_neq_vt rfl rfl rfl (.tmp 111) (.tmp 112) 29 rfl VB VB rfl rfl HLU.out HLU.out ⟨?_, Below.refl _ _⟩
                  rw [eqV_self]
                  rfl
                · have q29 := hW 29 (by decide)
                  simp only at q29
                  have q32 := hW 32 (by decide)
                  simp only at q32
                  rw [q29, q32]
                  clear hW
                  refine stepAt_value rfl rfl rfl (.bool false) w8 ?_ ⟨rfl, Below.refl _ _⟩
                  go_simp
                · have q33 := hW 33 (by decide)
                  simp only at q33
                  rw [q33]
                  clear hW
                  refine stepAt_value rfl rfl rfl (.bool false) w8 ?_ ⟨rfl, Below.refl _ _⟩
                  go_simp
                · have q33 := hW 33 (by decide)
                  simp only at q33
                  rw [q33]
                  clear hW
                  refine stepAt_value rfl rfl rfl (.bool false) w8 ?_ ⟨rfl, Below.refl _ _⟩
                  go_simp
                · have q33 := hW 33 (by decide)
                  simp only at q33
                  have q34 := hW 34 (by decide)
                  simp only at q34
                  have q35 := hW 35 (by decide)
                  simp only at q35
                  rw [q33, q34, q35]
                  clear hW
                  refine stepAt_value rfl rfl rfl (.bool false) w8 ?_ ⟨rfl, Below.refl _ _⟩
                  go_simp
                · have q29 := hW 29 (by decide)
                  simp only at q29
                  have q33 := hW 33 (by decide)
                  simp only at q33
                  have q36 := hW 36 (by decide)
                  simp only at q36
                  rw [q29, q33, q36]
                  clear hW
                  refine stepAt_value rfl rfl rfl (.bool false) w8 ?_ ⟨rfl, Below.refl _ _⟩
                  go_simp
                · have q26 := hW 26 (by decide)
                  simp only at q26
                  have q29 := hW 29 (by decide)
                  simp only at q29
                  have q37 := hW 37 (by decide)
                  simp only at q37
                  rw [q26, q29, q37]
                  clear hW
                  refine stepAt_value rfl rfl rfl (.bool false) w8 ?_ ⟨rfl, Below.refl _ _⟩
                  go_simp
              case fin =>
                intro vals w12 hG hV
                have q26 := hV 26 (by omega)
                simp only at q26
                have q38 := hV 38 (by omega)
                simp only at q38
                simp only [List.take_succ_cons, List.take_zero, List.drop_succ_cons, List.drop_zero, putAll, Act.put, List.setIfInBounds_toArray, List.set_cons_zero, List.set_cons_succ, Nat.reduceAdd]
                rw [q26, q38]
                clear hV q26 q38
                generalize vals 0 = y0
                generalize vals 1 = y1
                generalize vals 2 = y2
                generalize vals 3 = y3
                generalize vals 4 = y4
                generalize vals 5 = y5
                generalize vals 6 = y6
                generalize vals 7 = y7
                generalize vals 8 = y8
                generalize vals 9 = y9
                generalize vals 10 = y10
                generalize vals 11 = y11
                generalize vals 12 = y12
                generalize vals 13 = y13
                generalize vals 14 = y14
                generalize vals 15 = y15
                generalize vals 16 = y16
                generalize vals 17 = y17
                generalize vals 18 = y18
                generalize vals 19 = y19
                generalize vals 20 = y20
                generalize vals 21 = y21
                generalize vals 22 = y22
                generalize vals 23 = y23
                generalize vals 24 = y24
                generalize vals 25 = y25
                generalize vals 27 = y27
                generalize vals 28 = y28
                generalize vals 29 = y29
                generalize vals 30 = y30
                generalize vals 31 = y31
                generalize vals 32 = y32
                generalize vals 33 = y33
                generalize vals 34 = y34
                generalize vals 35 = y35
                generalize vals 36 = y36
                generalize vals 37 = y37
                replace HT := Lib.hid (HT.out.below hG)
                clear hG
                go_wp2_with fail
                go_roundw
                case rel => exact ⟨j + 1, tb, by omega, by have := HTB.out.1; have := HJA.out; omega, by go_num, Lib.hid HTB.out.2, HT⟩
                case measure => simp [intOf]; omega
          | false =>
            cases H with
            | true =>
              go_wp2_with fail
              refine (counts_any w11 b m g tb c.w HT.out.p).mono ?_
              rintro e w11 ⟨rfl, rfl⟩
              rw [HC2.out]
              go_upto_region 19 with fail
              clear c1 co0 co2
              refine wp_region_free (P := Try.prog) 39 (fun w' => Below w11.heap.size w11 w') (fun oq v w' => match oq with
                  | 0 => v = .int .i64 CO
                  | 1 => v = .bool false
                  | 2 => v = .bool false
                  | 3 => v = undef
                  | 4 => v = undef
                  | 5 => v = undef
                  | 6 => v = undef
                  | 7 => v = undef
                  | 8 => v = undef
                  | 9 => v = undef
                  | 10 => v = undef
                  | 11 => v = undef
                  | 12 => v = undef
                  | 13 => v = undef
                  | 14 => v = undef
                  | 15 => v = undef
                  | 16 => v = undef
                  | 17 => v = undef
                  | 18 => v = undef
                  | 19 => v = undef
                  | 20 => v = undef
                  | 21 => v = undef
                  | 22 => v = undef
                  | 23 => v = undef
                  | 24 => v = undef
                  | 25 => v = .bool false
                  | 26 => v = .bool false
                  | 27 => v = .int .i64 CO
                  | 28 => v = .bool true
                  | 29 => v = .bool true
                  | 30 => v = .agg (vcl VB).toArray
                  | 31 => v = .agg (vcl VB).toArray
                  | 32 => v = .bool false
                  | 33 => v = .bool false
                  | 34 => v = .bool true
                  | 35 => v = .bool true
                  | 36 => v = .bool false
                  | 37 => v = .bool false
                  | 38 => v = .bool false
                  | _ => True) (by kernel_rfl) (by kernel_rfl) (Below.refl _ _).drew ?gb ?vb ?steps ?fin
              case gb => exact fun a b h1 h2 => h1.trans (h2.mono h1.size)
              case vb =>
                intro oq v a b h hb
                match oq with
                | 0 => exact h
                | 1 => exact h
                | 2 => exact h
                | 3 => exact h
                | 4 => exact h
                | 5 => exact h
                | 6 => exact h
                | 7 => exact h
                | 8 => exact h
                | 9 => exact h
                | 10 => exact h
                | 11 => exact h
                | 12 => exact h
                | 13 => exact h
                | 14 => exact h
                | 15 => exact h
                | 16 => exact h
                | 17 => exact h
                | 18 => exact h
                | 19 => exact h
                | 20 => exact h
                | 21 => exact h
                | 22 => exact h
                | 23 => exact h
                | 24 => exact h
                | 25 => exact h
                | 26 => exact h
                | 27 => exact h
                | 28 => exact h
                | 29 => exact h
                | 30 => exact h
                | 31 => exact h
                | 32 => exact h
                | 33 => exact h
                | 34 => exact h
                | 35 => exact h
                | 36 => exact h
                | 37 => exact h
                | 38 => exact h
                | _ + 39 => trivial
              case steps =>
                intro vals
                simp only [List.take_succ_cons, List.take_zero, freeSteps, Act.put, List.setIfInBounds_toArray, List.set_cons_zero, List.set_cons_succ, Nat.reduceAdd]
                refine ⟨fun w8 hG hW => ?_, fun w8 hG hW => ?_, fun w8 hG hW => ?_, fun w8 hG hW => ?_, fun w8 hG hW => ?_, fun w8 hG hW => ?_, fun w8 hG hW => ?_, fun w8 hG hW => ?_, fun w8 hG hW => ?_, fun w8 hG hW => ?_, fun w8 hG hW => ?_, fun w8 hG hW => ?_, fun w8 hG hW => ?_, fun w8 hG hW => ?_, fun w8 hG hW => ?_, fun w8 hG hW => ?_, fun w8 hG hW => ?_, fun w8 hG hW => ?_, fun w8 hG hW => ?_, fun w8 hG hW => ?_, fun w8 hG hW => ?_, fun w8 hG hW => ?_, fun w8 hG hW => ?_, fun w8 hG hW => ?_, fun w8 hG hW => ?_, fun w8 hG hW => ?_, fun w8 hG hW => ?_, fun w8 hG hW => ?_, fun w8 hG hW => ?_, fun w8 hG hW => ?_, fun w8 hG hW => ?_, fun w8 hG hW => ?_, fun w8 hG hW => ?_, fun w8 hG hW => ?_, fun w8 hG hW => ?_, fun w8 hG hW => ?_, fun w8 hG hW => ?_, fun w8 hG hW => ?_, fun w8 hG hW => ?_, trivial⟩
                · clear hW
                  refine stepAt_value rfl rfl rfl (.int .i64 CO) w8 ?_ ⟨rfl, Below.refl _ _⟩
                  go_simp
                · have q0 := hW 0 (by decide)
                  simp only at q0
                  rw [q0]
                  clear hW
                  refine stepAt_value rfl rfl rfl (.bool false) w8 ?_ ⟨rfl, Below.refl _ _⟩
                  have co0 := HC0.out
                  go_simp
                · have q1 := hW 1 (by decide)
                  simp only at q1
                  rw [q1]
                  clear hW
                  refine stepAt_value rfl rfl rfl (.bool false) w8 ?_ ⟨rfl, Below.refl _ _⟩
                  go_simp
                · have q2 := hW 2 (by decide)
                  simp only at q2
                  rw [q2]
                  clear hW
                  exact stepAt_skip rfl rfl rfl ⟨rfl, Below.refl _ _⟩
                · have q2 := hW 2 (by decide)
                  simp only at q2
                  rw [q2]
                  clear hW
                  exact stepAt_skip rfl rfl rfl ⟨rfl, Below.refl _ _⟩
                · have q2 := hW 2 (by decide)
                  simp only at q2
                  rw [q2]
                  clear hW
                  exact stepAt_skip rfl rfl rfl ⟨rfl, Below.refl _ _⟩
                · have q5 := hW 5 (by decide)
                  simp only at q5
                  rw [q5]
                  clear hW
                  exact stepAt_skip rfl rfl rfl ⟨rfl, Below.refl _ _⟩
                · have q5 := hW 5 (by decide)
                  simp only at q5
                  rw [q5]
                  clear hW
                  exact stepAt_skip rfl rfl rfl ⟨rfl, Below.refl _ _⟩
                · have q5 := hW 5 (by decide)
                  simp only at q5
                  rw [q5]
                  clear hW
                  exact stepAt_skip rfl rfl rfl ⟨rfl, Below.refl _ _⟩
                · have q5 := hW 5 (by decide)
                  simp only at q5
                  rw [q5]
                  clear hW
                  exact stepAt_skip rfl rfl rfl ⟨rfl, Below.refl _ _⟩
                · have q2 := hW 2 (by decide)
                  simp only at q2
                  rw [q2]
                  clear hW
                  exact stepAt_skip rfl rfl rfl ⟨rfl, Below.refl _ _⟩
                · have q2 := hW 2 (by decide)
                  simp only at q2
                  rw [q2]
                  clear hW
                  exact stepAt_skip rfl rfl rfl ⟨rfl, Below.refl _ _⟩
                · have q11 := hW 11 (by decide)
                  simp only at q11
                  rw [q11]
                  clear hW
                  exact stepAt_skip rfl rfl rfl ⟨rfl, Below.refl _ _⟩
                · have q11 := hW 11 (by decide)
                  simp only at q11
                  rw [q11]
                  clear hW
                  exact stepAt_skip rfl rfl rfl ⟨rfl, Below.refl _ _⟩
                · have q13 := hW 13 (by decide)
                  simp only at q13
                  rw [q13]
                  clear hW
                  exact stepAt_skip rfl rfl rfl ⟨rfl, Below.refl _ _⟩
                · have q13 := hW 13 (by decide)
                  simp only at q13
                  rw [q13]
                  clear hW
                  exact stepAt_skip rfl rfl rfl ⟨rfl, Below.refl _ _⟩
                · have q13 := hW 13 (by decide)
                  simp only at q13
                  rw [q13]
                  clear hW
                  exact stepAt_skip rfl rfl rfl ⟨rfl, Below.refl _ _⟩
                · have q13 := hW 13 (by decide)
                  simp only at q13
                  rw [q13]
                  clear hW
                  exact stepAt_skip rfl rfl rfl ⟨rfl, Below.refl _ _⟩
                · have q13 := hW 13 (by decide)
                  simp only at q13
                  rw [q13]
                  clear hW
                  exact stepAt_skip rfl rfl rfl ⟨rfl, Below.refl _ _⟩
                · have q13 := hW 13 (by decide)
                  simp only at q13
                  rw [q13]
                  clear hW
                  exact stepAt_skip rfl rfl rfl ⟨rfl, Below.refl _ _⟩
                · have q13 := hW 13 (by decide)
                  simp only at q13
                  rw [q13]
                  clear hW
                  exact stepAt_skip rfl rfl rfl ⟨rfl, Below.refl _ _⟩
                · have q13 := hW 13 (by decide)
                  simp only at q13
                  rw [q13]
                  clear hW
                  exact stepAt_skip rfl rfl rfl ⟨rfl, Below.refl _ _⟩
                · have q13 := hW 13 (by decide)
                  simp only at q13
                  rw [q13]
                  clear hW
                  exact stepAt_skip rfl rfl rfl ⟨rfl, Below.refl _ _⟩
                · have q11 := hW 11 (by decide)
                  simp only at q11
                  rw [q11]
                  clear hW
                  exact stepAt_skip rfl rfl rfl ⟨rfl, Below.refl _ _⟩
                · have q2 := hW 2 (by decide)
                  simp only at q2
                  rw [q2]
                  clear hW
                  exact stepAt_skip rfl rfl rfl ⟨rfl, Below.refl _ _⟩
                · have q2 := hW 2 (by decide)
                  simp only at q2
                  rw [q2]
                  clear hW
                  refine stepAt_value rfl rfl rfl (.bool false) w8 ?_ ⟨rfl, Below.refl _ _⟩
                  go_simp
                · have q25 := hW 25 (by decide)
                  simp only at q25
                  rw [q25]
                  clear hW
                  refine stepAt_value rfl rfl rfl (.bool false) w8 ?_ ⟨rfl, Below.refl _ _⟩
                  go_simp
                · have q26 := hW 26 (by decide)
                  simp only at q26
                  rw [q26]
                  clear hW
                  refine stepAt_value rfl rfl rfl (.int .i64 CO) w8 ?_ ⟨rfl, Below.refl _ _⟩
                  go_simp
                · have q26 := hW 26 (by decide)
                  simp only at q26
                  have q27 := hW 27 (by decide)
                  simp only at q27
                  rw [q26, q27]
                  clear hW
                  refine stepAt_value rfl rfl rfl (.bool true) w8 ?_ ⟨rfl, Below.refl _ _⟩
                  have cn0 := HCN.out
                  go_simp
                · have q26 := hW 26 (by decide)
                  simp only at q26
                  have q28 := hW 28 (by decide)
                  simp only at q28
                  rw [q26, q28]
                  clear hW
                  refine stepAt_value rfl rfl rfl (.bool true) w8 ?_ ⟨rfl, Below.refl _ _⟩
                  go_simp
                · have q29 := hW 29 (by decide)
                  simp only at q29
                  rw [q29]
                  clear hW
                  refine stepAt_load_run rfl rfl rfl _ _ rfl _ _ rfl (run_load_vote HLU.out (HU.out.below hG HU.out.lt).voteAll) ⟨rfl, Below.refl _ _⟩
                · have q29 := hW 29 (by decide)
                  simp only at q29
                  rw [q29]
                  clear hW
                  refine stepAt_load_run rfl rfl rfl _ _ rfl _ _ rfl (run_load_vote HLU.out (HY.out.below hG HY.out.lt).voteAll) ⟨rfl, Below.refl _ _⟩
                · have q29 := hW 29 (by decide)
                  simp only at q29
                  have q30 := hW 30 (by decide)
                  simp only at q30
                  have q31 := hW 31 (by decide)
                  simp only at q31
                  rw [q29, q30, q31]
                  clear hW
                  refine stepAt_neq_vt rfl rfl rfl (.tmp 111) (.tmp 112) 29 rfl VB VB rfl rfl HLU.out HLU.out ⟨?_, Below.refl _ _⟩
                  rw [eqV_self]
                  rfl
                · have q29 := hW 29 (by decide)
                  simp only at q29
                  have q32 := hW 32 (by decide)
                  simp only at q32
                  rw [q29, q32]
                  clear hW
                  refine stepAt_value rfl rfl rfl (.bool false) w8 ?_ ⟨rfl, Below.refl _ _⟩
                  go_simp
                · have q33 := hW 33 (by decide)
                  simp only at q33
                  rw [q33]
                  clear hW
                  refine stepAt_value rfl rfl rfl (.bool true) w8 ?_ ⟨rfl, Below.refl _ _⟩
                  go_simp
                · have q33 := hW 33 (by decide)
                  simp only at q33
                  rw [q33]
                  clear hW
                  refine stepAt_value rfl rfl rfl (.bool true) w8 ?_ ⟨rfl, Below.refl _ _⟩
                  go_simp
                · have q33 := hW 33 (by decide)
                  simp only at q33
                  have q34 := hW 34 (by decide)
                  simp only at q34
                  have q35 := hW 35 (by decide)
                  simp only at q35
                  rw [q33, q34, q35]
                  clear hW
                  refine stepAt_value rfl rfl rfl (.bool false) w8 ?_ ⟨rfl, Below.refl _ _⟩
                  go_simp
                · have q29 := hW 29 (by decide)
                  simp only at q29
                  have q33 := hW 33 (by decide)
                  simp only at q33
                  have q36 := hW 36 (by decide)
                  simp only at q36
                  rw [q29, q33, q36]
                  clear hW
                  refine stepAt_value rfl rfl rfl (.bool false) w8 ?_ ⟨rfl, Below.refl _ _⟩
                  go_simp
                · have q26 := hW 26 (by decide)
                  simp only at q26
                  have q29 := hW 29 (by decide)
                  simp only at q29
                  have q37 := hW 37 (by decide)
                  simp only at q37
                  rw [q26, q29, q37]
                  clear hW
                  refine stepAt_value rfl rfl rfl (.bool false) w8 ?_ ⟨rfl, Below.refl _ _⟩
                  go_simp
              case fin =>
                intro vals w12 hG hV
                have q26 := hV 26 (by omega)
                simp only at q26
                have q38 := hV 38 (by omega)
                simp only at q38
                simp only [List.take_succ_cons, List.take_zero, List.drop_succ_cons, List.drop_zero, putAll, Act.put, List.setIfInBounds_toArray, List.set_cons_zero, List.set_cons_succ, Nat.reduceAdd]
                rw [q26, q38]
                clear hV q26 q38
                generalize vals 0 = y0
                generalize vals 1 = y1
                generalize vals 2 = y2
                generalize vals 3 = y3
                generalize vals 4 = y4
                generalize vals 5 = y5
                generalize vals 6 = y6
                generalize vals 7 = y7
                generalize vals 8 = y8
                generalize vals 9 = y9
                generalize vals 10 = y10
                generalize vals 11 = y11
                generalize vals 12 = y12
                generalize vals 13 = y13
                generalize vals 14 = y14
                generalize vals 15 = y15
                generalize vals 16 = y16
                generalize vals 17 = y17
                generalize vals 18 = y18
                generalize vals 19 = y19
                generalize vals 20 = y20
                generalize vals 21 = y21
                generalize vals 22 = y22
                generalize vals 23 = y23
                generalize vals 24 = y24
                generalize vals 25 = y25
                generalize vals 27 = y27
                generalize vals 28 = y28
                generalize vals 29 = y29
                generalize vals 30 = y30
                generalize vals 31 = y31
                generalize vals 32 = y32
                generalize vals 33 = y33
                generalize vals 34 = y34
                generalize vals 35 = y35
                generalize vals 36 = y36
                generalize vals 37 = y37
                replace HT := Lib.hid (HT.out.below hG)
                clear hG
                go_wp2_with fail
                go_roundw
                case rel => exact ⟨j + 1, tb, by omega, by have := HTB.out.1; have := HJA.out; omega, by go_num, Lib.hid HTB.out.2, HT⟩
                case measure => simp [intOf]; omega
            | false =>
              go_wp2_with fail
              refine (counts_any w11 b m g tb c.w HT.out.p).mono ?_
              rintro e w11 ⟨rfl, rfl⟩
              rw [HC2.out]
              go_upto_region 19 with fail
              clear c1 co0 co2
              refine wp_region_free (P := Try.prog) 39 (fun w' => Below w11.heap.size w11 w') (fun oq v w' => match oq with
                  | 0 => v = .int .i64 CO
                  | 1 => v = .bool false
                  | 2 => v = .bool false
                  | 3 => v = undef
                  | 4 => v = undef
                  | 5 => v = undef
                  | 6 => v = undef
                  | 7 => v = undef
                  | 8 => v = undef
                  | 9 => v = undef
                  | 10 => v = undef
                  | 11 => v = undef
                  | 12 => v = undef
                  | 13 => v = undef
                  | 14 => v = undef
                  | 15 => v = undef
                  | 16 => v = undef
                  | 17 => v = undef
                  | 18 => v = undef
                  | 19 => v = undef
                  | 20 => v = undef
                  | 21 => v = undef
                  | 22 => v = undef
                  | 23 => v = undef
                  | 24 => v = undef
                  | 25 => v = .bool false
                  | 26 => v = .bool false
                  | 27 => v = .int .i64 CO
                  | 28 => v = .bool true
                  | 29 => v = .bool true
                  | 30 => v = .agg (vcl VB).toArray
                  | 31 => v = .agg (vcl VB).toArray
                  | 32 => v = .bool false
                  | 33 => v = .bool false
                  | 34 => v = .bool false
                  | 35 => v = .bool false
                  | 36 => v = .bool false
                  | 37 => v = .bool false
                  | 38 => v = .bool false
                  | _ => True) (by kernel_rfl) (by kernel_rfl) (Below.refl _ _).drew ?gb ?vb ?steps ?fin
              case gb => exact fun a b h1 h2 => h1.trans (h2.mono h1.size)
              case vb =>
                intro oq v a b h hb
                match oq with
                | 0 => exact h
                | 1 => exact h
                | 2 => exact h
                | 3 => exact h
                | 4 => exact h
                | 5 => exact h
                | 6 => exact h
                | 7 => exact h
                | 8 => exact h
                | 9 => exact h
                | 10 => exact h
                | 11 => exact h
                | 12 => exact h
                | 13 => exact h
                | 14 => exact h
                | 15 => exact h
                | 16 => exact h
                | 17 => exact h
                | 18 => exact h
                | 19 => exact h
                | 20 => exact h
                | 21 => exact h
                | 22 => exact h
                | 23 => exact h
                | 24 => exact h
                | 25 => exact h
                | 26 => exact h
                | 27 => exact h
                | 28 => exact h
                | 29 => exact h
                | 30 => exact h
                | 31 => exact h
                | 32 => exact h
                | 33 => exact h
                | 34 => exact h
                | 35 => exact h
                | 36 => exact h
                | 37 => exact h
                | 38 => exact h
                | _ + 39 => trivial
              case steps =>
                intro vals
                simp only [List.take_succ_cons, List.take_zero, freeSteps, Act.put, List.setIfInBounds_toArray, List.set_cons_zero, List.set_cons_succ, Nat.reduceAdd]
                refine ⟨fun w8 hG hW => ?_, fun w8 hG hW => ?_, fun w8 hG hW => ?_, fun w8 hG hW => ?_, fun w8 hG hW => ?_, fun w8 hG hW => ?_, fun w8 hG hW => ?_, fun w8 hG hW => ?_, fun w8 hG hW => ?_, fun w8 hG hW => ?_, fun w8 hG hW => ?_, fun w8 hG hW => ?_, fun w8 hG hW => ?_, fun w8 hG hW => ?_, fun w8 hG hW => ?_, fun w8 hG hW => ?_, fun w8 hG hW => ?_, fun w8 hG hW => ?_, fun w8 hG hW => ?_, fun w8 hG hW => ?_, fun w8 hG hW => ?_, fun w8 hG hW => ?_, fun w8 hG hW => ?_, fun w8 hG hW => ?_, fun w8 hG hW => ?_, fun w8 hG hW => ?_, fun w8 hG hW => ?_, fun w8 hG hW => ?_, fun w8 hG hW => ?_, fun w8 hG hW => ?_, fun w8 hG hW => ?_, fun w8 hG hW => ?_, fun w8 hG hW => ?_, fun w8 hG hW => ?_, fun w8 hG hW => ?_, fun w8 hG hW => ?_, fun w8 hG hW => ?_, fun w8 hG hW => ?_, fun w8 hG hW => ?_, trivial⟩
                · clear hW
                  refine stepAt_value rfl rfl rfl (.int .i64 CO) w8 ?_ ⟨rfl, Below.refl _ _⟩
                  go_simp
                · have q0 := hW 0 (by decide)
                  simp only at q0
                  rw [q0]
                  clear hW
                  refine stepAt_value rfl rfl rfl (.bool false) w8 ?_ ⟨rfl, Below.refl _ _⟩
                  have co0 := HC0.out
                  go_simp
                · have q1 := hW 1 (by decide)
                  simp only at q1
                  rw [q1]
                  clear hW
                  refine stepAt_value rfl rfl rfl (.bool false) w8 ?_ ⟨rfl, Below.refl _ _⟩
                  go_simp
                · have q2 := hW 2 (by decide)
                  simp only at q2
                  rw [q2]
                  clear hW
                  exact stepAt_skip rfl rfl rfl ⟨rfl, Below.refl _ _⟩
                · have q2 := hW 2 (by decide)
                  simp only at q2
                  rw [q2]
                  clear hW
                  exact stepAt_skip rfl rfl rfl ⟨rfl, Below.refl _ _⟩
                · have q2 := hW 2 (by decide)
                  simp only at q2
                  rw [q2]
                  clear hW
                  exact stepAt_skip rfl rfl rfl ⟨rfl, Below.refl _ _⟩
                · have q5 := hW 5 (by decide)
                  simp only at q5
                  rw [q5]
                  clear hW
                  exact stepAt_skip rfl rfl rfl ⟨rfl, Below.refl _ _⟩
                · have q5 := hW 5 (by decide)
                  simp only at q5
                  rw [q5]
                  clear hW
                  exact stepAt_skip rfl rfl rfl ⟨rfl, Below.refl _ _⟩
                · have q5 := hW 5 (by decide)
                  simp only at q5
                  rw [q5]
                  clear hW
                  exact stepAt_skip rfl rfl rfl ⟨rfl, Below.refl _ _⟩
                · have q5 := hW 5 (by decide)
                  simp only at q5
                  rw [q5]
                  clear hW
                  exact stepAt_skip rfl rfl rfl ⟨rfl, Below.refl _ _⟩
                · have q2 := hW 2 (by decide)
                  simp only at q2
                  rw [q2]
                  clear hW
                  exact stepAt_skip rfl rfl rfl ⟨rfl, Below.refl _ _⟩
                · have q2 := hW 2 (by decide)
                  simp only at q2
                  rw [q2]
                  clear hW
                  exact stepAt_skip rfl rfl rfl ⟨rfl, Below.refl _ _⟩
                · have q11 := hW 11 (by decide)
                  simp only at q11
                  rw [q11]
                  clear hW
                  exact stepAt_skip rfl rfl rfl ⟨rfl, Below.refl _ _⟩
                · have q11 := hW 11 (by decide)
                  simp only at q11
                  rw [q11]
                  clear hW
                  exact stepAt_skip rfl rfl rfl ⟨rfl, Below.refl _ _⟩
                · have q13 := hW 13 (by decide)
                  simp only at q13
                  rw [q13]
                  clear hW
                  exact stepAt_skip rfl rfl rfl ⟨rfl, Below.refl _ _⟩
                · have q13 := hW 13 (by decide)
                  simp only at q13
                  rw [q13]
                  clear hW
                  exact stepAt_skip rfl rfl rfl ⟨rfl, Below.refl _ _⟩
                · have q13 := hW 13 (by decide)
                  simp only at q13
                  rw [q13]
                  clear hW
                  exact stepAt_skip rfl rfl rfl ⟨rfl, Below.refl _ _⟩
                · have q13 := hW 13 (by decide)
                  simp only at q13
                  rw [q13]
                  clear hW
                  exact stepAt_skip rfl rfl rfl ⟨rfl, Below.refl _ _⟩
                · have q13 := hW 13 (by decide)
                  simp only at q13
                  rw [q13]
                  clear hW
                  exact stepAt_skip rfl rfl rfl ⟨rfl, Below.refl _ _⟩
                · have q13 := hW 13 (by decide)
                  simp only at q13
                  rw [q13]
                  clear hW
                  exact stepAt_skip rfl rfl rfl ⟨rfl, Below.refl _ _⟩
                · have q13 := hW 13 (by decide)
                  simp only at q13
                  rw [q13]
                  clear hW
                  exact stepAt_skip rfl rfl rfl ⟨rfl, Below.refl _ _⟩
                · have q13 := hW 13 (by decide)
                  simp only at q13
                  rw [q13]
                  clear hW
                  exact stepAt_skip rfl rfl rfl ⟨rfl, Below.refl _ _⟩
                · have q13 := hW 13 (by decide)
                  simp only at q13
                  rw [q13]
                  clear hW
                  exact stepAt_skip rfl rfl rfl ⟨rfl, Below.refl _ _⟩
                · have q11 := hW 11 (by decide)
                  simp only at q11
                  rw [q11]
                  clear hW
                  exact stepAt_skip rfl rfl rfl ⟨rfl, Below.refl _ _⟩
                · have q2 := hW 2 (by decide)
                  simp only at q2
                  rw [q2]
                  clear hW
                  exact stepAt_skip rfl rfl rfl ⟨rfl, Below.refl _ _⟩
                · have q2 := hW 2 (by decide)
                  simp only at q2
                  rw [q2]
                  clear hW
                  refine stepAt_value rfl rfl rfl (.bool false) w8 ?_ ⟨rfl, Below.refl _ _⟩
                  go_simp
                · have q25 := hW 25 (by decide)
                  simp only at q25
                  rw [q25]
                  clear hW
                  refine stepAt_value rfl rfl rfl (.bool false) w8 ?_ ⟨rfl, Below.refl _ _⟩
                  go_simp
                · have q26 := hW 26 (by decide)
                  simp only at q26
                  rw [q26]
                  clear hW
                  refine stepAt_value rfl rfl rfl (.int .i64 CO) w8 ?_ ⟨rfl, Below.refl _ _⟩
                  go_simp
                · have q26 := hW 26 (by decide)
                  simp only at q26
                  have q27 := hW 27 (by decide)
                  simp only at q27
                  rw [q26, q27]
                  clear hW
                  refine stepAt_value rfl rfl rfl (.bool true) w8 ?_ ⟨rfl, Below.refl _ _⟩
                  have cn0 := HCN.out
                  go_simp
                · have q26 := hW 26 (by decide)
                  simp only at q26
                  have q28 := hW 28 (by decide)
                  simp only at q28
                  rw [q26, q28]
                  clear hW
                  refine stepAt_value rfl rfl rfl (.bool true) w8 ?_ ⟨rfl, Below.refl _ _⟩
                  go_simp
                · have q29 := hW 29 (by decide)
                  simp only at q29
                  rw [q29]
                  clear hW
                  refine stepAt_load_run rfl rfl rfl _ _ rfl _ _ rfl (run_load_vote HLU.out (HU.out.below hG HU.out.lt).voteAll) ⟨rfl, Below.refl _ _⟩
                · have q29 := hW 29 (by decide)
                  simp only at q29
                  rw [q29]
                  clear hW
                  refine stepAt_load_run rfl rfl rfl _ _ rfl _ _ rfl (run_load_vote HLU.out (HY.out.below hG HY.out.lt).voteAll) ⟨rfl, Below.refl _ _⟩
                · have q29 := hW 29 (by decide)
                  simp only at q29
                  have q30 := hW 30 (by decide)
                  simp only at q30
                  have q31 := hW 31 (by decide)
                  simp only at q31
                  rw [q29, q30, q31]
                  clear hW
                  refine stepAt_neq_vt rfl rfl rfl (.tmp 111) (.tmp 112) 29 rfl VB VB rfl rfl HLU.out HLU.out ⟨?_, Below.refl _ _⟩
                  rw [eqV_self]
                  rfl
                · have q29 := hW 29 (by decide)
                  simp only at q29
                  have q32 := hW 32 (by decide)
                  simp only at q32
                  rw [q29, q32]
                  clear hW
                  refine stepAt_value rfl rfl rfl (.bool false) w8 ?_ ⟨rfl, Below.refl _ _⟩
                  go_simp
                · have q33 := hW 33 (by decide)
                  simp only at q33
                  rw [q33]
                  clear hW
                  refine stepAt_value rfl rfl rfl (.bool false) w8 ?_ ⟨rfl, Below.refl _ _⟩
                  go_simp
                · have q33 := hW 33 (by decide)
                  simp only at q33
                  rw [q33]
                  clear hW
                  refine stepAt_value rfl rfl rfl (.bool false) w8 ?_ ⟨rfl, Below.refl _ _⟩
                  go_simp
                · have q33 := hW 33 (by decide)
                  simp only at q33
                  have q34 := hW 34 (by decide)
                  simp only at q34
                  have q35 := hW 35 (by decide)
                  simp only at q35
                  rw [q33, q34, q35]
                  clear hW
                  refine stepAt_value rfl rfl rfl (.bool false) w8 ?_ ⟨rfl, Below.refl _ _⟩
                  go_simp
                · have q29 := hW 29 (by decide)
                  simp only at q29
                  have q33 := hW 33 (by decide)
                  simp only at q33
                  have q36 := hW 36 (by decide)
                  simp only at q36
                  rw [q29, q33, q36]
                  clear hW
                  refine stepAt_value rfl rfl rfl (.bool false) w8 ?_ ⟨rfl, Below.refl _ _⟩
                  go_simp
                · have q26 := hW 26 (by decide)
                  simp only at q26
                  have q29 := hW 29 (by decide)
                  simp only at q29
                  have q37 := hW 37 (by decide)
                  simp only at q37
                  rw [q26, q29, q37]
                  clear hW
                  refine stepAt_value rfl rfl rfl (.bool false) w8 ?_ ⟨rfl, Below.refl _ _⟩
                  go_simp
              case fin =>
                intro vals w12 hG hV
                have q26 := hV 26 (by omega)
                simp only at q26
                have q38 := hV 38 (by omega)
                simp only at q38
                simp only [List.take_succ_cons, List.take_zero, List.drop_succ_cons, List.drop_zero, putAll, Act.put, List.setIfInBounds_toArray, List.set_cons_zero, List.set_cons_succ, Nat.reduceAdd]
                rw [q26, q38]
                clear hV q26 q38
                generalize vals 0 = y0
                generalize vals 1 = y1
                generalize vals 2 = y2
                generalize vals 3 = y3
                generalize vals 4 = y4
                generalize vals 5 = y5
                generalize vals 6 = y6
                generalize vals 7 = y7
                generalize vals 8 = y8
                generalize vals 9 = y9
                generalize vals 10 = y10
                generalize vals 11 = y11
                generalize vals 12 = y12
                generalize vals 13 = y13
                generalize vals 14 = y14
                generalize vals 15 = y15
                generalize vals 16 = y16
                generalize vals 17 = y17
                generalize vals 18 = y18
                generalize vals 19 = y19
                generalize vals 20 = y20
                generalize vals 21 = y21
                generalize vals 22 = y22
                generalize vals 23 = y23
                generalize vals 24 = y24
                generalize vals 25 = y25
                generalize vals 27 = y27
                generalize vals 28 = y28
                generalize vals 29 = y29
                generalize vals 30 = y30
                generalize vals 31 = y31
                generalize vals 32 = y32
                generalize vals 33 = y33
                generalize vals 34 = y34
                generalize vals 35 = y35
                generalize vals 36 = y36
                generalize vals 37 = y37
                replace HT := Lib.hid (HT.out.below hG)
                clear hG
                go_wp2_with fail
                go_roundw
                case rel => exact ⟨j + 1, tb, by omega, by have := HTB.out.1; have := HJA.out; omega, by go_num, Lib.hid HTB.out.2, HT⟩
                case measure => simp [intOf]; omega
    · obtain rfl : j = len := by omega
      go_wp2_with fail
      go_ret
      exact ⟨rfl, HT.out.bl⟩
end Go.Proofs.Ytoinigcfcjllcaa
