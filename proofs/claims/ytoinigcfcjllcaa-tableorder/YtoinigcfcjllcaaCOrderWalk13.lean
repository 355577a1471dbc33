/-
  The texts OrderWalk13, one behind the other.
-/
import Derived.Test.YtoinigcfcjllcaaOrderM9
import Derived.Test.YtoinigcfcjllcaaCOpenCalls
/-
  The walk of TableOrder.
-/
namespace Go.Proofs.Ytoinigcfcjllcaa
open Go Go.RowKit
set_option maxRecDepth 10000

theorem pick_at (a : Int) (n : Nat) (h0 : 0 < n) (hn : n ≤ 1000) : ∃ J : Nat, wrap64 ((IntKind.u64.wrap a).tmod (n : Int)) = (J : Int) ∧ J < n := by
  have hu : 0 ≤ IntKind.u64.wrap a := by simp [IntKind.wrap, IntKind.bits, IntKind.signed]; omega
  have h1 : 0 ≤ (IntKind.u64.wrap a) % (n : Int) := Int.emod_nonneg _ (by omega)
  have h2 : (IntKind.u64.wrap a) % (n : Int) < (n : Int) := Int.emod_lt_of_pos _ (by omega)
  refine ⟨((IntKind.u64.wrap a) % (n : Int)).toNat, ?_, by omega⟩
  rw [Int.tmod_eq_emod_of_nonneg hu]
  unfold wrap64
  omega
set_option maxHeartbeats 16000000 in
theorem order_any (w : World) (n k : Int) (ao : Option Addr) (len cap cb off : Nat) (l : List Cl) (a : Int) (hl : l.length = len) (h : Lies w w.heap.size ao cb off (ccls l)) :
    Calls Try.prog 4 #[.int .i64 n, .int .i64 k, .slice ao len cap, .int .i64 a] w fun e w' => e = .returned (.bool true) ∧ Below w.heap.size w w' := by
  have HS := Lib.hid h
  clear h
  go_enter Try.func4, Try.ntmps4
  go_wp2_with fail
  refine (alive_any w).mono ?_
  rintro e w1 ⟨rfl, hb1⟩
  have HB := Lib.hid hb1
  clear hb1
  by_cases hbig : (200 : Int) < (len : Int)
  · go_wp2_with fail
    go_ret
    exact ⟨rfl, HB.out⟩
  by_cases hz : (len : Int) = 0
  · go_wp2_with fail
    go_ret
    exact ⟨rfl, HB.out⟩
  have hlen0 : ((len : Int) == 0) = false := beq_eq_false_iff_ne.2 hz
  have hlen1 : ¬ len = 0 := by omega
  go_wp2_with fail
  refine (new_any w1 n k).mono ?_
  rintro e w2 (⟨hn, rfl, rfl⟩ | ⟨n1, n2, k1, k2, b1, m1, t1, rfl, hT, hH, hb2⟩)
  · have HNO := Lib.hid hn
    go_wp2_with fail
    refine (new_any _ n k).mono ?_
    rintro e w3 (⟨hn2, rfl, rfl⟩ | ⟨n1, n2, k1, k2, b1, m1, t1, rfl, hT, hH, hb2⟩)
    · clear hn hn2
      by_cases g1 : n < 1
      · go_wp2_with fail
        go_ret
        exact ⟨rfl, HB.out⟩
      by_cases g2 : (64 : Int) < n
      · go_wp2_with fail
        go_ret
        exact ⟨rfl, HB.out⟩
      by_cases g3 : k < 1
      · go_wp2_with fail
        go_ret
        exact ⟨rfl, HB.out⟩
      have g4 : (32 : Int) < k := by have := HNO.out; omega
      go_wp2_with fail
      go_ret
      exact ⟨rfl, HB.out⟩
    · exact absurd ⟨n1, n2, k1, k2⟩ hn
  · have HNK := Lib.hid (show 1 ≤ n ∧ n ≤ 64 ∧ 1 ≤ k ∧ k ≤ 32 from ⟨n1, n2, k1, k2⟩)
    obtain ⟨N, rfl⟩ : ∃ N : Nat, n = (N : Int) := ⟨n.toNat, by omega⟩
    obtain ⟨K, rfl⟩ : ∃ K : Nat, k = (K : Int) := ⟨k.toNat, by omega⟩
    rw [Int.toNat_natCast, Int.toNat_natCast] at hT
    have HT1 := Lib.hid hT
    have HH1 := Lib.hid hH
    have HB2 := Lib.hid (HB.out.trans (hb2.mono HB.out.size))
    clear hT hH hb2 n1 n2 k1 k2
    go_wp2_with fail
    refine (new_any w2 (N : Int) (K : Int)).mono ?_
    rintro e w3 (⟨hn2, rfl, rfl⟩ | ⟨_, _, _, _, b2, m2, t2, rfl, hT, hH, hb3⟩)
    · exact absurd HNK.out hn2
    rw [Int.toNat_natCast, Int.toNat_natCast] at hT
    have HT := Lib.hid (T2.new (w0 := w) HB2.out HT1.out (HH1.out.mono HB.out.size) hT hH hb3)
    clear HT1 HH1 HB HB2 hT hH hb3 hlen0 hlen1
    obtain ⟨Q, hQ, hQl⟩ := pick_at a len (by omega) (by omega)
    have hu : IntKind.u64.wrap (len : Int) = (len : Int) := by rw [IntKind.wrap_u64]; omega
    have HML := Lib.hid (show (l.map ctv).length = len by rw [List.length_map, hl])
    have HQL := Lib.hid hQl
    go_wp2_with fail
    rw [hQ]
    clear hQ hu
    go_loopw [65] (fun i wr => ∃ (j : Nat), j ≤ len ∧ i = .int .i64 j ∧ Hid (T2 w b1 m1 t1 b2 m2 t2 (foldT (newT N K) ((l.map ctv).take j)) (foldT (newT N K) ((turnL (l.map ctv) Q).take j)) wr)) (fun i _ => len - (intOf i).toNat)
    case atStart => exact ⟨0, Nat.zero_le _, rfl, HT⟩
    case round =>
      clear HT
      obtain ⟨j, hj, rfl, HT⟩ := hrel
      by_cases hlt : j < len
      · obtain ⟨c, hc⟩ : ∃ c, l[j]? = some c := ⟨_, List.getElem?_eq_getElem (by omega)⟩
        obtain ⟨r, hr⟩ : ∃ r, r = (j + Q) % len := ⟨_, rfl⟩
        have hrl : r < len := by rw [hr]; exact Nat.mod_lt _ (by omega)
        obtain ⟨p, hp⟩ : ∃ p, p = len - 1 - r := ⟨_, rfl⟩
        have hpl : p < len := by omega
        obtain ⟨d, hd⟩ : ∃ d, l[p]? = some d := ⟨_, List.getElem?_eq_getElem (by omega)⟩
        have HV1 := Lib.hid (show (l.map ctv)[j]? = some (ctv c) by rw [List.getElem?_map, hc]; rfl)
        have HV2 := Lib.hid (show (turnL (l.map ctv) Q)[j]? = some (ctv d) from turn_at (by rw [HML.out]; exact hlt) (by rw [HML.out, ← hr, ← hp, List.getElem?_map, hd]; rfl))
        obtain ⟨hao, hcc⟩ := (HS.out.keep HT.out.bl).call hc
        obtain ⟨_, hcd⟩ := (HS.out.keep HT.out.bl).call hd
        subst hao
        have HCC := Lib.hid hcc
        have HCD := Lib.hid (show ∀ w8, Below w.heap.size w w8 → ∀ q x, (ccl d)[q]? = some x → w8.cell? ⟨cb, off + p * 4 + q, none⟩ = some x from fun w8 hb => ((HS.out.keep hb).call hd).2)
        have hjl : (j : Int) < (len : Int) := by omega
        have hpl' : (p : Int) < (len : Int) := by omega
        have HPI := Lib.hid (show (wrap64 ((len : Int) - 1 - ((j : Int) + (Q : Int)) % (len : Int))).toNat = p by
          have h1 : ((j : Int) + (Q : Int)) % (len : Int) = (((j + Q) % len : Nat) : Int) := by simp
          rw [h1, ← hr]
          unfold wrap64
          omega)
        have HPB := Lib.hid (show 0 ≤ wrap64 ((len : Int) - 1 - ((j : Int) + (Q : Int)) % (len : Int)) ∧ wrap64 ((len : Int) - 1 - ((j : Int) + (Q : Int)) % (len : Int)) < (len : Int) by
          have h1 : ((j : Int) + (Q : Int)) % (len : Int) = (((j + Q) % len : Nat) : Int) := by simp
          rw [h1, ← hr]
          unfold wrap64
          omega)
        have HF1 := Lib.hid (show (foldT (newT N K) ((l.map ctv).take j)).fs.length ≤ 1000 by have h1 := fold_fs (newT N K) ((l.map ctv).take j); rw [List.length_take] at h1; have : (newT N K).fs.length = 0 := rfl; omega)
        have HF2 := Lib.hid (show (foldT (newT N K) ((turnL (l.map ctv) Q).take j)).fs.length ≤ 1000 by have h1 := fold_fs (newT N K) ((turnL (l.map ctv) Q).take j); rw [List.length_take] at h1; have : (newT N K).fs.length = 0 := rfl; omega)
        clear hc hd hcc hcd hr hp hrl
        go_wp2_with ((with_reducible refine wpList_load_call (.tmp 71) ?_ ?_ cb (off + j * 4) c ?_ HCC.out ?_); rfl; rfl; rfl)
        refine (cvote_any wr c).mono ?_
        rintro e w4 ⟨rfl, hbc⟩
        replace HT := Lib.hid (HT.out.below hbc)
        clear hbc
        go_wp2_with fail
        refine (take_any w4 b1 m1 t1 _ (ctv c) HT.out.p (ctv_len c) HF1.out).mono ?_
        rintro e w5 ⟨rfl, hT, hk⟩
        rw [← fold_next HV1.out] at hT
        replace HT := Lib.hid (HT.out.setp hT hk)
        clear hT hk
        have HCE := Lib.hid (show ∀ q x, (ccl d)[q]? = some x → w5.cell? ⟨cb, off + (wrap64 ((len : Int) - 1 - ((j : Int) + (Q : Int)) % (len : Int))).toNat * 4 + q, none⟩ = some x by rw [HPI.out]; exact HCD.out w5 HT.out.bl)
        have hpb1 := HPB.out.1
        have hpb2 := HPB.out.2
        go_wp2_with ((with_reducible refine wpList_load_call (.tmp 85) ?_ ?_ cb (off + (wrap64 ((len : Int) - 1 - ((j : Int) + (Q : Int)) % (len : Int))).toNat * 4) d ?_ HCE.out ?_); rfl; rfl; rfl)
        refine (cvote_any w5 d).mono ?_
        rintro e w6 ⟨rfl, hbc⟩
        replace HT := Lib.hid (HT.out.below hbc)
        clear hbc hpb1 hpb2
        go_wp2_with fail
        refine (take_any w6 b2 m2 t2 _ (ctv d) HT.out.q (ctv_len d) HF2.out).mono ?_
        rintro e w7 ⟨rfl, hT, hk⟩
        rw [← fold_next HV2.out] at hT
        replace HT := Lib.hid (HT.out.setq hT hk)
        clear hT hk
        go_wp2_with fail
        go_roundw
        case rel => exact ⟨j + 1, by omega, by go_num, HT⟩
        case measure => simp [intOf]; omega
      · obtain rfl : j = len := by omega
        have HE1 := Lib.hid (show (l.map ctv).take j = l.map ctv from List.take_of_length_le (by rw [HML.out]; exact Nat.le_refl _))
        have HE2 := Lib.hid (show (turnL (l.map ctv) Q).take j = turnL (l.map ctv) Q from List.take_of_length_le (by rw [turn_length, HML.out]; exact Nat.le_refl _))
        rw [HE1.out, HE2.out] at HT
        obtain ⟨w4, hw4⟩ : ∃ w4, w4 = wr := ⟨_, rfl⟩
        rw [← hw4] at HT ⊢
        clear hw4 hlt HE1 HE2
        obtain ⟨ta, hta⟩ : ∃ ta, ta = foldT (newT N K) (l.map ctv) := ⟨_, rfl⟩
        obtain ⟨tb, htb⟩ : ∃ tb, tb = foldT (newT N K) (turnL (l.map ctv) Q) := ⟨_, rfl⟩
        have HNN := Lib.hid (show ta.n = N ∧ tb.n = N by rw [hta, htb, (fold_nk _ _).1, (fold_nk _ _).1]; exact ⟨rfl, rfl⟩)
        have HAG := Lib.hid (show ∀ x : Nat, otN ta x = otN tb x ∧ hsN ta x = hsN tb x ∧ (otN ta x = false → hsN ta x = true → ep K (ltN ta x).s = ep K (ltN tb x).s ∧ (ltN ta x).g = (ltN tb x).g) from fun x => by
          have := order_agree (n := N) (k := K) (by have := HNK.out; omega) (by have := HNK.out; omega) (by have := HNK.out; omega) (by have := HNK.out; omega) (w := (x : Int)) (by omega) (turn_mem (L := l.map ctv) (K := Q) (by rw [HML.out]; exact HQL.out))
          rw [← hta, ← htb] at this
          exact this)
        have HK1 := Lib.hid (show 1 ≤ K ∧ K ≤ 32 ∧ N ≤ 64 by have := HNK.out; omega)
        rw [← hta, ← htb] at HT
        clear hta htb HNK
        obtain ⟨wS, hwS⟩ : ∃ wS, wS = w4 := ⟨_, rfl⟩
        rw [← hwS] at HT ⊢
        clear hwS
        go_wp2_with fail
        go_loopw [14] (fun i wr => ∃ (x : Nat), x ≤ N ∧ i = .int .i64 x ∧ Hid (Below wS.heap.size wS wr)) (fun i _ => N - (intOf i).toNat)
        case atStart => exact ⟨0, Nat.zero_le _, rfl, Lib.hid (Below.refl _ _)⟩
        case round =>
          obtain ⟨x, hx, rfl, HBL⟩ := hrel
          have HTr := Lib.hid (HT.out.below HBL.out)
          by_cases hlt : x < N
          · have hlx : (x : Int) < (N : Int) := by omega
            have HIS := Lib.hid (show isW ta (x : Int) = true ∧ isW tb (x : Int) = true by unfold isW; rw [HNN.out.1, HNN.out.2]; exact ⟨decide_eq_true (by omega), decide_eq_true (by omega)⟩)
            have HVA := Lib.hid (show voteA ta (x : Int) = ltN ta x ∧ hasA ta (x : Int) = hsN ta x ∧ cntA ta (x : Int) = !otN ta x by unfold voteA hasA cntA; rw [HIS.out.1]; exact ⟨rfl, rfl, rfl⟩)
            have HVB := Lib.hid (show voteA tb (x : Int) = ltN tb x ∧ hasA tb (x : Int) = hsN tb x ∧ cntA tb (x : Int) = !otN tb x by unfold voteA hasA cntA; rw [HIS.out.2]; exact ⟨rfl, rfl, rfl⟩)
            have HLX := Lib.hid (HTr.out.p.fit.l x).1
            have HLY := Lib.hid (HTr.out.q.fit.l x).1
            have HSX := Lib.hid (HTr.out.p.fit.l x).2
            have HSY := Lib.hid (HTr.out.q.fit.l x).2
            have HXX := Lib.hid (HAG.out x)
            clear HT
            have HT := HTr
            clear HTr
            go_wp2_with fail
            refine (vote_any wr b1 m1 t1 ta (x : Int) HT.out.p).mono ?_
            rintro e w5 ⟨rfl, hbc⟩
            replace HT := Lib.hid (HT.out.below hbc)
            replace HBL := Lib.hid (HBL.out.trans (hbc.mono HBL.out.size))
            clear hbc
            rw [HVA.out.1, HVA.out.2.1]
            have HZ := Lib.hid (zero_voteC w5)
            have hbc : Below w5.heap.size w5 ((w5.alloc (.cells #[.int .i64 0, .int .i64 0, .int .u8 0, .int .u8 0, .int .u8 0, .int .u8 0, .int .u8 0, .int .u8 0, .int .u8 0, .int .u8 0, .int .u8 0, .int .u8 0, .int .u8 0, .int .u8 0, .int .u8 0, .int .u8 0, .int .u8 0, .int .u8 0, .int .u8 0, .int .u8 0, .int .u8 0, .int .u8 0, .int .u8 0, .int .u8 0, .int .u8 0, .int .u8 0, .int .u8 0, .int .u8 0, .int .u8 0, .int .u8 0, .int .u8 0, .int .u8 0, .int .u8 0, .int .u8 0] 29)).setRow w5.heap.size (vcl (ltN ta x)).toArray) := below_row ((Below.refl _ w5).alloc (Nat.le_refl _) _) (Nat.le_refl _) _
            have HX := Lib.hid (HZ.out.setRow (vcl (ltN ta x)))
            go_upto_region 20 with ((with_reducible refine wpList_store_vote (.tmp 15) (.tmp 99) ?_ ?_ w5.heap.size vt0 (ltN ta x) ?_ ?_ HZ.out vt0_len HLX.out ?_); rfl; rfl; rfl; rfl)
            try simp only [Act.put]
            replace HT := Lib.hid (HT.out.below hbc)
            replace HBL := Lib.hid (HBL.out.trans (hbc.mono HBL.out.size))
            obtain ⟨X, hX⟩ : ∃ X, X = w5.heap.size := ⟨_, rfl⟩
            rw [← hX] at HX HT HBL ⊢
            generalize (w5.alloc (.cells #[.int .i64 0, .int .i64 0, .int .u8 0, .int .u8 0, .int .u8 0, .int .u8 0, .int .u8 0, .int .u8 0, .int .u8 0, .int .u8 0, .int .u8 0, .int .u8 0, .int .u8 0, .int .u8 0, .int .u8 0, .int .u8 0, .int .u8 0, .int .u8 0, .int .u8 0, .int .u8 0, .int .u8 0, .int .u8 0, .int .u8 0, .int .u8 0, .int .u8 0, .int .u8 0, .int .u8 0, .int .u8 0, .int .u8 0, .int .u8 0, .int .u8 0, .int .u8 0, .int .u8 0, .int .u8 0] 29)).setRow X (vcl (ltN ta x)).toArray = w6 at HX HT HBL ⊢
            clear hbc HZ hX
            go_wp2_with fail
            refine (vote_any w6 b2 m2 t2 tb (x : Int) HT.out.q).mono ?_
            rintro e w7 ⟨rfl, hbc⟩
            replace HT := Lib.hid (HT.out.below hbc)
            replace HX := Lib.hid (HX.out.below hbc HX.out.lt)
            replace HBL := Lib.hid (HBL.out.trans (hbc.mono HBL.out.size))
            clear hbc
            rw [HVB.out.1, HVB.out.2.1]
            have HZ := Lib.hid (zero_voteC w7)
            have hbc : Below w7.heap.size w7 ((w7.alloc (.cells #[.int .i64 0, .int .i64 0, .int .u8 0, .int .u8 0, .int .u8 0, .int .u8 0, .int .u8 0, .int .u8 0, .int .u8 0, .int .u8 0, .int .u8 0, .int .u8 0, .int .u8 0, .int .u8 0, .int .u8 0, .int .u8 0, .int .u8 0, .int .u8 0, .int .u8 0, .int .u8 0, .int .u8 0, .int .u8 0, .int .u8 0, .int .u8 0, .int .u8 0, .int .u8 0, .int .u8 0, .int .u8 0, .int .u8 0, .int .u8 0, .int .u8 0, .int .u8 0, .int .u8 0, .int .u8 0] 29)).setRow w7.heap.size (vcl (ltN tb x)).toArray) := below_row ((Below.refl _ w7).alloc (Nat.le_refl _) _) (Nat.le_refl _) _
            have HY := Lib.hid (HZ.out.setRow (vcl (ltN tb x)))
            go_upto_region 21 with ((with_reducible refine wpList_store_vote (.tmp 17) (.tmp 105) ?_ ?_ w7.heap.size vt0 (ltN tb x) ?_ ?_ HZ.out vt0_len HLY.out ?_); rfl; rfl; rfl; rfl)
            try simp only [Act.put]
            replace HT := Lib.hid (HT.out.below hbc)
            replace HX := Lib.hid (HX.out.below hbc HX.out.lt)
            replace HBL := Lib.hid (HBL.out.trans (hbc.mono HBL.out.size))
            obtain ⟨Y, hX⟩ : ∃ Y, Y = w7.heap.size := ⟨_, rfl⟩
            rw [← hX] at HY HT HX HBL ⊢
            generalize (w7.alloc (.cells #[.int .i64 0, .int .i64 0, .int .u8 0, .int .u8 0, .int .u8 0, .int .u8 0, .int .u8 0, .int .u8 0, .int .u8 0, .int .u8 0, .int .u8 0, .int .u8 0, .int .u8 0, .int .u8 0, .int .u8 0, .int .u8 0, .int .u8 0, .int .u8 0, .int .u8 0, .int .u8 0, .int .u8 0, .int .u8 0, .int .u8 0, .int .u8 0, .int .u8 0, .int .u8 0, .int .u8 0, .int .u8 0, .int .u8 0, .int .u8 0, .int .u8 0, .int .u8 0, .int .u8 0, .int .u8 0] 29)).setRow Y (vcl (ltN tb x)).toArray = w8 at HY HT HX HBL ⊢
            clear hbc HZ hX
            go_wp2_with fail
            refine (counts_any w8 b1 m1 t1 ta (x : Int) HT.out.p).mono ?_
            rintro e w8 ⟨rfl, rfl⟩
            go_wp2_with fail
            refine (counts_any w8 b2 m2 t2 tb (x : Int) HT.out.q).mono ?_
            rintro e w8 ⟨rfl, rfl⟩
            rw [HVA.out.2.2, HVB.out.2.2, ← HXX.out.1, ← HXX.out.2.1]
            obtain ⟨O, hO⟩ : ∃ O, O = otN ta x := ⟨_, rfl⟩
            obtain ⟨H, hH⟩ : ∃ H, H = hsN ta x := ⟨_, rfl⟩
            have HCO := Lib.hid (show cntA ta (x : Int) = !O by rw [HVA.out.2.2, hO])
            have HAE := Lib.hid (show O = false → H = true → ep K (ltN ta x).s = ep K (ltN tb x).s ∧ (ltN ta x).g = (ltN tb x).g by rw [hO, hH]; exact HXX.out.2.2)
            rw [← hO, ← hH]
            clear hO hH
            cases O with
            | true =>
              cases H with
              | true =>
                go_upto_region 23 with fail
                refine wp_region_free (P := Try.prog) 23 (fun w' => Below w8.heap.size w8 w') (fun oq v w' => match oq with
                    | 0 => v = .pointer (some ⟨b1, 0, none⟩)
                    | 1 => v = .int .i64 (x : Int)
                    | 2 => v = .bool false
                    | 3 => v = .bool false
                    | 4 => v = undef
                    | 5 => v = .bool false
                    | 6 => v = .bool false
                    | 7 => v = undef
                    | 8 => v = undef
                    | 9 => v = undef
                    | 10 => v = undef
                    | 11 => v = undef
                    | 12 => v = undef
                    | 13 => v = undef
                    | 14 => v = undef
                    | 15 => v = undef
                    | 16 => v = undef
                    | 17 => v = undef
                    | 18 => v = undef
                    | 19 => v = undef
                    | 20 => v = undef
                    | 21 => v = undef
                    | 22 => v = undef
                    | _ => True) (by kernel_rfl) (by kernel_rfl) (Below.refl _ _).drew ?gb ?vb ?steps ?fin
                case gb => exact fun a b h1 h2 => h1.trans (h2.mono h1.size)
                case vb =>
                  intro oq v a b h hb
                  match oq with
                  | 0 => exact h
                  | 1 => exact h
                  | 2 => exact h
                  | 3 => exact h
                  | 4 => exact h
                  | 5 => exact h
                  | 6 => exact h
                  | 7 => exact h
                  | 8 => exact h
                  | 9 => exact h
                  | 10 => exact h
                  | 11 => exact h
                  | 12 => exact h
                  | 13 => exact h
                  | 14 => exact h
                  | 15 => exact h
                  | 16 => exact h
                  | 17 => exact h
                  | 18 => exact h
                  | 19 => exact h
                  | 20 => exact h
                  | 21 => exact h
                  | 22 => exact h
                  | _ + 23 => trivial
                case steps =>
                  intro vals
                  simp only [List.take_succ_cons, List.take_zero, freeSteps, Act.put, List.setIfInBounds_toArray, List.set_cons_zero, List.set_cons_succ, Nat.reduceAdd]
                  refine ⟨fun w8 hG hW => ?_, fun w8 hG hW => ?_, fun w8 hG hW => ?_, fun w8 hG hW => ?_, fun w8 hG hW => ?_, fun w8 hG hW => ?_, fun w8 hG hW => ?_, fun w8 hG hW => ?_, fun w8 hG hW => ?_, fun w8 hG hW => ?_, fun w8 hG hW => ?_, fun w8 hG hW => ?_, fun w8 hG hW => ?_, fun w8 hG hW => ?_, fun w8 hG hW => ?_, fun w8 hG hW => ?_, fun w8 hG hW => ?_, fun w8 hG hW => ?_, fun w8 hG hW => ?_, fun w8 hG hW => ?_, fun w8 hG hW => ?_, fun w8 hG hW => ?_, fun w8 hG hW => ?_, trivial⟩
                  · clear hW
                    refine stepAt_value rfl rfl rfl (.pointer (some ⟨b1, 0, none⟩)) w8 ?_ ⟨rfl, Below.refl _ _⟩
                    go_simp
                  · clear hW
                    refine stepAt_value rfl rfl rfl (.int .i64 (x : Int)) w8 ?_ ⟨rfl, Below.refl _ _⟩
                    go_simp
                  · have q0 := hW 0 (by decide)
                    simp only at q0
                    have q1 := hW 1 (by decide)
                    simp only at q1
                    rw [q0, q1]
                    clear hW
                    refine stepAt_call rfl rfl rfl 14 #[.pointer (some ⟨b1, 0, none⟩), .int .i64 (x : Int)] (by go_simp) ((counts_any w8 b1 m1 t1 ta (x : Int) (HT.out.below hG).p).mono fun e w' ⟨h1, h2⟩ => ⟨_, h1.trans (by rw [HCO.out]; rfl), rfl, by rw [h2]; exact Below.refl _ _⟩)
                  · have q2 := hW 2 (by decide)
                    simp only at q2
                    rw [q2]
                    clear hW
                    refine stepAt_value rfl rfl rfl (.bool false) w8 ?_ ⟨rfl, Below.refl _ _⟩
                    go_simp
                  · have q3 := hW 3 (by decide)
                    simp only at q3
                    rw [q3]
                    clear hW
                    exact stepAt_skip rfl rfl rfl ⟨rfl, Below.refl _ _⟩
                  · have q3 := hW 3 (by decide)
                    simp only at q3
                    rw [q3]
                    clear hW
                    refine stepAt_value rfl rfl rfl (.bool false) w8 ?_ ⟨rfl, Below.refl _ _⟩
                    go_simp
                  · have q5 := hW 5 (by decide)
                    simp only at q5
                    rw [q5]
                    clear hW
                    refine stepAt_value rfl rfl rfl (.bool false) w8 ?_ ⟨rfl, Below.refl _ _⟩
                    go_simp
                  · have q6 := hW 6 (by decide)
                    simp only at q6
                    rw [q6]
                    clear hW
                    exact stepAt_skip rfl rfl rfl ⟨rfl, Below.refl _ _⟩
                  · have q6 := hW 6 (by decide)
                    simp only at q6
                    rw [q6]
                    clear hW
                    exact stepAt_skip rfl rfl rfl ⟨rfl, Below.refl _ _⟩
                  · have q6 := hW 6 (by decide)
                    simp only at q6
                    rw [q6]
                    clear hW
                    exact stepAt_skip rfl rfl rfl ⟨rfl, Below.refl _ _⟩
                  · have q6 := hW 6 (by decide)
                    simp only at q6
                    rw [q6]
                    clear hW
                    exact stepAt_skip rfl rfl rfl ⟨rfl, Below.refl _ _⟩
                  · have q6 := hW 6 (by decide)
                    simp only at q6
                    rw [q6]
                    clear hW
                    exact stepAt_skip rfl rfl rfl ⟨rfl, Below.refl _ _⟩
                  · have q6 := hW 6 (by decide)
                    simp only at q6
                    rw [q6]
                    clear hW
                    exact stepAt_skip rfl rfl rfl ⟨rfl, Below.refl _ _⟩
                  · have q6 := hW 6 (by decide)
                    simp only at q6
                    rw [q6]
                    clear hW
                    exact stepAt_skip rfl rfl rfl ⟨rfl, Below.refl _ _⟩
                  · have q6 := hW 6 (by decide)
                    simp only at q6
                    rw [q6]
                    clear hW
                    exact stepAt_skip rfl rfl rfl ⟨rfl, Below.refl _ _⟩
                  · have q6 := hW 6 (by decide)
                    simp only at q6
                    rw [q6]
                    clear hW
                    exact stepAt_skip rfl rfl rfl ⟨rfl, Below.refl _ _⟩
                  · have q6 := hW 6 (by decide)
                    simp only at q6
                    rw [q6]
                    clear hW
                    exact stepAt_skip rfl rfl rfl ⟨rfl, Below.refl _ _⟩
                  · have q16 := hW 16 (by decide)
                    simp only at q16
                    rw [q16]
                    clear hW
                    exact stepAt_skip rfl rfl rfl ⟨rfl, Below.refl _ _⟩
                  · have q16 := hW 16 (by decide)
                    simp only at q16
                    rw [q16]
                    clear hW
                    exact stepAt_skip rfl rfl rfl ⟨rfl, Below.refl _ _⟩
                  · have q16 := hW 16 (by decide)
                    simp only at q16
                    rw [q16]
                    clear hW
                    exact stepAt_skip rfl rfl rfl ⟨rfl, Below.refl _ _⟩
                  · have q16 := hW 16 (by decide)
                    simp only at q16
                    rw [q16]
                    clear hW
                    exact stepAt_skip rfl rfl rfl ⟨rfl, Below.refl _ _⟩
                  · have q16 := hW 16 (by decide)
                    simp only at q16
                    rw [q16]
                    clear hW
                    exact stepAt_skip rfl rfl rfl ⟨rfl, Below.refl _ _⟩
                  · have q6 := hW 6 (by decide)
                    simp only at q6
                    rw [q6]
                    clear hW
                    exact stepAt_skip rfl rfl rfl ⟨rfl, Below.refl _ _⟩
                case fin =>
                  intro vals w9 hG hV
                  have q6 := hV 6 (by omega)
                  simp only at q6
                  have q22 := hV 22 (by omega)
                  simp only at q22
                  simp only [List.take_succ_cons, List.take_zero, List.drop_succ_cons, List.drop_zero, putAll, Act.put, List.setIfInBounds_toArray, List.set_cons_zero, List.set_cons_succ, Nat.reduceAdd]
                  rw [q6, q22]
                  clear hV q6 q22
                  generalize vals 0 = y0
                  generalize vals 1 = y1
                  generalize vals 2 = y2
                  generalize vals 3 = y3
                  generalize vals 4 = y4
                  generalize vals 5 = y5
                  generalize vals 7 = y7
                  generalize vals 8 = y8
                  generalize vals 9 = y9
                  generalize vals 10 = y10
                  generalize vals 11 = y11
                  generalize vals 12 = y12
                  generalize vals 13 = y13
                  generalize vals 14 = y14
                  generalize vals 15 = y15
                  generalize vals 16 = y16
                  generalize vals 17 = y17
                  generalize vals 18 = y18
                  generalize vals 19 = y19
                  generalize vals 20 = y20
                  generalize vals 21 = y21
                  replace HT := Lib.hid (HT.out.below hG)
                  replace HX := Lib.hid (HX.out.below hG HX.out.lt)
                  replace HY := Lib.hid (HY.out.below hG HY.out.lt)
                  replace HBL := Lib.hid (HBL.out.trans (hG.mono HBL.out.size))
                  clear hG
                  go_wp2_with fail
                  go_roundw
                  case rel => exact ⟨x + 1, by omega, by go_num, HBL⟩
                  case measure => simp [intOf]; omega
              | false =>
                go_upto_region 23 with fail
                refine wp_region_free (P := Try.prog) 23 (fun w' => Below w8.heap.size w8 w') (fun oq v w' => match oq with
                    | 0 => v = .pointer (some ⟨b1, 0, none⟩)
                    | 1 => v = .int .i64 (x : Int)
                    | 2 => v = .bool false
                    | 3 => v = .bool false
                    | 4 => v = undef
                    | 5 => v = .bool false
                    | 6 => v = .bool false
                    | 7 => v = undef
                    | 8 => v = undef
                    | 9 => v = undef
                    | 10 => v = undef
                    | 11 => v = undef
                    | 12 => v = undef
                    | 13 => v = undef
                    | 14 => v = undef
                    | 15 => v = undef
                    | 16 => v = undef
                    | 17 => v = undef
                    | 18 => v = undef
                    | 19 => v = undef
                    | 20 => v = undef
                    | 21 => v = undef
                    | 22 => v = undef
                    | _ => True) (by kernel_rfl) (by kernel_rfl) (Below.refl _ _).drew ?gb ?vb ?steps ?fin
                case gb => exact fun a b h1 h2 => h1.trans (h2.mono h1.size)
                case vb =>
                  intro oq v a b h hb
                  match oq with
                  | 0 => exact h
                  | 1 => exact h
                  | 2 => exact h
                  | 3 => exact h
                  | 4 => exact h
                  | 5 => exact h
                  | 6 => exact h
                  | 7 => exact h
                  | 8 => exact h
                  | 9 => exact h
                  | 10 => exact h
                  | 11 => exact h
                  | 12 => exact h
                  | 13 => exact h
                  | 14 => exact h
                  | 15 => exact h
                  | 16 => exact h
                  | 17 => exact h
                  | 18 => exact h
                  | 19 => exact h
                  | 20 => exact h
                  | 21 => exact h
                  | 22 => exact h
                  | _ + 23 => trivial
                case steps =>
                  intro vals
                  simp only [List.take_succ_cons, List.take_zero, freeSteps, Act.put, List.setIfInBounds_toArray, List.set_cons_zero, List.set_cons_succ, Nat.reduceAdd]
                  refine ⟨fun w8 hG hW => ?_, fun w8 hG hW => ?_, fun w8 hG hW => ?_, fun w8 hG hW => ?_, fun w8 hG hW => ?_, fun w8 hG hW => ?_, fun w8 hG hW => ?_, fun w8 hG hW => ?_, fun w8 hG hW => ?_, fun w8 hG hW => ?_, fun w8 hG hW => ?_, fun w8 hG hW => ?_, fun w8 hG hW => ?_, fun w8 hG hW => ?_, fun w8 hG hW => ?_, fun w8 hG hW => ?_, fun w8 hG hW => ?_, fun w8 hG hW => ?_, fun w8 hG hW => ?_, fun w8 hG hW => ?_, fun w8 hG hW => ?_, fun w8 hG hW => ?_, fun w8 hG hW => ?_, trivial⟩
                  · clear hW
                    refine stepAt_value rfl rfl rfl (.pointer (some ⟨b1, 0, none⟩)) w8 ?_ ⟨rfl, Below.refl _ _⟩
                    go_simp
                  · clear hW
                    refine stepAt_value rfl rfl rfl (.int .i64 (x : Int)) w8 ?_ ⟨rfl, Below.refl _ _⟩
                    go_simp
                  · have q0 := hW 0 (by decide)
                    simp only at q0
                    have q1 := hW 1 (by decide)
                    simp only at q1
                    rw [q0, q1]
                    clear hW
                    refine stepAt_call rfl rfl rfl 14 #[.pointer (some ⟨b1, 0, none⟩), .int .i64 (x : Int)] (by go_simp) ((counts_any w8 b1 m1 t1 ta (x : Int) (HT.out.below hG).p).mono fun e w' ⟨h1, h2⟩ => ⟨_, h1.trans (by rw [HCO.out]; rfl), rfl, by rw [h2]; exact Below.refl _ _⟩)
                  · have q2 := hW 2 (by decide)
                    simp only at q2
                    rw [q2]
                    clear hW
                    refine stepAt_value rfl rfl rfl (.bool false) w8 ?_ ⟨rfl, Below.refl _ _⟩
                    go_simp
                  · have q3 := hW 3 (by decide)
                    simp only at q3
                    rw [q3]
                    clear hW
                    exact stepAt_skip rfl rfl rfl ⟨rfl, Below.refl _ _⟩
                  · have q3 := hW 3 (by decide)
                    simp only at q3
                    rw [q3]
                    clear hW
                    refine stepAt_value rfl rfl rfl (.bool false) w8 ?_ ⟨rfl, Below.refl _ _⟩
                    go_simp
                  · have q5 := hW 5 (by decide)
                    simp only at q5
                    rw [q5]
                    clear hW
                    refine stepAt_value rfl rfl rfl (.bool false) w8 ?_ ⟨rfl, Below.refl _ _⟩
                    go_simp
                  · have q6 := hW 6 (by decide)
                    simp only at q6
                    rw [q6]
                    clear hW
                    exact stepAt_skip rfl rfl rfl ⟨rfl, Below.refl _ _⟩
                  · have q6 := hW 6 (by decide)
                    simp only at q6
                    rw [q6]
                    clear hW
                    exact stepAt_skip rfl rfl rfl ⟨rfl, Below.refl _ _⟩
                  · have q6 := hW 6 (by decide)
                    simp only at q6
                    rw [q6]
                    clear hW
                    exact stepAt_skip rfl rfl rfl ⟨rfl, Below.refl _ _⟩
                  · have q6 := hW 6 (by decide)
                    simp only at q6
                    rw [q6]
                    clear hW
                    exact stepAt_skip rfl rfl rfl ⟨rfl, Below.refl _ _⟩
                  · have q6 := hW 6 (by decide)
                    simp only at q6
                    rw [q6]
                    clear hW
                    exact stepAt_skip rfl rfl rfl ⟨rfl, Below.refl _ _⟩
                  · have q6 := hW 6 (by decide)
                    simp only at q6
                    rw [q6]
                    clear hW
                    exact stepAt_skip rfl rfl rfl ⟨rfl, Below.refl _ _⟩
                  · have q6 := hW 6 (by decide)
                    simp only at q6
                    rw [q6]
                    clear hW
                    exact stepAt_skip rfl rfl rfl ⟨rfl, Below.refl _ _⟩
                  · have q6 := hW 6 (by decide)
                    simp only at q6
                    rw [q6]
                    clear hW
                    exact stepAt_skip rfl rfl rfl ⟨rfl, Below.refl _ _⟩
                  · have q6 := hW 6 (by decide)
                    simp only at q6
                    rw [q6]
                    clear hW
                    exact stepAt_skip rfl rfl rfl ⟨rfl, Below.refl _ _⟩
                  · have q6 := hW 6 (by decide)
                    simp only at q6
                    rw [q6]
                    clear hW
                    exact stepAt_skip rfl rfl rfl ⟨rfl, Below.refl _ _⟩
                  · have q16 := hW 16 (by decide)
                    simp only at q16
                    rw [q16]
                    clear hW
                    exact stepAt_skip rfl rfl rfl ⟨rfl, Below.refl _ _⟩
                  · have q16 := hW 16 (by decide)
                    simp only at q16
                    rw [q16]
                    clear hW
                    exact stepAt_skip rfl rfl rfl ⟨rfl, Below.refl _ _⟩
                  · have q16 := hW 16 (by decide)
                    simp only at q16
                    rw [q16]
                    clear hW
                    exact stepAt_skip rfl rfl rfl ⟨rfl, Below.refl _ _⟩
                  · have q16 := hW 16 (by decide)
                    simp only at q16
                    rw [q16]
                    clear hW
                    exact stepAt_skip rfl rfl rfl ⟨rfl, Below.refl _ _⟩
                  · have q16 := hW 16 (by decide)
                    simp only at q16
                    rw [q16]
                    clear hW
                    exact stepAt_skip rfl rfl rfl ⟨rfl, Below.refl _ _⟩
                  · have q6 := hW 6 (by decide)
                    simp only at q6
                    rw [q6]
                    clear hW
                    exact stepAt_skip rfl rfl rfl ⟨rfl, Below.refl _ _⟩
                case fin =>
                  intro vals w9 hG hV
                  have q6 := hV 6 (by omega)
                  simp only at q6
                  have q22 := hV 22 (by omega)
                  simp only at q22
                  simp only [List.take_succ_cons, List.take_zero, List.drop_succ_cons, List.drop_zero, putAll, Act.put, List.setIfInBounds_toArray, List.set_cons_zero, List.set_cons_succ, Nat.reduceAdd]
                  rw [q6, q22]
                  clear hV q6 q22
                  generalize vals 0 = y0
                  generalize vals 1 = y1
                  generalize vals 2 = y2
                  generalize vals 3 = y3
                  generalize vals 4 = y4
                  generalize vals 5 = y5
                  generalize vals 7 = y7
                  generalize vals 8 = y8
                  generalize vals 9 = y9
                  generalize vals 10 = y10
                  generalize vals 11 = y11
                  generalize vals 12 = y12
                  generalize vals 13 = y13
                  generalize vals 14 = y14
                  generalize vals 15 = y15
                  generalize vals 16 = y16
                  generalize vals 17 = y17
                  generalize vals 18 = y18
                  generalize vals 19 = y19
                  generalize vals 20 = y20
                  generalize vals 21 = y21
                  replace HT := Lib.hid (HT.out.below hG)
                  replace HX := Lib.hid (HX.out.below hG HX.out.lt)
                  replace HY := Lib.hid (HY.out.below hG HY.out.lt)
                  replace HBL := Lib.hid (HBL.out.trans (hG.mono HBL.out.size))
                  clear hG
                  go_wp2_with fail
                  go_roundw
                  case rel => exact ⟨x + 1, by omega, by go_num, HBL⟩
                  case measure => simp [intOf]; omega
            | false =>
              cases H with
              | true =>
                have HEP := Lib.hid (HAE.out rfl rfl).1
                have HGE := Lib.hid (HAE.out rfl rfl).2
                have HQta := Lib.hid (ep_wrap HK1.out.1 (show I6 (ltN ta x).s by have := HSX.out; unfold I6; omega)).1
                have HQtb := Lib.hid (ep_wrap HK1.out.1 (show I6 (ltN tb x).s by have := HSY.out; unfold I6; omega)).1
                have HK0 := Lib.hid (show ¬ K = 0 by have := HK1.out; omega)
                go_upto_region 23 with fail
                refine wp_region_free (P := Try.prog) 23 (fun w' => Below w8.heap.size w8 w') (fun oq v w' => match oq with
                    | 0 => v = .pointer (some ⟨b1, 0, none⟩)
                    | 1 => v = .int .i64 (x : Int)
                    | 2 => v = .bool true
                    | 3 => v = .bool true
                    | 4 => v = .bool true
                    | 5 => v = .bool true
                    | 6 => v = .bool true
                    | 7 => v = .pointer (some ⟨X, 1, none⟩)
                    | 8 => v = .int .i64 (ltN ta x).s
                    | 9 => v = .int .i64 (K : Int)
                    | 10 => v = .int .i64 (ep K (ltN ta x).s)
                    | 11 => v = .pointer (some ⟨Y, 1, none⟩)
                    | 12 => v = .int .i64 (ltN tb x).s
                    | 13 => v = .int .i64 (K : Int)
                    | 14 => v = .int .i64 (ep K (ltN tb x).s)
                    | 15 => v = .bool false
                    | 16 => v = .bool false
                    | 17 => v = .pointer (some ⟨X, 2, none⟩)
                    | 18 => v = .agg (bv (ltN ta x).g).toArray
                    | 19 => v = .pointer (some ⟨Y, 2, none⟩)
                    | 20 => v = .agg (bv (ltN tb x).g).toArray
                    | 21 => v = .bool false
                    | 22 => v = .bool false
                    | _ => True) (by kernel_rfl) (by kernel_rfl) (Below.refl _ _).drew ?gb ?vb ?steps ?fin
                case gb => exact fun a b h1 h2 => h1.trans (h2.mono h1.size)
                case vb =>
                  intro oq v a b h hb
                  match oq with
                  | 0 => exact h
                  | 1 => exact h
                  | 2 => exact h
                  | 3 => exact h
                  | 4 => exact h
                  | 5 => exact h
                  | 6 => exact h
                  | 7 => exact h
                  | 8 => exact h
                  | 9 => exact h
                  | 10 => exact h
                  | 11 => exact h
                  | 12 => exact h
                  | 13 => exact h
                  | 14 => exact h
                  | 15 => exact h
                  | 16 => exact h
                  | 17 => exact h
                  | 18 => exact h
                  | 19 => exact h
                  | 20 => exact h
                  | 21 => exact h
                  | 22 => exact h
                  | _ + 23 => trivial
                case steps =>
                  intro vals
                  simp only [List.take_succ_cons, List.take_zero, freeSteps, Act.put, List.setIfInBounds_toArray, List.set_cons_zero, List.set_cons_succ, Nat.reduceAdd]
                  refine ⟨fun w8 hG hW => ?_, fun w8 hG hW => ?_, fun w8 hG hW => ?_, fun w8 hG hW => ?_, fun w8 hG hW => ?_, fun w8 hG hW => ?_, fun w8 hG hW => ?_, fun w8 hG hW => ?_, fun w8 hG hW => ?_, fun w8 hG hW => ?_, fun w8 hG hW => ?_, fun w8 hG hW => ?_, fun w8 hG hW => ?_, fun w8 hG hW => ?_, fun w8 hG hW => ?_, fun w8 hG hW => ?_, fun w8 hG hW => ?_, fun w8 hG hW => ?_, fun w8 hG hW => ?_, fun w8 hG hW => ?_, fun w8 hG hW => ?_, fun w8 hG hW => ?_, fun w8 hG hW => ?_, trivial⟩
                  · clear hW
                    refine stepAt_value rfl rfl rfl (.pointer (some ⟨b1, 0, none⟩)) w8 ?_ ⟨rfl, Below.refl _ _⟩
                    go_simp
                  · clear hW
                    refine stepAt_value rfl rfl rfl (.int .i64 (x : Int)) w8 ?_ ⟨rfl, Below.refl _ _⟩
                    go_simp
                  · have q0 := hW 0 (by decide)
                    simp only at q0
                    have q1 := hW 1 (by decide)
                    simp only at q1
                    rw [q0, q1]
                    clear hW
                    refine stepAt_call rfl rfl rfl 14 #[.pointer (some ⟨b1, 0, none⟩), .int .i64 (x : Int)] (by go_simp) ((counts_any w8 b1 m1 t1 ta (x : Int) (HT.out.below hG).p).mono fun e w' ⟨h1, h2⟩ => ⟨_, h1.trans (by rw [HCO.out]; rfl), rfl, by rw [h2]; exact Below.refl _ _⟩)
                  · have q2 := hW 2 (by decide)
                    simp only at q2
                    rw [q2]
                    clear hW
                    refine stepAt_value rfl rfl rfl (.bool true) w8 ?_ ⟨rfl, Below.refl _ _⟩
                    go_simp
                  · have q3 := hW 3 (by decide)
                    simp only at q3
                    rw [q3]
                    clear hW
                    refine stepAt_value rfl rfl rfl (.bool true) w8 ?_ ⟨rfl, Below.refl _ _⟩
                    go_simp
                  · have q3 := hW 3 (by decide)
                    simp only at q3
                    have q4 := hW 4 (by decide)
                    simp only at q4
                    rw [q3, q4]
                    clear hW
                    refine stepAt_value rfl rfl rfl (.bool true) w8 ?_ ⟨rfl, Below.refl _ _⟩
                    go_simp
                  · have q5 := hW 5 (by decide)
                    simp only at q5
                    rw [q5]
                    clear hW
                    refine stepAt_value rfl rfl rfl (.bool true) w8 ?_ ⟨rfl, Below.refl _ _⟩
                    go_simp
                  · have q6 := hW 6 (by decide)
                    simp only at q6
                    rw [q6]
                    clear hW
                    refine stepAt_value rfl rfl rfl (.pointer (some ⟨X, 1, none⟩)) w8 ?_ ⟨rfl, Below.refl _ _⟩
                    go_simp
                  · have q6 := hW 6 (by decide)
                    simp only at q6
                    have q7 := hW 7 (by decide)
                    simp only at q7
                    rw [q6, q7]
                    clear hW
                    refine stepAt_value rfl rfl rfl (.int .i64 (ltN ta x).s) w8 ?_ ⟨rfl, Below.refl _ _⟩
                    have cc := (HX.out.below hG HX.out.lt).cell 1
                    simp only [vcl, List.getElem?_cons_zero, List.getElem?_cons_succ] at cc
                    go_simp
                  · have q6 := hW 6 (by decide)
                    simp only at q6
                    rw [q6]
                    clear hW
                    refine stepAt_value rfl rfl rfl (.int .i64 (K : Int)) w8 ?_ ⟨rfl, Below.refl _ _⟩
                    go_simp
                  · have q6 := hW 6 (by decide)
                    simp only at q6
                    have q8 := hW 8 (by decide)
                    simp only at q8
                    have q9 := hW 9 (by decide)
                    simp only at q9
                    rw [q6, q8, q9]
                    clear hW
                    have hwr := HQta.out
                    have hk00 := HK0.out
                    refine stepAt_value rfl rfl rfl (.int .i64 (ep K (ltN ta x).s)) w8 ?_ ⟨rfl, Below.refl _ _⟩
                    go_simp
                    rw [IntKind.wrap_i64]
                    unfold wrap64 at hwr
                    exact hwr
                  · have q6 := hW 6 (by decide)
                    simp only at q6
                    rw [q6]
                    clear hW
                    refine stepAt_value rfl rfl rfl (.pointer (some ⟨Y, 1, none⟩)) w8 ?_ ⟨rfl, Below.refl _ _⟩
                    go_simp
                  · have q6 := hW 6 (by decide)
                    simp only at q6
                    have q11 := hW 11 (by decide)
                    simp only at q11
                    rw [q6, q11]
                    clear hW
                    refine stepAt_value rfl rfl rfl (.int .i64 (ltN tb x).s) w8 ?_ ⟨rfl, Below.refl _ _⟩
                    have cc := (HY.out.below hG HY.out.lt).cell 1
                    simp only [vcl, List.getElem?_cons_zero, List.getElem?_cons_succ] at cc
                    go_simp
                  · have q6 := hW 6 (by decide)
                    simp only at q6
                    rw [q6]
                    clear hW
                    refine stepAt_value rfl rfl rfl (.int .i64 (K : Int)) w8 ?_ ⟨rfl, Below.refl _ _⟩
                    go_simp
                  · have q6 := hW 6 (by decide)
                    simp only at q6
                    have q12 := hW 12 (by decide)
                    simp only at q12
                    have q13 := hW 13 (by decide)
                    simp only at q13
                    rw [q6, q12, q13]
                    clear hW
                    have hwr := HQtb.out
                    have hk00 := HK0.out
                    refine stepAt_value rfl rfl rfl (.int .i64 (ep K (ltN tb x).s)) w8 ?_ ⟨rfl, Below.refl _ _⟩
                    go_simp
                    rw [IntKind.wrap_i64]
                    unfold wrap64 at hwr
                    exact hwr
                  · have q6 := hW 6 (by decide)
                    simp only at q6
                    have q10 := hW 10 (by decide)
                    simp only at q10
                    have q14 := hW 14 (by decide)
                    simp only at q14
                    rw [q6, q10, q14]
                    clear hW
                    refine stepAt_value rfl rfl rfl (.bool false) w8 ?_ ⟨rfl, Below.refl _ _⟩
                    have heq := HEP.out
                    go_simp
                  · have q6 := hW 6 (by decide)
                    simp only at q6
                    have q15 := hW 15 (by decide)
                    simp only at q15
                    rw [q6, q15]
                    clear hW
                    refine stepAt_value rfl rfl rfl (.bool false) w8 ?_ ⟨rfl, Below.refl _ _⟩
                    go_simp
                  · have q16 := hW 16 (by decide)
                    simp only at q16
                    rw [q16]
                    clear hW
                    refine stepAt_value rfl rfl rfl (.pointer (some ⟨X, 2, none⟩)) w8 ?_ ⟨rfl, Below.refl _ _⟩
                    go_simp
                  · have q16 := hW 16 (by decide)
                    simp only at q16
                    have q17 := hW 17 (by decide)
                    simp only at q17
                    rw [q16, q17]
                    clear hW
                    refine stepAt_load_run rfl rfl rfl _ _ rfl _ _ rfl (run_load_root HLX.out (HX.out.below hG HX.out.lt).voteName) ⟨rfl, Below.refl _ _⟩
                  · have q16 := hW 16 (by decide)
                    simp only at q16
                    rw [q16]
                    clear hW
                    refine stepAt_value rfl rfl rfl (.pointer (some ⟨Y, 2, none⟩)) w8 ?_ ⟨rfl, Below.refl _ _⟩
                    go_simp
                  · have q16 := hW 16 (by decide)
                    simp only at q16
                    have q19 := hW 19 (by decide)
                    simp only at q19
                    rw [q16, q19]
                    clear hW
                    refine stepAt_load_run rfl rfl rfl _ _ rfl _ _ rfl (run_load_root HLY.out (HY.out.below hG HY.out.lt).voteName) ⟨rfl, Below.refl _ _⟩
                  · have q16 := hW 16 (by decide)
                    simp only at q16
                    have q18 := hW 18 (by decide)
                    simp only at q18
                    have q20 := hW 20 (by decide)
                    simp only at q20
                    rw [q16, q18, q20]
                    clear hW
                    refine stepAt_value rfl rfl rfl (.bool false) w8 ?_ ⟨rfl, Below.refl _ _⟩
                    have hrq := fun W => root_eqW W (ltN ta x).g (ltN tb x).g HLX.out HLY.out
                    rw [show ((ltN ta x).g == (ltN tb x).g) = true from beq_iff_eq.2 HGE.out] at hrq
                    go_simp
                  · have q6 := hW 6 (by decide)
                    simp only at q6
                    have q16 := hW 16 (by decide)
                    simp only at q16
                    have q21 := hW 21 (by decide)
                    simp only at q21
                    rw [q6, q16, q21]
                    clear hW
                    refine stepAt_value rfl rfl rfl (.bool false) w8 ?_ ⟨rfl, Below.refl _ _⟩
                    go_simp
                case fin =>
                  intro vals w9 hG hV
                  have q6 := hV 6 (by omega)
                  simp only at q6
                  have q22 := hV 22 (by omega)
                  simp only at q22
                  simp only [List.take_succ_cons, List.take_zero, List.drop_succ_cons, List.drop_zero, putAll, Act.put, List.setIfInBounds_toArray, List.set_cons_zero, List.set_cons_succ, Nat.reduceAdd]
                  rw [q6, q22]
                  clear hV q6 q22
                  generalize vals 0 = y0
                  generalize vals 1 = y1
                  generalize vals 2 = y2
                  generalize vals 3 = y3
                  generalize vals 4 = y4
                  generalize vals 5 = y5
                  generalize vals 7 = y7
                  generalize vals 8 = y8
                  generalize vals 9 = y9
                  generalize vals 10 = y10
                  generalize vals 11 = y11
                  generalize vals 12 = y12
                  generalize vals 13 = y13
                  generalize vals 14 = y14
                  generalize vals 15 = y15
                  generalize vals 16 = y16
                  generalize vals 17 = y17
                  generalize vals 18 = y18
                  generalize vals 19 = y19
                  generalize vals 20 = y20
                  generalize vals 21 = y21
                  replace HT := Lib.hid (HT.out.below hG)
                  replace HX := Lib.hid (HX.out.below hG HX.out.lt)
                  replace HY := Lib.hid (HY.out.below hG HY.out.lt)
                  replace HBL := Lib.hid (HBL.out.trans (hG.mono HBL.out.size))
                  clear hG
                  go_wp2_with fail
                  go_roundw
                  case rel => exact ⟨x + 1, by omega, by go_num, HBL⟩
                  case measure => simp [intOf]; omega
              | false =>
                go_upto_region 23 with fail
                refine wp_region_free (P := Try.prog) 23 (fun w' => Below w8.heap.size w8 w') (fun oq v w' => match oq with
                    | 0 => v = .pointer (some ⟨b1, 0, none⟩)
                    | 1 => v = .int .i64 (x : Int)
                    | 2 => v = .bool true
                    | 3 => v = .bool true
                    | 4 => v = .bool false
                    | 5 => v = .bool false
                    | 6 => v = .bool false
                    | 7 => v = undef
                    | 8 => v = undef
                    | 9 => v = undef
                    | 10 => v = undef
                    | 11 => v = undef
                    | 12 => v = undef
                    | 13 => v = undef
                    | 14 => v = undef
                    | 15 => v = undef
                    | 16 => v = undef
                    | 17 => v = undef
                    | 18 => v = undef
                    | 19 => v = undef
                    | 20 => v = undef
                    | 21 => v = undef
                    | 22 => v = undef
                    | _ => True) (by kernel_rfl) (by kernel_rfl) (Below.refl _ _).drew ?gb ?vb ?steps ?fin
                case gb => exact fun a b h1 h2 => h1.trans (h2.mono h1.size)
                case vb =>
                  intro oq v a b h hb
                  match oq with
                  | 0 => exact h
                  | 1 => exact h
                  | 2 => exact h
                  | 3 => exact h
                  | 4 => exact h
                  | 5 => exact h
                  | 6 => exact h
                  | 7 => exact h
                  | 8 => exact h
                  | 9 => exact h
                  | 10 => exact h
                  | 11 => exact h
                  | 12 => exact h
                  | 13 => exact h
                  | 14 => exact h
                  | 15 => exact h
                  | 16 => exact h
                  | 17 => exact h
                  | 18 => exact h
                  | 19 => exact h
                  | 20 => exact h
                  | 21 => exact h
                  | 22 => exact h
                  | _ + 23 => trivial
                case steps =>
                  intro vals
                  simp only [List.take_succ_cons, List.take_zero, freeSteps, Act.put, List.setIfInBounds_toArray, List.set_cons_zero, List.set_cons_succ, Nat.reduceAdd]
                  refine ⟨fun w8 hG hW => ?_, fun w8 hG hW => ?_, fun w8 hG hW => ?_, fun w8 hG hW => ?_, fun w8 hG hW => ?_, fun w8 hG hW => ?_, fun w8 hG hW => ?_, fun w8 hG hW => ?_, fun w8 hG hW => ?_, fun w8 hG hW => ?_, fun w8 hG hW => ?_, fun w8 hG hW => ?_, fun w8 hG hW => ?_, fun w8 hG hW => ?_, fun w8 hG hW => ?_, fun w8 hG hW => ?_, fun w8 hG hW => ?_, fun w8 hG hW => ?_, fun w8 hG hW => ?_, fun w8 hG hW => ?_, fun w8 hG hW => ?_, fun w8 hG hW => ?_, fun w8 hG hW => ?_, trivial⟩
                  · clear hW
                    refine stepAt_value rfl rfl rfl (.pointer (some ⟨b1, 0, none⟩)) w8 ?_ ⟨rfl, Below.refl _ _⟩
                    go_simp
                  · clear hW
                    refine stepAt_value rfl rfl rfl (.int .i64 (x : Int)) w8 ?_ ⟨rfl, Below.refl _ _⟩
                    go_simp
                  · have q0 := hW 0 (by decide)
                    simp only at q0
                    have q1 := hW 1 (by decide)
                    simp only at q1
                    rw [q0, q1]
                    clear hW
                    refine stepAt_call rfl rfl rfl 14 #[.pointer (some ⟨b1, 0, none⟩), .int .i64 (x : Int)] (by go_simp) ((counts_any w8 b1 m1 t1 ta (x : Int) (HT.out.below hG).p).mono fun e w' ⟨h1, h2⟩ => ⟨_, h1.trans (by rw [HCO.out]; rfl), rfl, by rw [h2]; exact Below.refl _ _⟩)
                  · have q2 := hW 2 (by decide)
                    simp only at q2
                    rw [q2]
                    clear hW
                    refine stepAt_value rfl rfl rfl (.bool true) w8 ?_ ⟨rfl, Below.refl _ _⟩
                    go_simp
                  · have q3 := hW 3 (by decide)
                    simp only at q3
                    rw [q3]
                    clear hW
                    refine stepAt_value rfl rfl rfl (.bool false) w8 ?_ ⟨rfl, Below.refl _ _⟩
                    go_simp
                  · have q3 := hW 3 (by decide)
                    simp only at q3
                    have q4 := hW 4 (by decide)
                    simp only at q4
                    rw [q3, q4]
                    clear hW
                    refine stepAt_value rfl rfl rfl (.bool false) w8 ?_ ⟨rfl, Below.refl _ _⟩
                    go_simp
                  · have q5 := hW 5 (by decide)
                    simp only at q5
                    rw [q5]
                    clear hW
                    refine stepAt_value rfl rfl rfl (.bool false) w8 ?_ ⟨rfl, Below.refl _ _⟩
                    go_simp
                  · have q6 := hW 6 (by decide)
                    simp only at q6
                    rw [q6]
                    clear hW
                    exact stepAt_skip rfl rfl rfl ⟨rfl, Below.refl _ _⟩
                  · have q6 := hW 6 (by decide)
                    simp only at q6
                    rw [q6]
                    clear hW
                    exact stepAt_skip rfl rfl rfl ⟨rfl, Below.refl _ _⟩
                  · have q6 := hW 6 (by decide)
                    simp only at q6
                    rw [q6]
                    clear hW
                    exact stepAt_skip rfl rfl rfl ⟨rfl, Below.refl _ _⟩
                  · have q6 := hW 6 (by decide)
                    simp only at q6
                    rw [q6]
                    clear hW
                    exact stepAt_skip rfl rfl rfl ⟨rfl, Below.refl _ _⟩
                  · have q6 := hW 6 (by decide)
                    simp only at q6
                    rw [q6]
                    clear hW
                    exact stepAt_skip rfl rfl rfl ⟨rfl, Below.refl _ _⟩
                  · have q6 := hW 6 (by decide)
                    simp only at q6
                    rw [q6]
                    clear hW
                    exact stepAt_skip rfl rfl rfl ⟨rfl, Below.refl _ _⟩
                  · have q6 := hW 6 (by decide)
                    simp only at q6
                    rw [q6]
                    clear hW
                    exact stepAt_skip rfl rfl rfl ⟨rfl, Below.refl _ _⟩
                  · have q6 := hW 6 (by decide)
                    simp only at q6
                    rw [q6]
                    clear hW
                    exact stepAt_skip rfl rfl rfl ⟨rfl, Below.refl _ _⟩
                  · have q6 := hW 6 (by decide)
                    simp only at q6
                    rw [q6]
                    clear hW
                    exact stepAt_skip rfl rfl rfl ⟨rfl, Below.refl _ _⟩
                  · have q6 := hW 6 (by decide)
                    simp only at q6
                    rw [q6]
                    clear hW
                    exact stepAt_skip rfl rfl rfl ⟨rfl, Below.refl _ _⟩
                  · have q16 := hW 16 (by decide)
                    simp only at q16
                    rw [q16]
                    clear hW
                    exact stepAt_skip rfl rfl rfl ⟨rfl, Below.refl _ _⟩
                  · have q16 := hW 16 (by decide)
                    simp only at q16
                    rw [q16]
                    clear hW
                    exact stepAt_skip rfl rfl rfl ⟨rfl, Below.refl _ _⟩
                  · have q16 := hW 16 (by decide)
                    simp only at q16
                    rw [q16]
                    clear hW
                    exact stepAt_skip rfl rfl rfl ⟨rfl, Below.refl _ _⟩
                  · have q16 := hW 16 (by decide)
                    simp only at q16
                    rw [q16]
                    clear hW
                    exact stepAt_skip rfl rfl rfl ⟨rfl, Below.refl _ _⟩
                  · have q16 := hW 16 (by decide)
                    simp only at q16
                    rw [q16]
                    clear hW
                    exact stepAt_skip rfl rfl rfl ⟨rfl, Below.refl _ _⟩
                  · have q6 := hW 6 (by decide)
                    simp only at q6
                    rw [q6]
                    clear hW
                    exact stepAt_skip rfl rfl rfl ⟨rfl, Below.refl _ _⟩
                case fin =>
                  intro vals w9 hG hV
                  have q6 := hV 6 (by omega)
                  simp only at q6
                  have q22 := hV 22 (by omega)
                  simp only at q22
                  simp only [List.take_succ_cons, List.take_zero, List.drop_succ_cons, List.drop_zero, putAll, Act.put, List.setIfInBounds_toArray, List.set_cons_zero, List.set_cons_succ, Nat.reduceAdd]
                  rw [q6, q22]
                  clear hV q6 q22
                  generalize vals 0 = y0
                  generalize vals 1 = y1
                  generalize vals 2 = y2
                  generalize vals 3 = y3
                  generalize vals 4 = y4
                  generalize vals 5 = y5
                  generalize vals 7 = y7
                  generalize vals 8 = y8
                  generalize vals 9 = y9
                  generalize vals 10 = y10
                  generalize vals 11 = y11
                  generalize vals 12 = y12
                  generalize vals 13 = y13
                  generalize vals 14 = y14
                  generalize vals 15 = y15
                  generalize vals 16 = y16
                  generalize vals 17 = y17
                  generalize vals 18 = y18
                  generalize vals 19 = y19
                  generalize vals 20 = y20
                  generalize vals 21 = y21
                  replace HT := Lib.hid (HT.out.below hG)
                  replace HX := Lib.hid (HX.out.below hG HX.out.lt)
                  replace HY := Lib.hid (HY.out.below hG HY.out.lt)
                  replace HBL := Lib.hid (HBL.out.trans (hG.mono HBL.out.size))
                  clear hG
                  go_wp2_with fail
                  go_roundw
                  case rel => exact ⟨x + 1, by omega, by go_num, HBL⟩
                  case measure => simp [intOf]; omega
          · obtain rfl : x = N := by omega
            have HB := Lib.hid HTr.out.bl
            go_wp2_with fail
            go_ret
            exact ⟨rfl, HB.out⟩
end Go.Proofs.Ytoinigcfcjllcaa
