/-
  The texts EpochsWalk13, one behind the other.
-/
import Derived.Test.YtoinigcfcjllcaaEpochsM9
import Derived.Test.YtoinigcfcjllcaaCOpenCalls
import Derived.Test.YtoinigcfcjllcaaEpochsM2
/-
  The walk of TableEpochs.
-/
namespace Go.Proofs.Ytoinigcfcjllcaa
open Go Go.RowKit
set_option maxRecDepth 10000

theorem T2.other {w0 w w' : World} {b m g b' m' g' : Nat} {t u : Tb} {G : List Nat} (h : T2 w0 b m g b' m' g' t u w) (hk : Kept G w w') (hG : ∀ x ∈ G, x ∉ [b, m, g] ∧ x ∉ [b', m', g']) (hH : High w0.heap.size G) : T2 w0 b m g b' m' g' t u w' :=
  ⟨h.p.keep hk (fun x hx hm => (hG x hm).1 hx), h.q.keep hk (fun x hx hm => (hG x hm).2 hx), h.hp, h.hq, h.aw, h.bl.trans (hk.below h.bl.size hH)⟩
theorem EpR.cnt {a b : Tb} (h : EpR a b) (w : Int) : cntA a w = cntA b w := by
  unfold cntA isW otN
  rw [h.n, h.ot]
set_option maxHeartbeats 16000000 in
theorem epochs_any (w : World) (k : Int) (ao : Option Addr) (len cap cb off : Nat) (l : List Cl) (hl : l.length = len) (h : Lies w w.heap.size ao cb off (ccls l)) :
    Calls Try.prog 7 #[.int .i64 k, .slice ao len cap] w fun e w' => e = .returned (.bool true) ∧ Below w.heap.size w w' := by
  have HS := Lib.hid h
  clear h
  go_enter Try.func7, Try.ntmps7
  go_wp2_with fail
  refine (alive_any w).mono ?_
  rintro e w1 ⟨rfl, hb1⟩
  have HB := Lib.hid hb1
  clear hb1
  by_cases hbig : (200 : Int) < (len : Int)
  · go_wp2_with fail
    go_ret
    exact ⟨rfl, HB.out⟩
  go_wp2_with fail
  refine (new_any w1 8 k).mono ?_
  rintro e w2 (⟨hn, rfl, rfl⟩ | ⟨n1, n2, k1, k2, b1, m1, t1, rfl, hT, hH, hb2⟩)
  · have HNO := Lib.hid hn
    go_wp2_with fail
    refine (new_any _ 8 k).mono ?_
    rintro e w3 (⟨hn2, rfl, rfl⟩ | ⟨n1, n2, k1, k2, b1, m1, t1, rfl, hT, hH, hb2⟩)
    · clear hn hn2
      by_cases g0 : k < 1
      · go_wp2_with fail
        go_ret
        exact ⟨rfl, HB.out⟩
      have gl : (32 : Int) < k := by have := HNO.out; omega
      go_wp2_with fail
      go_ret
      exact ⟨rfl, HB.out⟩
    · exact absurd ⟨n1, n2, k1, k2⟩ hn
  have HNK := Lib.hid (show (1 : Int) ≤ 8 ∧ (8 : Int) ≤ 64 ∧ 1 ≤ k ∧ k ≤ 32 from ⟨n1, n2, k1, k2⟩)
  obtain ⟨K, rfl⟩ : ∃ K : Nat, k = (K : Int) := ⟨k.toNat, by omega⟩
  rw [Int.toNat_natCast] at hT
  have HT1 := Lib.hid hT
  have HH1 := Lib.hid hH
  have HB2 := Lib.hid (HB.out.trans (hb2.mono HB.out.size))
  clear hT hH hb2 n1 n2 k1 k2
  go_wp2_with fail
  refine (new_any w2 8 (K : Int)).mono ?_
  rintro e w3 (⟨hn2, rfl, rfl⟩ | ⟨_, _, _, _, b2, m2, t2, rfl, hT, hH, hb3⟩)
  · exact absurd HNK.out hn2
  rw [Int.toNat_natCast] at hT
  have HT := Lib.hid (T2.new (w0 := w) HB2.out HT1.out (HH1.out.mono HB.out.size) hT hH hb3)
  clear HT1 HH1 HB HB2 hT hH hb3
  have HKK := Lib.hid (show 1 ≤ K ∧ K ≤ 32 by have := HNK.out; omega)
  go_wp2_with fail
  go_loopw [34] (fun i wr => ∃ (j : Nat) (ta tb : Tb), j ≤ len ∧ ta.fs.length ≤ j ∧ i = .int .i64 j ∧ Hid (EpR ta tb ∧ ta.k = K) ∧ Hid (T2 w b1 m1 t1 b2 m2 t2 ta tb wr)) (fun i _ => len - (intOf i).toNat)
  case atStart => exact ⟨0, newT (Int.toNat 8) K, newT (Int.toNat 8) K, Nat.zero_le _, Nat.le_refl 0, rfl, Lib.hid ⟨EpR.refl _, rfl⟩, HT⟩
  case round =>
    clear HT
    obtain ⟨j, ta, tb, hj, hja, rfl, HP, HT⟩ := hrel
    by_cases hlt : j < len
    · obtain ⟨c, hc⟩ : ∃ c, l[j]? = some c := ⟨_, List.getElem?_eq_getElem (by omega)⟩
      obtain ⟨hao, hcc⟩ := (HS.out.keep HT.out.bl).call hc
      subst hao
      have HCE := Lib.hid hcc
      have hjl : (j : Int) < (len : Int) := by omega
      have HJA := Lib.hid hja
      have HLA := Lib.hid (show ta.fs.length ≤ 1000 by omega)
      have HLB := Lib.hid (show tb.fs.length ≤ 1000 by rw [← HP.out.1.fs]; omega)
      clear hc hcc
      have HZ := Lib.hid (zero_call wr)
      have hbc : Below wr.heap.size wr ((wr.alloc (.cells #[.bool false, .int .i64 0, .int .i64 0, .int .i64 0] 41)).setRow wr.heap.size (ccl c).toArray) := below_row ((Below.refl _ wr).alloc (Nat.le_refl _) _) (Nat.le_refl _) _
      have HX := Lib.hid (HZ.out.setRow (ccl c))
      have HAW := Lib.hid (HT.out.away (Nat.le_refl wr.heap.size))
      go_upto_region 11 with (first
        | ((with_reducible refine wpList_load_call (.tmp 36) ?_ ?_ cb (off + j * 4) c ?_ HCE.out ?_); rfl; rfl; rfl)
        | ((with_reducible refine wpList_store_call (.tmp 8) (.tmp 37) ?_ ?_ wr.heap.size cl0 c ?_ ?_ HZ.out ?_); rfl; rfl; rfl; rfl))
      try simp only [Act.put]
      replace HT := Lib.hid (HT.out.below hbc)
      obtain ⟨X, hX⟩ : ∃ X, X = wr.heap.size := ⟨_, rfl⟩
      rw [← hX] at HX HAW HT ⊢
      generalize (wr.alloc (.cells #[.bool false, .int .i64 0, .int .i64 0, .int .i64 0] 41)).setRow X (ccl c).toArray = w5 at HX HT ⊢
      clear hbc HZ hX HCE
      have c2 := HX.out.cell 2
      simp only [ccl, List.getElem?_cons_zero, List.getElem?_cons_succ] at c2
      by_cases hs0 : c.s < 0
      · go_wp2_with fail
        go_roundw
        case rel => exact ⟨j + 1, ta, tb, by omega, Nat.le_trans HJA.out (by omega), by go_num, HP, HT⟩
        case measure => simp [intOf]; omega
      by_cases hs1 : (1073741824 : Int) < c.s
      · go_wp2_with fail
        go_roundw
        case rel => exact ⟨j + 1, ta, tb, by omega, Nat.le_trans HJA.out (by omega), by go_num, HP, HT⟩
        case measure => simp [intOf]; omega
      have HXA := Lib.hid HX.out.callAll
      go_wp2_with ((with_reducible refine wpList_load_call (.tmp 8) ?_ ?_ X 0 c ?_ HXA.out ?_); rfl; rfl; rfl)
      refine (cvote_any _ c).mono ?_
      rintro e w6 ⟨rfl, hbc⟩
      replace HT := Lib.hid (HT.out.below hbc)
      replace HX := Lib.hid (HX.out.below hbc HX.out.lt)
      clear hbc HXA c2
      have HSB := Lib.hid (show 0 ≤ c.s ∧ c.s ≤ 1073741824 by omega)
      have HLV := Lib.hid (ctv_len c)
      have HAV := Lib.hid (HT.out.away (Nat.le_refl w6.heap.size))
      have HT6 := HT
      have HT0 := HT
      have HZ := Lib.hid (zero_voteC w6)
      have hbc : Below w6.heap.size w6 ((w6.alloc (.cells #[.int .i64 0, .int .i64 0, .int .u8 0, .int .u8 0, .int .u8 0, .int .u8 0, .int .u8 0, .int .u8 0, .int .u8 0, .int .u8 0, .int .u8 0, .int .u8 0, .int .u8 0, .int .u8 0, .int .u8 0, .int .u8 0, .int .u8 0, .int .u8 0, .int .u8 0, .int .u8 0, .int .u8 0, .int .u8 0, .int .u8 0, .int .u8 0, .int .u8 0, .int .u8 0, .int .u8 0, .int .u8 0, .int .u8 0, .int .u8 0, .int .u8 0, .int .u8 0, .int .u8 0, .int .u8 0] 29)).setRow w6.heap.size (vcl (ctv c)).toArray) := below_row ((Below.refl _ w6).alloc (Nat.le_refl _) _) (Nat.le_refl _) _
      have HV := Lib.hid (HZ.out.setRow (vcl (ctv c)))
      go_upto_region 13 with ((with_reducible refine wpList_store_vote (.tmp 9) (.tmp 47) ?_ ?_ w6.heap.size vt0 (ctv c) ?_ ?_ HZ.out vt0_len HLV.out ?_); rfl; rfl; rfl; rfl)
      try simp only [Act.put]
      replace HT := Lib.hid (HT.out.below hbc)
      replace HX := Lib.hid (HX.out.below hbc HX.out.lt)
      obtain ⟨V, hX⟩ : ∃ V, V = w6.heap.size := ⟨_, rfl⟩
      have hVge := Lib.hid (show w.heap.size ≤ V by have := HT6.out.bl.size; omega)
      rw [← hX] at HV HAV HT HX ⊢
      generalize (w6.alloc (.cells #[.int .i64 0, .int .i64 0, .int .u8 0, .int .u8 0, .int .u8 0, .int .u8 0, .int .u8 0, .int .u8 0, .int .u8 0, .int .u8 0, .int .u8 0, .int .u8 0, .int .u8 0, .int .u8 0, .int .u8 0, .int .u8 0, .int .u8 0, .int .u8 0, .int .u8 0, .int .u8 0, .int .u8 0, .int .u8 0, .int .u8 0, .int .u8 0, .int .u8 0, .int .u8 0, .int .u8 0, .int .u8 0, .int .u8 0, .int .u8 0, .int .u8 0, .int .u8 0, .int .u8 0, .int .u8 0] 29)).setRow V (vcl (ctv c)).toArray = w7 at HV HT HX ⊢
      clear hbc HZ hX
      have HXV := Lib.hid (show X ≠ V from fun e => by subst e; have h1 := HX.out; have h2 := HV.out; unfold Blk at h1 h2; rw [h1] at h2; simp at h2)
      have HVB := hVge
      clear hVge HT6
      have HVA := Lib.hid HV.out.voteAll
      go_wp2_with ((with_reducible refine wpList_load_vote (.tmp 9) ?_ ?_ V 0 (ctv c) ?_ HLV.out HVA.out ?_); rfl; rfl; rfl)
      refine (take_any w7 b1 m1 t1 ta (ctv c) HT.out.p HLV.out HLA.out).mono ?_
      rintro e w8 ⟨rfl, hT, hk⟩
      replace HX := Lib.hid (HX.out.kept hk HAW.out.1)
      replace HV := Lib.hid (HV.out.kept hk HAV.out.1)
      replace HT := Lib.hid (HT.out.setp hT hk)
      clear hT hk HVA
      obtain ⟨s2, hs2⟩ : ∃ s2, s2 = c.s - c.s.tmod (K : Int) := ⟨_, rfl⟩
      have HST := Lib.hid (show ep K s2 = ep K c.s ∧ 0 ≤ s2 ∧ s2 ≤ c.s by rw [hs2]; exact ep_start HKK.out.1 HSB.out.1)
      have HPN := Lib.hid (HP.out.1.take HT0.out.p.fit.gd HT0.out.q.fit.gd (v := ctv c) (u := ⟨c.w, s2, nmN c.n⟩) rfl rfl (by rw [HP.out.2]; exact HST.out.1.symm) HSB.out ⟨HST.out.2.1, by have := HST.out.2.2; have := HSB.out.2; show s2 ≤ _; omega⟩)
      obtain ⟨CO, hCO⟩ : ∃ CO, CO = (takeT ta (ctv c)).1 := ⟨_, rfl⟩
      obtain ⟨ua, hua⟩ : ∃ ua, ua = (takeT ta (ctv c)).2 := ⟨_, rfl⟩
      have HUA := Lib.hid (show ua.fs.length ≤ ta.fs.length + 1 ∧ ua.k = K by rw [hua, (takeT_nk ta (ctv c)).2]; exact ⟨take_fs _ _, HP.out.2⟩)
      rw [← hCO, ← hua] at HPN
      rw [← hua] at HT
      rw [← hCO]
      clear hCO hua
      have HMD := Lib.hid (show IntKind.i64.wrap (c.s - c.s.tmod (K : Int)) = s2 by
        have h1 := Int.tmod_nonneg (K : Int) HSB.out.1
        have h2 := Int.tmod_lt_of_pos c.s (show (0 : Int) < (K : Int) by have := HKK.out.1; omega)
        have h3 := HSB.out
        have h4 := HKK.out
        rw [IntKind.wrap_i64]
        omega)
      have HMD2 := Lib.hid hs2
      have HK0 := Lib.hid (show ¬ K = 0 by have := HKK.out; omega)
      go_upto_region 14 with fail
      clear hs2
      refine wp_region_free (P := Try.prog) 8 (fun w' => Below w8.heap.size w8 w') (fun oq v w' => match oq with
          | 0 => v = .pointer (some ⟨X, 2, none⟩)
          | 1 => v = .int .i64 c.s
          | 2 => v = .pointer (some ⟨X, 2, none⟩)
          | 3 => v = .int .i64 c.s
          | 4 => v = .int .i64 (K : Int)
          | 5 => v = .int .i64 (c.s.tmod (K : Int))
          | 6 => v = .int .i64 s2
          | 7 => v = .pointer (some ⟨V, 1, none⟩)
          | _ => True) (by kernel_rfl) (by kernel_rfl) (Below.refl _ _).drew ?gb ?vb ?steps ?fin
      case gb => exact fun a b h1 h2 => h1.trans (h2.mono h1.size)
      case vb =>
        intro oq v a b h hb
        match oq with
        | 0 => exact h
        | 1 => exact h
        | 2 => exact h
        | 3 => exact h
        | 4 => exact h
        | 5 => exact h
        | 6 => exact h
        | 7 => exact h
        | _ + 8 => trivial
      case steps =>
        intro vals
        simp only [List.take_succ_cons, List.take_zero, freeSteps, Act.put, List.setIfInBounds_toArray, List.set_cons_zero, List.set_cons_succ, Nat.reduceAdd]
        refine ⟨fun w8 hG hW => ?_, fun w8 hG hW => ?_, fun w8 hG hW => ?_, fun w8 hG hW => ?_, fun w8 hG hW => ?_, fun w8 hG hW => ?_, fun w8 hG hW => ?_, fun w8 hG hW => ?_, trivial⟩
        · clear hW
          refine stepAt_value rfl rfl rfl (.pointer (some ⟨X, 2, none⟩)) w8 ?_ ⟨rfl, Below.refl _ _⟩
          go_simp
        · have q0 := hW 0 (by decide)
          simp only at q0
          rw [q0]
          clear hW
          refine stepAt_value rfl rfl rfl (.int .i64 c.s) w8 ?_ ⟨rfl, Below.refl _ _⟩
          have cc := (HX.out.below hG HX.out.lt).cell 2
          simp only [ccl, List.getElem?_cons_zero, List.getElem?_cons_succ] at cc
          go_simp
        · clear hW
          refine stepAt_value rfl rfl rfl (.pointer (some ⟨X, 2, none⟩)) w8 ?_ ⟨rfl, Below.refl _ _⟩
          go_simp
        · have q2 := hW 2 (by decide)
          simp only at q2
          rw [q2]
          clear hW
          refine stepAt_value rfl rfl rfl (.int .i64 c.s) w8 ?_ ⟨rfl, Below.refl _ _⟩
          have cc := (HX.out.below hG HX.out.lt).cell 2
          simp only [ccl, List.getElem?_cons_zero, List.getElem?_cons_succ] at cc
          go_simp
        · clear hW
          refine stepAt_value rfl rfl rfl (.int .i64 (K : Int)) w8 ?_ ⟨rfl, Below.refl _ _⟩
          go_simp
        · have q3 := hW 3 (by decide)
          simp only at q3
          have q4 := hW 4 (by decide)
          simp only at q4
          rw [q3, q4]
          clear hW
          have hk00 := HK0.out
          refine stepAt_value rfl rfl rfl (.int .i64 (c.s.tmod (K : Int))) w8 ?_ ⟨rfl, Below.refl _ _⟩
          go_simp
        · have q1 := hW 1 (by decide)
          simp only at q1
          have q5 := hW 5 (by decide)
          simp only at q5
          rw [q1, q5]
          clear hW
          refine stepAt_value rfl rfl rfl (.int .i64 s2) w8 ?_ ⟨rfl, Below.refl _ _⟩
          go_simp
          exact HMD.out
        · clear hW
          refine stepAt_value rfl rfl rfl (.pointer (some ⟨V, 1, none⟩)) w8 ?_ ⟨rfl, Below.refl _ _⟩
          go_simp
      case fin =>
        intro vals w9 hG hV
        have q6 := hV 6 (by omega)
        simp only at q6
        have q7 := hV 7 (by omega)
        simp only at q7
        simp only [List.take_succ_cons, List.take_zero, List.drop_succ_cons, List.drop_zero, putAll, Act.put, List.setIfInBounds_toArray, List.set_cons_zero, List.set_cons_succ, Nat.reduceAdd]
        rw [q6, q7]
        clear hV q6 q7
        generalize vals 0 = y0
        generalize vals 1 = y1
        generalize vals 2 = y2
        generalize vals 3 = y3
        generalize vals 4 = y4
        generalize vals 5 = y5
        replace HT := Lib.hid (HT.out.below hG)
        replace HX := Lib.hid (HX.out.below hG HX.out.lt)
        replace HV := Lib.hid (HV.out.below hG HV.out.lt)
        clear hG
        have cv := HV.out.cell 1
        have fv := HV.out.free 1
        have HV2 := Lib.hid (HV.out.set 1 (.int .i64 s2))
        simp only [vcl, ctv, List.getElem?_cons_zero, List.getElem?_cons_succ] at cv
        have hkv : Kept [V] w9 (w9.setCell ⟨V, 1, none⟩ (.int .i64 s2)) := (Kept.refl _ _).setCell _ _ (.inl (by simp))
        replace HT := Lib.hid (HT.out.other hkv (fun x hx => by simp at hx; subst hx; exact HAV.out) (fun x hx => by simp at hx; rw [hx]; exact HVB.out))
        replace HX := Lib.hid (HX.out.kept hkv (by simp; exact HXV.out))
        go_upto_region 15 with fail
        clear cv fv hkv HV
        have HV := Lib.hid (show Blk (w9.setCell ⟨V, 1, none⟩ (.int .i64 s2)) V 29 (vcl ⟨c.w, s2, nmN c.n⟩) from HV2.out)
        clear HV2
        generalize w9.setCell ⟨V, 1, none⟩ (.int .i64 s2) = wA at HX HV HT ⊢
        try simp only [Act.put]
        have HCT := Lib.hid (show cntA ua c.w = cntA (takeT tb ⟨c.w, s2, nmN c.n⟩).2 c.w from HPN.out.2.cnt c.w)
        have HCO2 := Lib.hid HPN.out.1
        have HPX := Lib.hid HPN.out.2
        clear HPN
        obtain ⟨ub, hub⟩ : ∃ ub, ub = (takeT tb ⟨c.w, s2, nmN c.n⟩).2 := ⟨_, rfl⟩
        rw [← hub] at HCT HPX
        have HUB := Lib.hid hub
        obtain ⟨C, hC⟩ : ∃ C, C = cntA ua c.w := ⟨_, rfl⟩
        have HC1 := Lib.hid hC.symm
        have HC2 := Lib.hid (show cntA ub c.w = C from HCT.out.symm.trans hC.symm)
        clear hub hC HCT
        have HLN := Lib.hid (show (nmN c.n).length = 32 from nmN_len c.n)
        cases C with
        | true =>
          refine wp_region_freeL (P := Try.prog) 15 2 (by decide) wA (fun oq => match oq with
              | 0 => .pointer (some ⟨b2, 0, none⟩)
              | 1 => .agg (vcl ⟨c.w, s2, nmN c.n⟩).toArray
              | 2 => .int .i64 CO
              | 3 => .int .i64 CO
              | 4 => .bool false
              | 5 => .bool false
              | 6 => .pointer (some ⟨b1, 0, none⟩)
              | 7 => .pointer (some ⟨X, 1, none⟩)
              | 8 => .int .i64 c.w
              | 9 => .bool true
              | 10 => .pointer (some ⟨b2, 0, none⟩)
              | 11 => .pointer (some ⟨X, 1, none⟩)
              | 12 => .int .i64 c.w
              | 13 => .bool true
              | 14 => .bool false
              | _ => undef) (fun w' => T2 w b1 m1 t1 b2 m2 t2 ua ub w' ∧ Blk w' V 29 (vcl ⟨c.w, s2, nmN c.n⟩) ∧ Blk w' X 41 (ccl c)) (fun oq => decide (4 ≤ oq)) (by kernel_rfl) (by kernel_rfl) ?bl ?pb ?steps ?fin
          case bl => exact (Below.refl _ _).drew
          case pb => exact fun a b h hb => ⟨h.1.below hb, h.2.1.below hb h.2.1.lt, h.2.2.below hb h.2.2.lt⟩
          case steps =>
            intro vals
            simp only [List.take_succ_cons, List.take_zero, freeStepsL, Act.put, List.setIfInBounds_toArray, List.set_cons_zero, List.set_cons_succ, Nat.reduceAdd, Nat.reduceEqDiff, Nat.reduceLeDiff, decide_eq_true_eq, reduceIte]
            refine ⟨fun w8 hG hW => ?_, fun w8 hG hW => ?_, fun w8 hG hW => ?_, fun w8 hG hW => ?_, ?_, ?_, ?_, ?_, ?_, ?_, ?_, ?_, ?_, ?_, ?_, trivial⟩
            · clear hW
              refine stepAt_value rfl rfl rfl (.pointer (some ⟨b2, 0, none⟩)) w8 ?_ ⟨rfl, Below.refl _ _⟩
              go_simp
            · clear hW
              have hbv : Blk w8 V 29 (vcl ⟨c.w, s2, nmN c.n⟩) := by
                rcases hG with hG | hG
                · exact HV.out.below hG HV.out.lt
                · exact hG.2.1
              refine stepAt_load_run rfl rfl rfl _ _ rfl _ _ rfl (run_load_vote (v := ⟨c.w, s2, nmN c.n⟩) HLN.out hbv.voteAll) ⟨rfl, Below.refl _ _⟩
            · have q0 := hW 0 (by decide)
              simp only at q0
              have q1 := hW 1 (by decide)
              simp only at q1
              rw [q0, q1]
              clear hW
              refine stepAt_call rfl rfl rfl 13 #[.pointer (some ⟨b2, 0, none⟩), .agg (vcl ⟨c.w, s2, nmN c.n⟩).toArray] (by go_simp) ((take_any w8 b2 m2 t2 tb ⟨c.w, s2, nmN c.n⟩ (HT.out.below hG).q HLN.out HLB.out).mono fun e w' ⟨h1, h2, h3⟩ => ⟨_, h1, congrArg (Value.int .i64) HCO2.out.symm, (HT.out.below hG).setq (by rw [HUB.out]; exact h2) h3, (HV.out.below hG HV.out.lt).kept h3 HAV.out.2, (HX.out.below hG HX.out.lt).kept h3 HAW.out.2⟩)
            · clear hW
              refine stepAt_value rfl rfl rfl (.int .i64 CO) w8 ?_ ⟨rfl, Below.refl _ _⟩
              go_simp
            · refine ⟨⟨2, by decide, by decide⟩, fun w8 hG hW => ?_⟩
              have q2 := hW 2 (by decide)
              simp only at q2
              have q3 := hW 3 (by decide)
              simp only at q3
              rw [q2, q3]
              clear hW
              refine stepAt_value rfl rfl rfl (.bool false) w8 ?_ ⟨rfl, Below.refl _ _⟩
              have hco : ((CO == CO) = true) := beq_self_eq_true CO
              go_simp
            · refine ⟨⟨4, by decide, by decide⟩, fun w8 hG hW => ?_⟩
              have q4 := hW 4 (by decide)
              simp only at q4
              rw [q4]
              clear hW
              refine stepAt_value rfl rfl rfl (.bool false) w8 ?_ ⟨rfl, Below.refl _ _⟩
              go_simp
            · refine ⟨⟨5, by decide, by decide⟩, fun w8 hG hW => ?_⟩
              have q5 := hW 5 (by decide)
              simp only at q5
              rw [q5]
              clear hW
              refine stepAt_value rfl rfl rfl (.pointer (some ⟨b1, 0, none⟩)) w8 ?_ ⟨rfl, Below.refl _ _⟩
              go_simp
            · refine ⟨⟨5, by decide, by decide⟩, fun w8 hG hW => ?_⟩
              have q5 := hW 5 (by decide)
              simp only at q5
              rw [q5]
              clear hW
              refine stepAt_value rfl rfl rfl (.pointer (some ⟨X, 1, none⟩)) w8 ?_ ⟨rfl, Below.refl _ _⟩
              go_simp
            · refine ⟨⟨5, by decide, by decide⟩, fun w8 hG hW => ?_⟩
              have q5 := hW 5 (by decide)
              simp only at q5
              have q7 := hW 7 (by decide)
              simp only at q7
              rw [q5, q7]
              clear hW
              refine stepAt_value rfl rfl rfl (.int .i64 c.w) w8 ?_ ⟨rfl, Below.refl _ _⟩
              have cc := hG.2.2.cell 1
              simp only [ccl, List.getElem?_cons_zero, List.getElem?_cons_succ] at cc
              go_simp
            · refine ⟨⟨5, by decide, by decide⟩, fun w8 hG hW => ?_⟩
              have q5 := hW 5 (by decide)
              simp only at q5
              have q6 := hW 6 (by decide)
              simp only at q6
              have q8 := hW 8 (by decide)
              simp only at q8
              rw [q5, q6, q8]
              clear hW
              refine stepAt_call rfl rfl rfl 14 #[.pointer (some ⟨b1, 0, none⟩), .int .i64 c.w] (by go_simp) ((counts_any w8 b1 m1 t1 ua c.w hG.1.p).mono fun e w' ⟨h1, h2⟩ => ⟨_, h1, congrArg Value.bool HC1.out, by rw [h2]; exact Below.refl _ _⟩)
            · refine ⟨⟨5, by decide, by decide⟩, fun w8 hG hW => ?_⟩
              have q5 := hW 5 (by decide)
              simp only at q5
              rw [q5]
              clear hW
              refine stepAt_value rfl rfl rfl (.pointer (some ⟨b2, 0, none⟩)) w8 ?_ ⟨rfl, Below.refl _ _⟩
              go_simp
            · refine ⟨⟨5, by decide, by decide⟩, fun w8 hG hW => ?_⟩
              have q5 := hW 5 (by decide)
              simp only at q5
              rw [q5]
              clear hW
              refine stepAt_value rfl rfl rfl (.pointer (some ⟨X, 1, none⟩)) w8 ?_ ⟨rfl, Below.refl _ _⟩
              go_simp
            · refine ⟨⟨5, by decide, by decide⟩, fun w8 hG hW => ?_⟩
              have q5 := hW 5 (by decide)
              simp only at q5
              have q11 := hW 11 (by decide)
              simp only at q11
              rw [q5, q11]
              clear hW
              refine stepAt_value rfl rfl rfl (.int .i64 c.w) w8 ?_ ⟨rfl, Below.refl _ _⟩
              have cc := hG.2.2.cell 1
              simp only [ccl, List.getElem?_cons_zero, List.getElem?_cons_succ] at cc
              go_simp
            · refine ⟨⟨5, by decide, by decide⟩, fun w8 hG hW => ?_⟩
              have q5 := hW 5 (by decide)
              simp only at q5
              have q10 := hW 10 (by decide)
              simp only at q10
              have q12 := hW 12 (by decide)
              simp only at q12
              rw [q5, q10, q12]
              clear hW
              refine stepAt_call rfl rfl rfl 14 #[.pointer (some ⟨b2, 0, none⟩), .int .i64 c.w] (by go_simp) ((counts_any w8 b2 m2 t2 ub c.w hG.1.q).mono fun e w' ⟨h1, h2⟩ => ⟨_, h1, congrArg Value.bool HC2.out, by rw [h2]; exact Below.refl _ _⟩)
            · refine ⟨⟨5, by decide, by decide⟩, fun w8 hG hW => ?_⟩
              have q5 := hW 5 (by decide)
              simp only at q5
              have q9 := hW 9 (by decide)
              simp only at q9
              have q13 := hW 13 (by decide)
              simp only at q13
              rw [q5, q9, q13]
              clear hW
              refine stepAt_value rfl rfl rfl (.bool false) w8 ?_ ⟨rfl, Below.refl _ _⟩
              go_simp
          case fin =>
            intro vals wB hV hG
            have q5 := hV 5 (by omega)
            simp only at q5
            have q14 := hV 14 (by omega)
            simp only at q14
            simp only [List.take_succ_cons, List.take_zero, List.drop_succ_cons, List.drop_zero, putAll, Act.put, List.setIfInBounds_toArray, List.set_cons_zero, List.set_cons_succ, Nat.reduceAdd]
            rw [q5, q14]
            clear hV q5 q14
            generalize vals 0 = y0
            generalize vals 1 = y1
            generalize vals 2 = y2
            generalize vals 3 = y3
            generalize vals 4 = y4
            generalize vals 6 = y6
            generalize vals 7 = y7
            generalize vals 8 = y8
            generalize vals 9 = y9
            generalize vals 10 = y10
            generalize vals 11 = y11
            generalize vals 12 = y12
            generalize vals 13 = y13
            have HTB := Lib.hid hG.1
            clear hG HT HX HV
            have HT := HTB
            clear HTB
            go_wp2_with fail
            go_roundw
            case rel => exact ⟨j + 1, ua, ub, by omega, by have := HUA.out.1; have := HJA.out; omega, by go_num, Lib.hid ⟨HPX.out, HUA.out.2⟩, HT⟩
            case measure => simp [intOf]; omega
        | false =>
          refine wp_region_freeL (P := Try.prog) 15 2 (by decide) wA (fun oq => match oq with
              | 0 => .pointer (some ⟨b2, 0, none⟩)
              | 1 => .agg (vcl ⟨c.w, s2, nmN c.n⟩).toArray
              | 2 => .int .i64 CO
              | 3 => .int .i64 CO
              | 4 => .bool false
              | 5 => .bool false
              | 6 => .pointer (some ⟨b1, 0, none⟩)
              | 7 => .pointer (some ⟨X, 1, none⟩)
              | 8 => .int .i64 c.w
              | 9 => .bool false
              | 10 => .pointer (some ⟨b2, 0, none⟩)
              | 11 => .pointer (some ⟨X, 1, none⟩)
              | 12 => .int .i64 c.w
              | 13 => .bool false
              | 14 => .bool false
              | _ => undef) (fun w' => T2 w b1 m1 t1 b2 m2 t2 ua ub w' ∧ Blk w' V 29 (vcl ⟨c.w, s2, nmN c.n⟩) ∧ Blk w' X 41 (ccl c)) (fun oq => decide (4 ≤ oq)) (by kernel_rfl) (by kernel_rfl) ?bl ?pb ?steps ?fin
          case bl => exact (Below.refl _ _).drew
          case pb => exact fun a b h hb => ⟨h.1.below hb, h.2.1.below hb h.2.1.lt, h.2.2.below hb h.2.2.lt⟩
          case steps =>
            intro vals
            simp only [List.take_succ_cons, List.take_zero, freeStepsL, Act.put, List.setIfInBounds_toArray, List.set_cons_zero, List.set_cons_succ, Nat.reduceAdd, Nat.reduceEqDiff, Nat.reduceLeDiff, decide_eq_true_eq, reduceIte]
            refine ⟨fun w8 hG hW => ?_, fun w8 hG hW => ?_, fun w8 hG hW => ?_, fun w8 hG hW => ?_, ?_, ?_, ?_, ?_, ?_, ?_, ?_, ?_, ?_, ?_, ?_, trivial⟩
            · clear hW
              refine stepAt_value rfl rfl rfl (.pointer (some ⟨b2, 0, none⟩)) w8 ?_ ⟨rfl, Below.refl _ _⟩
              go_simp
            · clear hW
              have hbv : Blk w8 V 29 (vcl ⟨c.w, s2, nmN c.n⟩) := by
                rcases hG with hG | hG
                · exact HV.out.below hG HV.out.lt
                · exact hG.2.1
              refine stepAt_load_run rfl rfl rfl _ _ rfl _ _ rfl (run_load_vote (v := ⟨c.w, s2, nmN c.n⟩) HLN.out hbv.voteAll) ⟨rfl, Below.refl _ _⟩
            · have q0 := hW 0 (by decide)
              simp only at q0
              have q1 := hW 1 (by decide)
              simp only at q1
              rw [q0, q1]
              clear hW
              refine stepAt_call rfl rfl rfl 13 #[.pointer (some ⟨b2, 0, none⟩), .agg (vcl ⟨c.w, s2, nmN c.n⟩).toArray] (by go_simp) ((take_any w8 b2 m2 t2 tb ⟨c.w, s2, nmN c.n⟩ (HT.out.below hG).q HLN.out HLB.out).mono fun e w' ⟨h1, h2, h3⟩ => ⟨_, h1, congrArg (Value.int .i64) HCO2.out.symm, (HT.out.below hG).setq (by rw [HUB.out]; exact h2) h3, (HV.out.below hG HV.out.lt).kept h3 HAV.out.2, (HX.out.below hG HX.out.lt).kept h3 HAW.out.2⟩)
            · clear hW
              refine stepAt_value rfl rfl rfl (.int .i64 CO) w8 ?_ ⟨rfl, Below.refl _ _⟩
              go_simp
            · refine ⟨⟨2, by decide, by decide⟩, fun w8 hG hW => ?_⟩
              have q2 := hW 2 (by decide)
              simp only at q2
              have q3 := hW 3 (by decide)
              simp only at q3
              rw [q2, q3]
              clear hW
              refine stepAt_value rfl rfl rfl (.bool false) w8 ?_ ⟨rfl, Below.refl _ _⟩
              have hco : ((CO == CO) = true) := beq_self_eq_true CO
              go_simp
            · refine ⟨⟨4, by decide, by decide⟩, fun w8 hG hW => ?_⟩
              have q4 := hW 4 (by decide)
              simp only at q4
              rw [q4]
              clear hW
              refine stepAt_value rfl rfl rfl (.bool false) w8 ?_ ⟨rfl, Below.refl _ _⟩
              go_simp
            · refine ⟨⟨5, by decide, by decide⟩, fun w8 hG hW => ?_⟩
              have q5 := hW 5 (by decide)
              simp only at q5
              rw [q5]
              clear hW
              refine stepAt_value rfl rfl rfl (.pointer (some ⟨b1, 0, none⟩)) w8 ?_ ⟨rfl, Below.refl _ _⟩
              go_simp
            · refine ⟨⟨5, by decide, by decide⟩, fun w8 hG hW => ?_⟩
              have q5 := hW 5 (by decide)
              simp only at q5
              rw [q5]
              clear hW
              refine stepAt_value rfl rfl rfl (.pointer (some ⟨X, 1, none⟩)) w8 ?_ ⟨rfl, Below.refl _ _⟩
              go_simp
            · refine ⟨⟨5, by decide, by decide⟩, fun w8 hG hW => ?_⟩
              have q5 := hW 5 (by decide)
              simp only at q5
              have q7 := hW 7 (by decide)
              simp only at q7
              rw [q5, q7]
              clear hW
              refine stepAt_value rfl rfl rfl (.int .i64 c.w) w8 ?_ ⟨rfl, Below.refl _ _⟩
              have cc := hG.2.2.cell 1
              simp only [ccl, List.getElem?_cons_zero, List.getElem?_cons_succ] at cc
              go_simp
            · refine ⟨⟨5, by decide, by decide⟩, fun w8 hG hW => ?_⟩
              have q5 := hW 5 (by decide)
              simp only at q5
              have q6 := hW 6 (by decide)
              simp only at q6
              have q8 := hW 8 (by decide)
              simp only at q8
              rw [q5, q6, q8]
              clear hW
              refine stepAt_call rfl rfl rfl 14 #[.pointer (some ⟨b1, 0, none⟩), .int .i64 c.w] (by go_simp) ((counts_any w8 b1 m1 t1 ua c.w hG.1.p).mono fun e w' ⟨h1, h2⟩ => ⟨_, h1, congrArg Value.bool HC1.out, by rw [h2]; exact Below.refl _ _⟩)
            · refine ⟨⟨5, by decide, by decide⟩, fun w8 hG hW => ?_⟩
              have q5 := hW 5 (by decide)
              simp only at q5
              rw [q5]
              clear hW
              refine stepAt_value rfl rfl rfl (.pointer (some ⟨b2, 0, none⟩)) w8 ?_ ⟨rfl, Below.refl _ _⟩
              go_simp
            · refine ⟨⟨5, by decide, by decide⟩, fun w8 hG hW => ?_⟩
              have q5 := hW 5 (by decide)
              simp only at q5
              rw [q5]
              clear hW
              refine stepAt_value rfl rfl rfl (.pointer (some ⟨X, 1, none⟩)) w8 ?_ ⟨rfl, Below.refl _ _⟩
              go_simp
            · refine ⟨⟨5, by decide, by decide⟩, fun w8 hG hW => ?_⟩
              have q5 := hW 5 (by decide)
              simp only at q5
              have q11 := hW 11 (by decide)
              simp only at q11
              rw [q5, q11]
              clear hW
              refine stepAt_value rfl rfl rfl (.int .i64 c.w) w8 ?_ ⟨rfl, Below.refl _ _⟩
              have cc := hG.2.2.cell 1
              simp only [ccl, List.getElem?_cons_zero, List.getElem?_cons_succ] at cc
              go_simp
            · refine ⟨⟨5, by decide, by decide⟩, fun w8 hG hW => ?_⟩
              have q5 := hW 5 (by decide)
              simp only at q5
              have q10 := hW 10 (by decide)
              simp only at q10
              have q12 := hW 12 (by decide)
              simp only at q12
              rw [q5, q10, q12]
              clear hW
              refine stepAt_call rfl rfl rfl 14 #[.pointer (some ⟨b2, 0, none⟩), .int .i64 c.w] (by go_simp) ((counts_any w8 b2 m2 t2 ub c.w hG.1.q).mono fun e w' ⟨h1, h2⟩ => ⟨_, h1, congrArg Value.bool HC2.out, by rw [h2]; exact Below.refl _ _⟩)
            · refine ⟨⟨5, by decide, by decide⟩, fun w8 hG hW => ?_⟩
              have q5 := hW 5 (by decide)
              simp only at q5
              have q9 := hW 9 (by decide)
              simp only at q9
              have q13 := hW 13 (by decide)
              simp only at q13
              rw [q5, q9, q13]
              clear hW
              refine stepAt_value rfl rfl rfl (.bool false) w8 ?_ ⟨rfl, Below.refl _ _⟩
              go_simp
          case fin =>
            intro vals wB hV hG
            have q5 := hV 5 (by omega)
            simp only at q5
            have q14 := hV 14 (by omega)
            simp only at q14
            simp only [List.take_succ_cons, List.take_zero, List.drop_succ_cons, List.drop_zero, putAll, Act.put, List.setIfInBounds_toArray, List.set_cons_zero, List.set_cons_succ, Nat.reduceAdd]
            rw [q5, q14]
            clear hV q5 q14
            generalize vals 0 = y0
            generalize vals 1 = y1
            generalize vals 2 = y2
            generalize vals 3 = y3
            generalize vals 4 = y4
            generalize vals 6 = y6
            generalize vals 7 = y7
            generalize vals 8 = y8
            generalize vals 9 = y9
            generalize vals 10 = y10
            generalize vals 11 = y11
            generalize vals 12 = y12
            generalize vals 13 = y13
            have HTB := Lib.hid hG.1
            clear hG HT HX HV
            have HT := HTB
            clear HTB
            go_wp2_with fail
            go_roundw
            case rel => exact ⟨j + 1, ua, ub, by omega, by have := HUA.out.1; have := HJA.out; omega, by go_num, Lib.hid ⟨HPX.out, HUA.out.2⟩, HT⟩
            case measure => simp [intOf]; omega
    · obtain rfl : j = len := by omega
      obtain ⟨w4, hw4⟩ : ∃ w4, w4 = wr := ⟨_, rfl⟩
      rw [← hw4] at HT ⊢
      clear hw4 hlt hja
      go_wp2_with fail
      refine (marks_any w4 b1 m1 t1 ta HT.out.p).mono ?_
      rintro e w4 ⟨rfl, rfl⟩
      go_wp2_with fail
      refine (marks_any w4 b2 m2 t2 tb HT.out.q).mono ?_
      rintro e w4 ⟨rfl, rfl⟩
      rw [← HP.out.1.fs]
      go_wp2_with fail
      go_ret
      exact ⟨by simp, HT.out.bl⟩
end Go.Proofs.Ytoinigcfcjllcaa
