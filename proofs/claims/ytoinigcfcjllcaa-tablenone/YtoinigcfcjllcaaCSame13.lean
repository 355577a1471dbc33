/-
  The texts Same13, one behind the other.
-/
import Derived.Test.YtoinigcfcjllcaaNoneM8
import Derived.Test.YtoinigcfcjllcaaNoneM9
import Derived.Test.YtoinigcfcjllcaaCFreeS
/-
  The law's same: a table at what the document's is at.
-/
namespace Go.Proofs.Ytoinigcfcjllcaa
open Go Go.RowKit
set_option maxRecDepth 10000

theorem cnt_val (H O : Bool) : (H != H) = false ∧ (O != O) = false := by cases H <;> cases O <;> exact ⟨rfl, rfl⟩
set_option maxHeartbeats 16000000 in
theorem same_any (w : World) (b m g rb g1 g2 g3 : Nat) (F : List Nat) (v : Value) (t : Tb) (h1 : TP w b m g t) (h2 : RP w F rb g1 g2 g3 v t) :
    Calls Try.prog 21 #[.pointer (some ⟨b, 0, none⟩), .pointer (some ⟨rb, 0, none⟩)] w fun e w' => e = .returned (.bool true) ∧ Below w.heap.size w w' := by
  have HT0 := Lib.hid h1
  have HR0 := Lib.hid h2
  have HTL := Lib.hid h1.low
  have HRL := Lib.hid h2.low
  have hn2 := h1.fit.gd.n2
  clear h1 h2
  go_enter Try.func21, Try.ntmps21
  go_wp2_with fail
  go_loopw [5] (fun i wr => ∃ (x : Int), -1 ≤ x ∧ x ≤ (t.n : Int) + 1 ∧ i = .int .i64 x ∧ Hid (Below w.heap.size w wr)) (fun i _ => (t.n : Int).toNat + 3 - (intOf i + 1).toNat)
  case atStart => exact ⟨-1, by omega, by omega, rfl, Lib.hid (Below.refl _ _)⟩
  case round =>
    obtain ⟨x, hx0, hx1, rfl, HBL⟩ := hrel
    have HT := Lib.hid (HT0.out.below HBL.out)
    have HR := Lib.hid (HR0.out.below HBL.out)
    have HXW := Lib.hid (show wrap64 (x + 1) = x + 1 by unfold wrap64; omega)
    have cn := HR.out.cell0
    by_cases hlt : x ≤ (t.n : Int)
    · go_upto_region 4 with fail
      clear cn
      go_wp2_with fail
      refine (vote_any wr b m g t x HT.out).mono ?_
      rintro e w2 ⟨rfl, hb2⟩
      have HVVL := Lib.hid (show (voteA t x).g.length = 32 by unfold voteA; split; exact (HT.out.fit.l _).1; exact vt0_len)
      obtain ⟨vx, hvx⟩ : ∃ vx, vx = voteA t x := ⟨_, rfl⟩
      obtain ⟨hs, hhs⟩ : ∃ hs, hs = hasA t x := ⟨_, rfl⟩
      have HVE := Lib.hid hvx
      have HHE := Lib.hid hhs
      rw [← hvx] at HVVL ⊢
      rw [← hhs]
      have HX0 := Lib.hid (zero_voteC w2)
      have HB2 := Lib.hid (HBL.out.trans (hb2.mono HBL.out.size))
      clear hvx hhs
      go_upto_region 5 with ((with_reducible refine wpList_store_vote (.tmp 6) (.tmp 23) ?_ ?_ w2.heap.size vt0 vx ?_ ?_ HX0.out vt0_len HVVL.out ?_); rfl; rfl; rfl; rfl)
      try simp only [Act.put]
      obtain ⟨X, hX⟩ : ∃ X, X = w2.heap.size := ⟨_, rfl⟩
      have hsz2 := HB2.out.size
      rw [← hX] at HX0 ⊢
      have HBX := Lib.hid (below_row ((Below.refl w2.heap.size w2).alloc (Nat.le_refl _) (.cells #[.int .i64 0, .int .i64 0, .int .u8 0, .int .u8 0, .int .u8 0, .int .u8 0, .int .u8 0, .int .u8 0, .int .u8 0, .int .u8 0, .int .u8 0, .int .u8 0, .int .u8 0, .int .u8 0, .int .u8 0, .int .u8 0, .int .u8 0, .int .u8 0, .int .u8 0, .int .u8 0, .int .u8 0, .int .u8 0, .int .u8 0, .int .u8 0, .int .u8 0, .int .u8 0, .int .u8 0, .int .u8 0, .int .u8 0, .int .u8 0, .int .u8 0, .int .u8 0, .int .u8 0, .int .u8 0] 29)) (show w2.heap.size ≤ X by omega) (vcl vx).toArray)
      have HX := Lib.hid (HX0.out.setRow (vcl vx))
      have HXL := Lib.hid (show w.heap.size ≤ X by omega)
      have HB3 := Lib.hid (HB2.out.trans (HBX.out.mono HB2.out.size))
      clear HX0 hX hsz2 HB2 HBX HT HR HBL hb2
      generalize (w2.alloc (.cells #[.int .i64 0, .int .i64 0, .int .u8 0, .int .u8 0, .int .u8 0, .int .u8 0, .int .u8 0, .int .u8 0, .int .u8 0, .int .u8 0, .int .u8 0, .int .u8 0, .int .u8 0, .int .u8 0, .int .u8 0, .int .u8 0, .int .u8 0, .int .u8 0, .int .u8 0, .int .u8 0, .int .u8 0, .int .u8 0, .int .u8 0, .int .u8 0, .int .u8 0, .int .u8 0, .int .u8 0, .int .u8 0, .int .u8 0, .int .u8 0, .int .u8 0, .int .u8 0, .int .u8 0, .int .u8 0] 29)).setRow X (vcl vx).toArray = w3 at HX HB3 ⊢
      go_upto_region 7 with fail
      obtain ⟨V, hV⟩ : ∃ V, V = w3.heap.size := ⟨_, rfl⟩
      have HV := Lib.hid (zero_voteC w3)
      rw [← hV] at HV ⊢
      have HXV := Lib.hid (show X ≠ V by have := HX.out.lt; omega)
      have HVL2 := Lib.hid (show w.heap.size ≤ V by have := HB3.out.size; omega)
      have HXN := Lib.hid (HX.out.alloc (.cells #[.int .i64 0, .int .i64 0, .int .u8 0, .int .u8 0, .int .u8 0, .int .u8 0, .int .u8 0, .int .u8 0, .int .u8 0, .int .u8 0, .int .u8 0, .int .u8 0, .int .u8 0, .int .u8 0, .int .u8 0, .int .u8 0, .int .u8 0, .int .u8 0, .int .u8 0, .int .u8 0, .int .u8 0, .int .u8 0, .int .u8 0, .int .u8 0, .int .u8 0, .int .u8 0, .int .u8 0, .int .u8 0, .int .u8 0, .int .u8 0, .int .u8 0, .int .u8 0, .int .u8 0, .int .u8 0] 29))
      have HB := Lib.hid (HB3.out.alloc HB3.out.size (.cells #[.int .i64 0, .int .i64 0, .int .u8 0, .int .u8 0, .int .u8 0, .int .u8 0, .int .u8 0, .int .u8 0, .int .u8 0, .int .u8 0, .int .u8 0, .int .u8 0, .int .u8 0, .int .u8 0, .int .u8 0, .int .u8 0, .int .u8 0, .int .u8 0, .int .u8 0, .int .u8 0, .int .u8 0, .int .u8 0, .int .u8 0, .int .u8 0, .int .u8 0, .int .u8 0, .int .u8 0, .int .u8 0, .int .u8 0, .int .u8 0, .int .u8 0, .int .u8 0, .int .u8 0, .int .u8 0] 29))
      clear HX HB3 hV
      have HX := HXN
      clear HXN
      generalize w3.alloc (.cells #[.int .i64 0, .int .i64 0, .int .u8 0, .int .u8 0, .int .u8 0, .int .u8 0, .int .u8 0, .int .u8 0, .int .u8 0, .int .u8 0, .int .u8 0, .int .u8 0, .int .u8 0, .int .u8 0, .int .u8 0, .int .u8 0, .int .u8 0, .int .u8 0, .int .u8 0, .int .u8 0, .int .u8 0, .int .u8 0, .int .u8 0, .int .u8 0, .int .u8 0, .int .u8 0, .int .u8 0, .int .u8 0, .int .u8 0, .int .u8 0, .int .u8 0, .int .u8 0, .int .u8 0, .int .u8 0] 29) = w4 at HX HV HB ⊢
      have HT := Lib.hid (HT0.out.below HB.out)
      have HR := Lib.hid (HR0.out.below HB.out)
      have HTV := Lib.hid (show Away [b, m, g] [V] from fun x hx hm => by have := HTL.out x hx; have := HVL2.out; simp at hm; omega)
      have HRV := Lib.hid (show Away F [V] from fun x hx hm => by have := HRL.out x hx; have := HVL2.out; simp at hm; omega)
      go_wp2_with fail
      refine (ris_any w4 F rb g1 g2 g3 v t x HR.out).mono ?_
      rintro e w5 ⟨rfl, rfl⟩
      cases hi : isW t x with
      | false =>
        have HCN := Lib.hid (show cntA t x = false by rw [cntA, hi]; rfl)
        have hv0 := HVE.out
        have hh0 := HHE.out
        unfold voteA at hv0
        unfold hasA at hh0
        rw [hi] at hv0 hh0
        simp only [Bool.false_and, Bool.false_eq_true, if_false] at hv0 hh0
        subst hv0
        subst hh0
        clear hi
        have HXA := Lib.hid HX.out.voteAll
        have HVA := Lib.hid HV.out.voteAll
        go_wp2_with (first
          | ((with_reducible refine wpList_load_vote (.tmp 6) ?_ ?_ X 0 (vt0) ?_ HVVL.out HXA.out ?_); rfl; rfl; rfl)
          | ((with_reducible refine wpList_load_vote (.tmp 8) ?_ ?_ V 0 (vt0) ?_ HVVL.out HVA.out ?_); rfl; rfl; rfl)
          | ((with_reducible refine wpList_neq_vt (.tmp 50) (.tmp 51) 29 ?_ ?_ (vt0) (vt0) ?_ ?_ HVVL.out HVVL.out ?_); rfl; rfl; rfl; rfl; rw [eqV_self]))
        refine (counts_any w5 b m g t _ HT.out).mono ?_
        rintro e w5 ⟨rfl, rfl⟩
        rw [HCN.out]
        go_wp2_with fail
        go_roundw
        case rel => exact ⟨_, by omega, by omega, rfl, HB⟩
        case measure => simp only [intOf]; omega
      | true =>
        obtain ⟨k, hkx, hk⟩ := isW_nat hi
        have HCN := Lib.hid (show cntA t x = !otN t k by rw [cntA, hi, hkx]; rfl)
        have hv0 := HVE.out
        have hh0 := HHE.out
        unfold voteA at hv0
        unfold hasA at hh0
        rw [hi, hkx, Int.toNat_natCast] at hv0 hh0
        simp only [Bool.true_and, if_true] at hv0 hh0
        have HKX := Lib.hid hkx
        have HKN := Lib.hid (show (k : Int) < (t.n : Int) by omega)
        clear hi
        subst hkx
        subst hv0
        subst hh0
        have HVL := HVVL
        go_upto_region 8 with fail
        refine wp_region_freeT (P := Try.prog) 24 (fun w' => Kept [V] w5 w' ∧ ∃ u : Vt, u.g.length = 32 ∧ Blk w' V 29 (vcl u)) (fun oq v w' => match oq with
            | 0 => v = .pointer (some ⟨rb, 0, none⟩)
            | 1 => v = .pointer (some ⟨rb, 0, none⟩)
            | 2 => v = .pointer (some ⟨rb, 3, none⟩)
            | 3 => v = .slice (some ⟨g1, 0, none⟩) t.n t.n
            | 4 => v = .int .i64 (k : Int)
            | 5 => v = .pointer (some ⟨g1, k * 34, none⟩)
            | 6 => v = .agg (vcl (ltN t k)).toArray
            | 7 => v = .pointer (some ⟨rb, 0, none⟩)
            | 8 => v = .pointer (some ⟨rb, 0, none⟩)
            | 9 => v = .pointer (some ⟨rb, 4, none⟩)
            | 10 => v = .slice (some ⟨g2, 0, none⟩) t.n t.n
            | 11 => v = .int .i64 (k : Int)
            | 12 => v = .pointer (some ⟨g2, k, none⟩)
            | 13 => v = .bool (hsN t k)
            | 14 => v = .pointer (some ⟨rb, 0, none⟩)
            | 15 => v = .pointer (some ⟨rb, 0, none⟩)
            | 16 => v = .pointer (some ⟨rb, 5, none⟩)
            | 17 => v = .slice (some ⟨g3, 0, none⟩) t.n t.n
            | 18 => v = .int .i64 (k : Int)
            | 19 => v = .pointer (some ⟨g3, k, none⟩)
            | 20 => v = .bool (otN t k)
            | 21 => v = .bool (!otN t k)
            | 22 => True
            | 23 => v = .bool (hsN t k)
            | _ => True) (fun hh oq => match oq with
            | 99 => hh 22
            | _ => false) [(22, 0), (22, 1), (22, 2), (22, 3), (22, 4), (22, 5), (22, 6)] 22 (by decide) (fun s w' => Blk w' V 29 (vcl (ltN t k))) (by kernel_rfl) (by kernel_rfl) (by kernel_rfl) ⟨(Kept.refl _ _).drew, vt0, vt0_len, HV.out.drew⟩ ?gb ?vb ?db ?steps ?fin
        case gb => exact fun a b h1 h2 => ⟨h1.1.then h2, by obtain ⟨u, h3, h4⟩ := h1.2; exact ⟨u, h3, h4.below h2 h4.lt⟩⟩
        case vb =>
          intro oq v a b h hb
          match oq with
          | 0 => exact h
          | 1 => exact h
          | 2 => exact h
          | 3 => exact h
          | 4 => exact h
          | 5 => exact h
          | 6 => exact h
          | 7 => exact h
          | 8 => exact h
          | 9 => exact h
          | 10 => exact h
          | 11 => exact h
          | 12 => exact h
          | 13 => exact h
          | 14 => exact h
          | 15 => exact h
          | 16 => exact h
          | 17 => exact h
          | 18 => exact h
          | 19 => exact h
          | 20 => exact h
          | 21 => exact h
          | 22 => trivial
          | 23 => exact h
          | _ + 24 => trivial
        case db =>
          intro hh i oq h
          split at h
          · exact turnOn_of h
          · cases h
        case steps =>
          intro vals
          simp only [List.take_succ_cons, List.take_zero, freeStepsT, Act.put, List.setIfInBounds_toArray, List.set_cons_zero, List.set_cons_succ, Nat.reduceAdd]
          refine ⟨fun hh w8 hi hK hG hW hV => ?_, fun hh w8 hi hK hG hW hV => ?_, fun hh w8 hi hK hG hW hV => ?_, fun hh w8 hi hK hG hW hV => ?_, fun hh w8 hi hK hG hW hV => ?_, fun hh w8 hi hK hG hW hV => ?_, fun hh w8 hi hK hG hW hV => ?_, fun hh w8 hi hK hG hW hV => ?_, fun hh w8 hi hK hG hW hV => ?_, fun hh w8 hi hK hG hW hV => ?_, fun hh w8 hi hK hG hW hV => ?_, fun hh w8 hi hK hG hW hV => ?_, fun hh w8 hi hK hG hW hV => ?_, fun hh w8 hi hK hG hW hV => ?_, fun hh w8 hi hK hG hW hV => ?_, fun hh w8 hi hK hG hW hV => ?_, fun hh w8 hi hK hG hW hV => ?_, fun hh w8 hi hK hG hW hV => ?_, fun hh w8 hi hK hG hW hV => ?_, fun hh w8 hi hK hG hW hV => ?_, fun hh w8 hi hK hG hW hV => ?_, fun hh w8 hi hK hG hW hV => ?_, fun hh w8 hi hK hG hW hV => ?_, fun hh w8 hi hK hG hW hV => ?_, trivial⟩
          · refine stepS_early (by decide) (by decide) hK hi (stepS_of rfl ?_)
            clear hW hV hK hi
            refine stepAt_value rfl rfl rfl (.pointer (some ⟨rb, 0, none⟩)) w8 ?_ ⟨rfl, .inl (Below.refl _ _)⟩
            go_simp
          · refine stepS_early (by decide) (by decide) hK hi (stepS_of rfl ?_)
            have q0 := hV 0 (hW 0 (by decide)) rfl
            simp only at q0
            rw [q0]
            clear hW hV hK hi
            refine stepAt_value rfl rfl rfl (.pointer (some ⟨rb, 0, none⟩)) w8 ?_ ⟨rfl, .inl (Below.refl _ _)⟩
            go_simp
          · refine stepS_early (by decide) (by decide) hK hi (stepS_of rfl ?_)
            have q1 := hV 1 (hW 1 (by decide)) rfl
            simp only at q1
            rw [q1]
            clear hW hV hK hi
            refine stepAt_value rfl rfl rfl (.pointer (some ⟨rb, 3, none⟩)) w8 ?_ ⟨rfl, .inl (Below.refl _ _)⟩
            go_simp
          · refine stepS_early (by decide) (by decide) hK hi (stepS_of rfl ?_)
            have q2 := hV 2 (hW 2 (by decide)) rfl
            simp only at q2
            rw [q2]
            clear hW hV hK hi
            refine stepAt_value rfl rfl rfl (.slice (some ⟨g1, 0, none⟩) t.n t.n) w8 ?_ ⟨rfl, .inl (Below.refl _ _)⟩
            have cc := (HR.out.keep hG.1 HRV.out).cell3
            go_simp
          · refine stepS_early (by decide) (by decide) hK hi (stepS_of rfl ?_)
            clear hW hV hK hi
            refine stepAt_value rfl rfl rfl (.int .i64 (k : Int)) w8 ?_ ⟨rfl, .inl (Below.refl _ _)⟩
            go_simp
          · refine stepS_early (by decide) (by decide) hK hi (stepS_of rfl ?_)
            have q3 := hV 3 (hW 3 (by decide)) rfl
            simp only at q3
            have q4 := hV 4 (hW 4 (by decide)) rfl
            simp only at q4
            rw [q3, q4]
            clear hW hV hK hi
            refine stepAt_value rfl rfl rfl (.pointer (some ⟨g1, k * 34, none⟩)) w8 ?_ ⟨rfl, .inl (Below.refl _ _)⟩
            have hnn := HKN.out
            go_simp
          · refine stepS_early (by decide) (by decide) hK hi (stepS_of rfl ?_)
            have q5 := hV 5 (hW 5 (by decide)) rfl
            simp only at q5
            rw [q5]
            clear hW hV hK hi
            refine stepAt_load_run rfl rfl rfl _ _ rfl _ _ rfl (run_load_vote HVL.out ((HR.out.keep hG.1 HRV.out).last hk)) ⟨rfl, .inl (Below.refl _ _)⟩
          · refine stepS_late (by decide) (fun v ht => ht) (stepS_of rfl ?_)
            clear hW hV hK hi
            refine stepAt_value rfl rfl rfl (.pointer (some ⟨rb, 0, none⟩)) w8 ?_ ⟨rfl, rfl⟩
            go_simp
          · refine stepS_late (by decide) (fun v ht => ht) (stepS_of rfl ?_)
            have q7 := hV 7 (hW 7 (by decide)) rfl
            simp only at q7
            rw [q7]
            clear hW hV hK hi
            refine stepAt_value rfl rfl rfl (.pointer (some ⟨rb, 0, none⟩)) w8 ?_ ⟨rfl, rfl⟩
            go_simp
          · refine stepS_late (by decide) (fun v ht => ht) (stepS_of rfl ?_)
            have q8 := hV 8 (hW 8 (by decide)) rfl
            simp only at q8
            rw [q8]
            clear hW hV hK hi
            refine stepAt_value rfl rfl rfl (.pointer (some ⟨rb, 4, none⟩)) w8 ?_ ⟨rfl, rfl⟩
            go_simp
          · refine stepS_late (by decide) (fun v ht => ht) (stepS_of rfl ?_)
            have q9 := hV 9 (hW 9 (by decide)) rfl
            simp only at q9
            rw [q9]
            clear hW hV hK hi
            refine stepAt_value rfl rfl rfl (.slice (some ⟨g2, 0, none⟩) t.n t.n) w8 ?_ ⟨rfl, rfl⟩
            have cc := (HR.out.keep hG.1 HRV.out).cell4
            go_simp
          · refine stepS_late (by decide) (fun v ht => ht) (stepS_of rfl ?_)
            clear hW hV hK hi
            refine stepAt_value rfl rfl rfl (.int .i64 (k : Int)) w8 ?_ ⟨rfl, rfl⟩
            go_simp
          · refine stepS_late (by decide) (fun v ht => ht) (stepS_of rfl ?_)
            have q10 := hV 10 (hW 10 (by decide)) rfl
            simp only at q10
            have q11 := hV 11 (hW 11 (by decide)) rfl
            simp only at q11
            rw [q10, q11]
            clear hW hV hK hi
            refine stepAt_value rfl rfl rfl (.pointer (some ⟨g2, k, none⟩)) w8 ?_ ⟨rfl, rfl⟩
            have hnn := HKN.out
            go_simp
          · refine stepS_late (by decide) (fun v ht => ht) (stepS_of rfl ?_)
            have q12 := hV 12 (hW 12 (by decide)) rfl
            simp only at q12
            rw [q12]
            clear hW hV hK hi
            refine stepAt_value rfl rfl rfl (.bool (hsN t k)) w8 ?_ ⟨rfl, rfl⟩
            have cc := (HR.out.keep hG.1 HRV.out).voted hk
            go_simp
          · refine stepS_late (by decide) (fun v ht => ht) (stepS_of rfl ?_)
            clear hW hV hK hi
            refine stepAt_value rfl rfl rfl (.pointer (some ⟨rb, 0, none⟩)) w8 ?_ ⟨rfl, rfl⟩
            go_simp
          · refine stepS_late (by decide) (fun v ht => ht) (stepS_of rfl ?_)
            have q14 := hV 14 (hW 14 (by decide)) rfl
            simp only at q14
            rw [q14]
            clear hW hV hK hi
            refine stepAt_value rfl rfl rfl (.pointer (some ⟨rb, 0, none⟩)) w8 ?_ ⟨rfl, rfl⟩
            go_simp
          · refine stepS_late (by decide) (fun v ht => ht) (stepS_of rfl ?_)
            have q15 := hV 15 (hW 15 (by decide)) rfl
            simp only at q15
            rw [q15]
            clear hW hV hK hi
            refine stepAt_value rfl rfl rfl (.pointer (some ⟨rb, 5, none⟩)) w8 ?_ ⟨rfl, rfl⟩
            go_simp
          · refine stepS_late (by decide) (fun v ht => ht) (stepS_of rfl ?_)
            have q16 := hV 16 (hW 16 (by decide)) rfl
            simp only at q16
            rw [q16]
            clear hW hV hK hi
            refine stepAt_value rfl rfl rfl (.slice (some ⟨g3, 0, none⟩) t.n t.n) w8 ?_ ⟨rfl, rfl⟩
            have cc := (HR.out.keep hG.1 HRV.out).cell5
            go_simp
          · refine stepS_late (by decide) (fun v ht => ht) (stepS_of rfl ?_)
            clear hW hV hK hi
            refine stepAt_value rfl rfl rfl (.int .i64 (k : Int)) w8 ?_ ⟨rfl, rfl⟩
            go_simp
          · refine stepS_late (by decide) (fun v ht => ht) (stepS_of rfl ?_)
            have q17 := hV 17 (hW 17 (by decide)) rfl
            simp only at q17
            have q18 := hV 18 (hW 18 (by decide)) rfl
            simp only at q18
            rw [q17, q18]
            clear hW hV hK hi
            refine stepAt_value rfl rfl rfl (.pointer (some ⟨g3, k, none⟩)) w8 ?_ ⟨rfl, rfl⟩
            have hnn := HKN.out
            go_simp
          · refine stepS_late (by decide) (fun v ht => ht) (stepS_of rfl ?_)
            have q19 := hV 19 (hW 19 (by decide)) rfl
            simp only at q19
            rw [q19]
            clear hW hV hK hi
            refine stepAt_value rfl rfl rfl (.bool (otN t k)) w8 ?_ ⟨rfl, rfl⟩
            have cc := (HR.out.keep hG.1 HRV.out).out hk
            go_simp
          · refine stepS_late (by decide) (fun v ht => ht) (stepS_of rfl ?_)
            have q20 := hV 20 (hW 20 (by decide)) rfl
            simp only at q20
            rw [q20]
            clear hW hV hK hi
            refine stepAt_value rfl rfl rfl (.bool (!otN t k)) w8 ?_ ⟨rfl, rfl⟩
            go_simp
          · obtain ⟨hgk, u, hul, hgu⟩ := hG
            have q6 := hV 6 (hW 6 (by decide)) rfl
            simp only at q6
            rw [q6]
            refine stepS_skip rfl rfl (execs_store rfl rfl rfl (run_store_vote hgu HVL.out (by rw [vcl_length hul]; omega))) ⟨⟨trivial, .inr ⟨⟨hgk.setRow (.inl (by simp)) _, ltN t k, HVL.out, ?_⟩, fun j hj hd => ?_⟩⟩, fun _ => ?_, fun hm => absurd hm (by rw [hi]; simp)⟩
            · rw [splice_all _ _ (by rw [vcl_length hul, vcl_length HVL.out])]; exact hgu.setRow _
            · match j, hj, hd with
              | 0, hj, _ => exact hV 0 hj rfl
              | 1, hj, _ => exact hV 1 hj rfl
              | 2, hj, _ => exact hV 2 hj rfl
              | 3, hj, _ => exact hV 3 hj rfl
              | 4, hj, _ => exact hV 4 hj rfl
              | 5, hj, _ => exact hV 5 hj rfl
              | 6, hj, _ => exact hV 6 hj rfl
              | 7, hj, _ => exact hV 7 hj rfl
              | 8, hj, _ => exact hV 8 hj rfl
              | 9, hj, _ => exact hV 9 hj rfl
              | 10, hj, _ => exact hV 10 hj rfl
              | 11, hj, _ => exact hV 11 hj rfl
              | 12, hj, _ => exact hV 12 hj rfl
              | 13, hj, _ => exact hV 13 hj rfl
              | 14, hj, _ => exact hV 14 hj rfl
              | 15, hj, _ => exact hV 15 hj rfl
              | 16, hj, _ => exact hV 16 hj rfl
              | 17, hj, _ => exact hV 17 hj rfl
              | 18, hj, _ => exact hV 18 hj rfl
              | 19, hj, _ => exact hV 19 hj rfl
              | 20, hj, _ => exact hV 20 hj rfl
              | 21, hj, _ => exact hV 21 hj rfl
              | 22, _, _ => trivial
              | 23, hj, _ => exact hV 23 hj rfl
              | _ + 24, _, _ => trivial
            · rw [splice_all _ _ (by rw [vcl_length hul, vcl_length HVL.out])]; exact hgu.setRow _
          · refine stepS_late (by decide) (fun v ht => ht) (stepS_of rfl ?_)
            have q13 := hV 13 (hW 13 (by decide)) rfl
            simp only at q13
            rw [q13]
            clear hW hV hK hi
            refine stepAt_value rfl rfl rfl (.bool (hsN t k)) w8 ?_ ⟨rfl, rfl⟩
            go_simp
        case fin =>
          intro hh vals w6 hall hG hVs hT
          have HKV := Lib.hid hG.1
          have HVN := Lib.hid hT
          have q21 := hVs 21 (hall 21 (by omega)) rfl
          have q23 := hVs 23 (hall 23 (by omega)) rfl
          simp only at q21 q23
          simp only [List.take_succ_cons, List.take_zero, List.drop_succ_cons, List.drop_zero, putAll, Act.put, List.setIfInBounds_toArray, List.set_cons_zero, List.set_cons_succ, Nat.reduceAdd]
          rw [q21, q23]
          clear hVs q21 q23 hall hG hT
          generalize vals 0 = y0
          generalize vals 1 = y1
          generalize vals 2 = y2
          generalize vals 3 = y3
          generalize vals 4 = y4
          generalize vals 5 = y5
          generalize vals 6 = y6
          generalize vals 7 = y7
          generalize vals 8 = y8
          generalize vals 9 = y9
          generalize vals 10 = y10
          generalize vals 11 = y11
          generalize vals 12 = y12
          generalize vals 13 = y13
          generalize vals 14 = y14
          generalize vals 15 = y15
          generalize vals 16 = y16
          generalize vals 17 = y17
          generalize vals 18 = y18
          generalize vals 19 = y19
          generalize vals 20 = y20
          replace HT := Lib.hid (HT.out.keep HKV.out HTV.out)
          replace HR := Lib.hid (HR.out.keep HKV.out HRV.out)
          replace HX := Lib.hid (HX.out.kept HKV.out (by simp; exact HXV.out))
          replace HB := Lib.hid (HB.out.trans (HKV.out.below HB.out.size (fun x hx => by simp at hx; rw [hx]; exact HVL2.out)))
          clear HV HKV
          have HV := HVN
          clear HVN
          obtain ⟨H, hH⟩ : ∃ H, H = hsN t k := ⟨_, rfl⟩
          obtain ⟨O, hO⟩ : ∃ O, O = otN t k := ⟨_, rfl⟩
          rw [← hH]
          rw [← hO] at HCN ⊢
          clear hH hO
          cases H <;> cases O
          · have HXA := Lib.hid HX.out.voteAll
            have HVA := Lib.hid HV.out.voteAll
            go_wp2_with (first
              | ((with_reducible refine wpList_load_vote (.tmp 6) ?_ ?_ X 0 (ltN t k) ?_ HVVL.out HXA.out ?_); rfl; rfl; rfl)
              | ((with_reducible refine wpList_load_vote (.tmp 8) ?_ ?_ V 0 (ltN t k) ?_ HVVL.out HVA.out ?_); rfl; rfl; rfl)
              | ((with_reducible refine wpList_neq_vt (.tmp 50) (.tmp 51) 29 ?_ ?_ (ltN t k) (ltN t k) ?_ ?_ HVVL.out HVVL.out ?_); rfl; rfl; rfl; rfl; rw [eqV_self]))
            refine (counts_any w6 b m g t _ HT.out).mono ?_
            rintro e w6 ⟨rfl, rfl⟩
            rw [HCN.out]
            go_wp2_with fail
            go_roundw
            case rel => exact ⟨_, by omega, by omega, rfl, HB⟩
            case measure => simp only [intOf]; omega
          · have HXA := Lib.hid HX.out.voteAll
            have HVA := Lib.hid HV.out.voteAll
            go_wp2_with (first
              | ((with_reducible refine wpList_load_vote (.tmp 6) ?_ ?_ X 0 (ltN t k) ?_ HVVL.out HXA.out ?_); rfl; rfl; rfl)
              | ((with_reducible refine wpList_load_vote (.tmp 8) ?_ ?_ V 0 (ltN t k) ?_ HVVL.out HVA.out ?_); rfl; rfl; rfl)
              | ((with_reducible refine wpList_neq_vt (.tmp 50) (.tmp 51) 29 ?_ ?_ (ltN t k) (ltN t k) ?_ ?_ HVVL.out HVVL.out ?_); rfl; rfl; rfl; rfl; rw [eqV_self]))
            refine (counts_any w6 b m g t _ HT.out).mono ?_
            rintro e w6 ⟨rfl, rfl⟩
            rw [HCN.out]
            go_wp2_with fail
            go_roundw
            case rel => exact ⟨_, by omega, by omega, rfl, HB⟩
            case measure => simp only [intOf]; omega
          · have HXA := Lib.hid HX.out.voteAll
            have HVA := Lib.hid HV.out.voteAll
            go_wp2_with (first
              | ((with_reducible refine wpList_load_vote (.tmp 6) ?_ ?_ X 0 (ltN t k) ?_ HVVL.out HXA.out ?_); rfl; rfl; rfl)
              | ((with_reducible refine wpList_load_vote (.tmp 8) ?_ ?_ V 0 (ltN t k) ?_ HVVL.out HVA.out ?_); rfl; rfl; rfl)
              | ((with_reducible refine wpList_neq_vt (.tmp 50) (.tmp 51) 29 ?_ ?_ (ltN t k) (ltN t k) ?_ ?_ HVVL.out HVVL.out ?_); rfl; rfl; rfl; rfl; rw [eqV_self]))
            refine (counts_any w6 b m g t _ HT.out).mono ?_
            rintro e w6 ⟨rfl, rfl⟩
            rw [HCN.out]
            go_wp2_with fail
            go_roundw
            case rel => exact ⟨_, by omega, by omega, rfl, HB⟩
            case measure => simp only [intOf]; omega
          · have HXA := Lib.hid HX.out.voteAll
            have HVA := Lib.hid HV.out.voteAll
            go_wp2_with (first
              | ((with_reducible refine wpList_load_vote (.tmp 6) ?_ ?_ X 0 (ltN t k) ?_ HVVL.out HXA.out ?_); rfl; rfl; rfl)
              | ((with_reducible refine wpList_load_vote (.tmp 8) ?_ ?_ V 0 (ltN t k) ?_ HVVL.out HVA.out ?_); rfl; rfl; rfl)
              | ((with_reducible refine wpList_neq_vt (.tmp 50) (.tmp 51) 29 ?_ ?_ (ltN t k) (ltN t k) ?_ ?_ HVVL.out HVVL.out ?_); rfl; rfl; rfl; rfl; rw [eqV_self]))
            refine (counts_any w6 b m g t _ HT.out).mono ?_
            rintro e w6 ⟨rfl, rfl⟩
            rw [HCN.out]
            go_wp2_with fail
            go_roundw
            case rel => exact ⟨_, by omega, by omega, rfl, HB⟩
            case measure => simp only [intOf]; omega
    · have hxn : x = (t.n : Int) + 1 := by omega
      subst hxn
      obtain ⟨wL, hwL⟩ : ∃ wL, wL = wr := ⟨_, rfl⟩
      rw [← hwL] at HT HR HBL cn ⊢
      clear hwL hlt
      obtain ⟨ao, cap, gg, off, hvv, _⟩ := HR.out.open
      subst hvv
      go_upto_region 11 with fail
      clear cn
      refine wp_region_free (P := Try.prog) 8 (fun w' => Below wL.heap.size wL w') (fun oq v w' => match oq with
          | 0 => v = .pointer (some ⟨b, 0, none⟩)
          | 1 => v = .int .i64 (t.fs.length : Int)
          | 2 => v = .pointer (some ⟨rb, 0, none⟩)
          | 3 => v = .pointer (some ⟨rb, 0, none⟩)
          | 4 => v = .pointer (some ⟨rb, 2, none⟩)
          | 5 => v = .slice ao t.fs.length cap
          | 6 => v = .int .i64 (t.fs.length : Int)
          | 7 => v = .bool true
          | _ => True) (by kernel_rfl) (by kernel_rfl) (Below.refl _ _).drew ?gb ?vb ?steps ?fin
      case gb => exact fun a b h1 h2 => h1.trans (h2.mono h1.size)
      case vb =>
        intro oq v a b h hb
        match oq with
        | 0 => exact h
        | 1 => exact h
        | 2 => exact h
        | 3 => exact h
        | 4 => exact h
        | 5 => exact h
        | 6 => exact h
        | 7 => exact h
        | _ + 8 => trivial
      case steps =>
        intro vals
        simp only [List.take_succ_cons, List.take_zero, freeSteps, Act.put, List.setIfInBounds_toArray, List.set_cons_zero, List.set_cons_succ, Nat.reduceAdd]
        refine ⟨fun w8 hG hW => ?_, fun w8 hG hW => ?_, fun w8 hG hW => ?_, fun w8 hG hW => ?_, fun w8 hG hW => ?_, fun w8 hG hW => ?_, fun w8 hG hW => ?_, fun w8 hG hW => ?_, trivial⟩
        · clear hW
          refine stepAt_value rfl rfl rfl (.pointer (some ⟨b, 0, none⟩)) w8 ?_ ⟨rfl, Below.refl _ _⟩
          go_simp
        · have q0 := hW 0 (by decide)
          simp only at q0
          rw [q0]
          clear hW
          refine stepAt_call rfl rfl rfl 15 #[.pointer (some ⟨b, 0, none⟩)] (by go_simp) ((marks_any w8 b m g t (HT.out.below hG)).mono fun e w' ⟨h1, h2⟩ => ⟨_, h1, rfl, by rw [h2]; exact Below.refl _ _⟩)
        · clear hW
          refine stepAt_value rfl rfl rfl (.pointer (some ⟨rb, 0, none⟩)) w8 ?_ ⟨rfl, Below.refl _ _⟩
          go_simp
        · have q2 := hW 2 (by decide)
          simp only at q2
          rw [q2]
          clear hW
          refine stepAt_value rfl rfl rfl (.pointer (some ⟨rb, 0, none⟩)) w8 ?_ ⟨rfl, Below.refl _ _⟩
          go_simp
        · have q3 := hW 3 (by decide)
          simp only at q3
          rw [q3]
          clear hW
          refine stepAt_value rfl rfl rfl (.pointer (some ⟨rb, 2, none⟩)) w8 ?_ ⟨rfl, Below.refl _ _⟩
          go_simp
        · have q4 := hW 4 (by decide)
          simp only at q4
          rw [q4]
          clear hW
          refine stepAt_value rfl rfl rfl (.slice ao t.fs.length cap) w8 ?_ ⟨rfl, Below.refl _ _⟩
          have cc := (HR.out.below hG).cell2
          go_simp
        · have q5 := hW 5 (by decide)
          simp only at q5
          rw [q5]
          clear hW
          refine stepAt_value rfl rfl rfl (.int .i64 (t.fs.length : Int)) w8 ?_ ⟨rfl, Below.refl _ _⟩
          go_simp
        · have q1 := hW 1 (by decide)
          simp only at q1
          have q6 := hW 6 (by decide)
          simp only at q6
          rw [q1, q6]
          clear hW
          refine stepAt_value rfl rfl rfl (.bool true) w8 ?_ ⟨rfl, Below.refl _ _⟩
          go_simp
      case fin =>
        intro vals wM hG hV
        have q7 := hV 7 (by omega)
        simp only at q7
        simp only [List.take_succ_cons, List.take_zero, List.drop_succ_cons, List.drop_zero, putAll, Act.put, List.setIfInBounds_toArray, List.set_cons_zero, List.set_cons_succ, Nat.reduceAdd]
        rw [q7]
        clear hV q7
        generalize vals 0 = y0
        generalize vals 1 = y1
        generalize vals 2 = y2
        generalize vals 3 = y3
        generalize vals 4 = y4
        generalize vals 5 = y5
        generalize vals 6 = y6
        replace HBL := Lib.hid (HBL.out.trans (hG.mono HBL.out.size))
        clear hG
        go_wp2_with fail
        go_ret
        exact ⟨rfl, HBL.out⟩
end Go.Proofs.Ytoinigcfcjllcaa
