/-
  The walk of TreeFull.
-/
import Derived.Test.YtmchjmcdlapegaaMade10
import Derived.Test.YtmchjmcdlapegaaFreeOne
import Derived.Lib.BytesEntry
namespace Go.Proofs.Ytmchjmcdlapegaa
open Go Go.RowKit
set_option maxRecDepth 10000

/-- A row of blocks, each behind the one ahead. -/
def rowT (n : Nat) : List Nd := (List.range n).map fun j : Nat => (nmN (j : Int), (j : Int), (j : Int) - 1)
theorem rowT_length (n : Nat) : (rowT n).length = n := by simp [rowT]
theorem rowT_at {n j : Nat} (h : j < n) : (rowT n)[j]? = some (nmN (j : Int), (j : Int), (j : Int) - 1) := by simp [rowT, h]
theorem rowT_one : rowT 1 = [(nmN 0, 0, -1)] := by simp [rowT, List.range_succ]
theorem rowT_snoc (n : Nat) : rowT (n + 1) = rowT n ++ [(nmN (n : Int), (n : Int), (n : Int) - 1)] := by simp [rowT, List.range_succ]
theorem rowT_none {n k : Nat} (h1 : n ≤ k) (h2 : k < 256) : plc (rowT n) (nmN (k : Int)) = -1 := by
  rcases plc_cases (rowT n) (nmN (k : Int)) with ⟨i, m, hi, he, _, _⟩ | ⟨_, h⟩
  · have hl := (List.getElem?_eq_some_iff.1 hi).1
    rw [rowT_length] at hl
    rw [rowT_at hl] at hi
    cases hi
    have := nmN_inj he (by omega) (by omega) (by omega) (by omega)
    omega
  · exact h
theorem rowT_plc {n k : Nat} (h1 : k < n) (h2 : n ≤ 256) : plc (rowT n) (nmN (k : Int)) = (k : Int) := by
  rcases plc_cases (rowT n) (nmN (k : Int)) with ⟨i, m, hi, he, h, _⟩ | ⟨h, _⟩
  · have hl := (List.getElem?_eq_some_iff.1 hi).1
    rw [rowT_length] at hl
    rw [rowT_at hl] at hi
    cases hi
    have := nmN_inj he (by omega) (by omega) (by omega) (by omega)
    rw [h, this]
  · exact absurd (mem_rs (rowT_at h1)) h
theorem rowT_add {k N : Nat} (h1 : 1 ≤ k) (h2 : k ≤ 250) (h3 : 1 ≤ N) (h4 : N ≤ 256) :
    addT (N : Int) (rowT (min k N)) (nmN (k : Int)) (nmN ((min k N - 1 : Nat) : Int)) (k : Int) = (if N ≤ k then 6 else 0, rowT (min (k + 1) N)) := by
  have e1 : plc (rowT (min k N)) (nmN (k : Int)) = -1 := rowT_none (by omega) (by omega)
  have e2 : plc (rowT (min k N)) (nmN ((min k N - 1 : Nat) : Int)) = ((min k N - 1 : Nat) : Int) := rowT_plc (by omega) (by omega)
  have e3 : (rowT (min k N))[min k N - 1]? = some (nmN ((min k N - 1 : Nat) : Int), ((min k N - 1 : Nat) : Int), ((min k N - 1 : Nat) : Int) - 1) := rowT_at (by omega)
  unfold addT
  rw [if_neg (by omega), e2, nodeAt_nat, e3]
  simp only
  rw [if_neg (by omega), rowT_length]
  by_cases h : N ≤ k
  · rw [if_pos (by omega), if_pos h, show min k N = min (k + 1) N by omega]
  · rw [if_neg (by omega), if_neg h, show min k N = k by omega, show min (k + 1) N = k + 1 by omega, rowT_snoc]
    simp
    omega

theorem full_any (w : World) (a0 a1 : Int) : Calls Try.prog 8 #[.int .i64 a0, .int .i64 a1] w fun e w' => e = .returned (.bool true) ∧ Below w.heap.size w w' := by
  go_enter Try.func8, Try.ntmps8
  go_wp2_with fail
  refine (alive_any w).mono ?_
  rintro e w1 ⟨rfl, hbc⟩
  have HB := Lib.hid hbc
  clear hbc
  by_cases h1 : a1 < 0
  · go_wp2_with fail
    go_ret
    exact ⟨rfl, HB.out⟩
  by_cases h2 : 250 < a1
  · go_wp2_with fail
    go_ret
    exact ⟨rfl, HB.out⟩
  go_wp2_with fail
  refine (name_any w1 0).mono ?_
  rintro e w2 ⟨rfl, hbc⟩
  replace HB := Lib.hid (HB.out.trans (hbc.mono HB.out.size))
  clear hbc
  by_cases h3 : a0 < 1
  · go_wp2_with fail
    refine (new_bad w2 (nmN 0) 0 a0 (by omega)).mono ?_
    rintro e w3 ⟨rfl, hbc⟩
    replace HB := Lib.hid (HB.out.trans (hbc.mono HB.out.size))
    clear hbc
    go_wp2_with fail
    go_ret
    exact ⟨rfl, HB.out⟩
  by_cases h4 : 256 < a0
  · go_wp2_with fail
    refine (new_bad w2 (nmN 0) 0 a0 (by omega)).mono ?_
    rintro e w3 ⟨rfl, hbc⟩
    replace HB := Lib.hid (HB.out.trans (hbc.mono HB.out.size))
    clear hbc
    go_wp2_with fail
    go_ret
    exact ⟨rfl, HB.out⟩
  obtain ⟨N, hN⟩ : ∃ N : Nat, a0 = N := ⟨a0.toNat, by omega⟩
  obtain ⟨B, hBl⟩ : ∃ B : Nat, a1 = B := ⟨a1.toNat, by omega⟩
  subst hN
  subst hBl
  have HNB := Lib.hid (show 1 ≤ N ∧ N ≤ 256 ∧ B ≤ 250 by omega)
  go_wp2_with fail
  refine (new_ok w2 (nmN 0) 0 N (nmN_len 0) (by omega) (by omega) (by omega) (by omega)).mono ?_
  rintro e w3 ⟨F, b, rfl, ht, hf, hbc⟩
  have HT := Lib.hid (show Tre w3 F b (rowT (min 1 N)) N by rw [show min 1 N = 1 by omega, rowT_one]; exact ht)
  have HF := Lib.hid (hf.mono HB.out.size)
  replace HB := Lib.hid (HB.out.trans (hbc.mono HB.out.size))
  clear hbc ht hf
  go_wp2_with fail
  go_loopw [7] (fun i wr => ∃ (k : Nat) (F' : List Nat), 1 ≤ k ∧ k ≤ B + 1 ∧ i = .int .i64 k ∧ Hid (Tre wr F' b (rowT (min k N)) N) ∧ Hid (High w.heap.size F') ∧ Hid (Below w.heap.size w wr)) (fun i _ => B + 1 - (intOf i).toNat)
  case atStart => exact ⟨1, F, Nat.le_refl _, by omega, rfl, HT, HF, HB⟩
  case round =>
    clear HT HF HB
    obtain ⟨k, F', hk1, hk, rfl, HT, HF, HB⟩ := hrel
    by_cases hlt : (k : Int) ≤ (B : Int)
    · have HK := Lib.hid (show 1 ≤ k ∧ k ≤ B by omega)
      have HWR := Lib.hid (show wrap64 ((k : Int) + 1) = (k : Int) + 1 by have := HNB.out; unfold wrap64; omega)
      have HAD := Lib.hid (rowT_add (k := k) (N := N) (by omega) (by omega) (by omega) (by omega))
      have HMN := Lib.hid (show wrap64 (min (k : Int) (N : Int) - 1) = ((min k N - 1 : Nat) : Int) by unfold wrap64; omega)
      by_cases hA : (N : Int) < (k : Int)
      · have hA2 : (N : Int) ≤ (k : Int) := by omega
        have hA3 : N < k := by omega
        have hA4 : N ≤ k := by omega
        have HAD := Lib.hid (show addT (N : Int) (rowT (min k N)) (nmN (k : Int)) (nmN ((min k N - 1 : Nat) : Int)) (k : Int) = (6, rowT (min (k + 1) N)) by rw [rowT_add (by omega) (by omega) (by omega) (by omega)]; rw [if_pos (by omega)])
        have HPE := Lib.hid (show (N : Int) - 1 = ((min k N - 1 : Nat) : Int) by omega)
        go_wp2_with fail
        refine (name_any wr _).mono ?_
        rintro e w4 ⟨rfl, hbc⟩
        rw [HPE.out]
        generalize hp : min k N - 1 = p at HAD HPE ⊢
        replace HT := Lib.hid (HT.out.below hbc)
        replace HB := Lib.hid (HB.out.trans (hbc.mono HB.out.size))
        clear hbc hp
        have HZ := Lib.hid (blk_zeroR w4)
        have HZL := Lib.hid zero32_len
        have HPL := Lib.hid (nmN_len (p : Int))
        have HX := Lib.hid (HZ.out.setRow (bv (nmN (p : Int))))
        have hbx : Below w4.heap.size w4 ((w4.alloc (.cells #[.int .u8 0, .int .u8 0, .int .u8 0, .int .u8 0, .int .u8 0, .int .u8 0, .int .u8 0, .int .u8 0, .int .u8 0, .int .u8 0, .int .u8 0, .int .u8 0, .int .u8 0, .int .u8 0, .int .u8 0, .int .u8 0, .int .u8 0, .int .u8 0, .int .u8 0, .int .u8 0, .int .u8 0, .int .u8 0, .int .u8 0, .int .u8 0, .int .u8 0, .int .u8 0, .int .u8 0, .int .u8 0, .int .u8 0, .int .u8 0, .int .u8 0, .int .u8 0] 23)).setRow w4.heap.size (bv (nmN (p : Int))).toArray) := below_row ((Below.refl _ w4).alloc (Nat.le_refl _) _) (Nat.le_refl _) _
        have HXF := Lib.hid (show w4.heap.size ∉ F' from fun hm => by have := HT.out.low _ hm; omega)
        replace HT := Lib.hid (HT.out.below hbx)
        replace HB := Lib.hid (HB.out.trans (hbx.mono HB.out.size))
        clear hbx
        go_upto_region 15 with ((with_reducible refine wpList_store_name (.tmp 9) (.tmp 44) ?_ ?_ w4.heap.size zero32 (nmN (p : Int)) ?_ ?_ HZ.out HZL.out HPL.out ?_); rfl; rfl; rfl; rfl)
        generalize (w4.alloc (.cells #[.int .u8 0, .int .u8 0, .int .u8 0, .int .u8 0, .int .u8 0, .int .u8 0, .int .u8 0, .int .u8 0, .int .u8 0, .int .u8 0, .int .u8 0, .int .u8 0, .int .u8 0, .int .u8 0, .int .u8 0, .int .u8 0, .int .u8 0, .int .u8 0, .int .u8 0, .int .u8 0, .int .u8 0, .int .u8 0, .int .u8 0, .int .u8 0, .int .u8 0, .int .u8 0, .int .u8 0, .int .u8 0, .int .u8 0, .int .u8 0, .int .u8 0, .int .u8 0] 23)).setRow w4.heap.size (bv (nmN (p : Int))).toArray = w5 at HX HT HB ⊢
        generalize w4.heap.size = X at HX HXF ⊢
        clear HZ HZL
        refine wp_region_freeM (P := Try.prog) 8 5 (by decide) w5 (fun i => match i with
            | 0 => .pointer (some ⟨b, 0, none⟩)
            | 1 => .int .i64 (k : Int)
            | 2 => .agg (bv (nmN (k : Int))).toArray
            | 3 => .agg (bv (nmN (p : Int))).toArray
            | 4 => .int .i64 (k : Int)
            | 5 => .int .i64 6
            | 6 => .int .i64 6
            | 7 => .bool false
            | _ => undef) (fun w' => ∃ F2, Tre w' F2 b (rowT (min (k + 1) N)) N ∧ High w.heap.size F2 ∧ Below w.heap.size w w' ∧ Blk w' X 23 (bv (nmN (p : Int)))) (by kernel_rfl) (by kernel_rfl) (Below.refl _ _).drew ?pb ?steps ?fin
        case pb => exact fun a b ⟨F2, h1, h2, h3, h4⟩ hb => ⟨F2, h1.below hb, h2, h3.trans (hb.mono h3.size), h4.below hb h4.lt⟩
        case steps =>
          intro vals
          simp only [List.take_succ_cons, List.take_zero, freeStepsM, Act.put, List.setIfInBounds_toArray, List.set_cons_zero, List.set_cons_succ, Nat.reduceAdd, Nat.reduceEqDiff, reduceIte]
          refine ⟨fun w8 hG hW => ?_, fun w8 hG hW => ?_, fun w8 hG hW => ?_, fun w8 hG hW => ?_, fun w8 hG hW => ?_, fun w8 hG hW => ?_, fun w8 hG hW => ?_, fun w8 hG hW => ?_, trivial⟩
          · clear hW
            refine stepAt_value rfl rfl rfl (.pointer (some ⟨b, 0, none⟩)) w8 ?_ ⟨rfl, Below.refl _ _⟩
            go_simp
          · clear hW
            refine stepAt_value rfl rfl rfl (.int .i64 (k : Int)) w8 ?_ ⟨rfl, Below.refl _ _⟩
            go_simp
          · have q1 := hW 1 (by decide)
            simp only at q1
            rw [q1]
            clear hW
            refine stepAt_call rfl rfl rfl 20 #[.int .i64 (k : Int)] (by go_simp) ((name_any w8 (k : Int)).mono fun e w' ⟨h1, h2⟩ => ⟨_, h1, rfl, h2⟩)
          · clear hW
            have hx : Blk w8 X 23 (bv (nmN (p : Int))) := by
              rcases hG with hG | ⟨F2, _, _, _, hx⟩
              · exact HX.out.below hG HX.out.lt
              · exact hx
            refine stepAt_load_run rfl rfl rfl _ _ rfl _ _ rfl (run_load_root HPL.out hx.rootAll) ⟨rfl, Below.refl _ _⟩
          · clear hW
            refine stepAt_value rfl rfl rfl (.int .i64 (k : Int)) w8 ?_ ⟨rfl, Below.refl _ _⟩
            go_simp
          · have q0 := hW 0 (by decide)
            have q2 := hW 2 (by decide)
            have q3 := hW 3 (by decide)
            have q4 := hW 4 (by decide)
            simp only at q0 q2 q3 q4
            rw [q0, q2, q3, q4]
            clear hW
            have HB8 := HB.out.trans (hG.mono HB.out.size)
            refine stepAt_call rfl rfl rfl 10 #[.pointer (some ⟨b, 0, none⟩), .agg (bv (nmN (k : Int))).toArray, .agg (bv (nmN (p : Int))).toArray, .int .i64 (k : Int)] (by go_simp) ((add_any w8 F' b _ N _ _ _ (HT.out.below hG) (nmN_len _) (nmN_len _)).mono fun e w' ⟨h1, F2, h2, h3, h4⟩ => ?_)
            rw [HAD.out] at h1 h2
            exact ⟨_, h1, rfl, F2, h2, HF.out.new h4 HB8.size, HB8.trans (h3.below HB8.size HF.out), (HX.out.below hG HX.out.lt).kept h3 HXF.out⟩
          · clear hW
            refine stepAt_value rfl rfl rfl (.int .i64 6) w8 ?_ ⟨rfl, Below.refl _ _⟩
            go_simp
          · have q5 := hW 5 (by decide)
            have q6 := hW 6 (by decide)
            simp only at q5 q6
            rw [q5, q6]
            clear hW
            refine stepAt_value rfl rfl rfl (.bool false) w8 ?_ ⟨rfl, Below.refl _ _⟩
            go_simp
        case fin =>
          intro vals w10 hV ⟨F2, ht, hf, hb, _⟩
          have q7 := hV 7 (by omega)
          simp only at q7
          simp only [List.take_succ_cons, List.take_zero, List.drop_succ_cons, List.drop_zero, putAll, Act.put, List.setIfInBounds_toArray, List.set_cons_zero, List.set_cons_succ, Nat.reduceAdd]
          rw [q7]
          clear hV q7
          have HT2 := Lib.hid ht
          have HF2 := Lib.hid hf
          have HB2 := Lib.hid hb
          clear ht hf hb HT HB HX HXF HAD HF
          generalize vals 0 = y0
          generalize vals 1 = y1
          generalize vals 2 = y2
          generalize vals 3 = y3
          generalize vals 4 = y4
          generalize vals 5 = y5
          generalize vals 6 = y6
          go_wp2_with fail
          have hK := HK.out
          have hNB := HNB.out
          go_roundw
          case rel => exact ⟨k + 1, F2, by omega, by omega, by go_num, HT2, HF2, HB2⟩
          case measure => exact meas (B + 1) k _ (by have := HWR.out; omega) (by omega)
      by_cases hE : (N : Int) ≤ (k : Int)
      · have hA3 : ¬ N < k := by omega
        have hA4 : N ≤ k := by omega
        have HAD := Lib.hid (show addT (N : Int) (rowT (min k N)) (nmN (k : Int)) (nmN ((min k N - 1 : Nat) : Int)) (k : Int) = (6, rowT (min (k + 1) N)) by rw [rowT_add (by omega) (by omega) (by omega) (by omega)]; rw [if_pos (by omega)])
        have HPE := Lib.hid (show (k : Int) - 1 = ((min k N - 1 : Nat) : Int) by omega)
        go_wp2_with fail
        refine (name_any wr _).mono ?_
        rintro e w4 ⟨rfl, hbc⟩
        rw [HPE.out]
        generalize hp : min k N - 1 = p at HAD HPE ⊢
        replace HT := Lib.hid (HT.out.below hbc)
        replace HB := Lib.hid (HB.out.trans (hbc.mono HB.out.size))
        clear hbc hp
        have HZ := Lib.hid (blk_zeroR w4)
        have HZL := Lib.hid zero32_len
        have HPL := Lib.hid (nmN_len (p : Int))
        have HX := Lib.hid (HZ.out.setRow (bv (nmN (p : Int))))
        have hbx : Below w4.heap.size w4 ((w4.alloc (.cells #[.int .u8 0, .int .u8 0, .int .u8 0, .int .u8 0, .int .u8 0, .int .u8 0, .int .u8 0, .int .u8 0, .int .u8 0, .int .u8 0, .int .u8 0, .int .u8 0, .int .u8 0, .int .u8 0, .int .u8 0, .int .u8 0, .int .u8 0, .int .u8 0, .int .u8 0, .int .u8 0, .int .u8 0, .int .u8 0, .int .u8 0, .int .u8 0, .int .u8 0, .int .u8 0, .int .u8 0, .int .u8 0, .int .u8 0, .int .u8 0, .int .u8 0, .int .u8 0] 23)).setRow w4.heap.size (bv (nmN (p : Int))).toArray) := below_row ((Below.refl _ w4).alloc (Nat.le_refl _) _) (Nat.le_refl _) _
        have HXF := Lib.hid (show w4.heap.size ∉ F' from fun hm => by have := HT.out.low _ hm; omega)
        replace HT := Lib.hid (HT.out.below hbx)
        replace HB := Lib.hid (HB.out.trans (hbx.mono HB.out.size))
        clear hbx
        go_upto_region 15 with ((with_reducible refine wpList_store_name (.tmp 9) (.tmp 44) ?_ ?_ w4.heap.size zero32 (nmN (p : Int)) ?_ ?_ HZ.out HZL.out HPL.out ?_); rfl; rfl; rfl; rfl)
        generalize (w4.alloc (.cells #[.int .u8 0, .int .u8 0, .int .u8 0, .int .u8 0, .int .u8 0, .int .u8 0, .int .u8 0, .int .u8 0, .int .u8 0, .int .u8 0, .int .u8 0, .int .u8 0, .int .u8 0, .int .u8 0, .int .u8 0, .int .u8 0, .int .u8 0, .int .u8 0, .int .u8 0, .int .u8 0, .int .u8 0, .int .u8 0, .int .u8 0, .int .u8 0, .int .u8 0, .int .u8 0, .int .u8 0, .int .u8 0, .int .u8 0, .int .u8 0, .int .u8 0, .int .u8 0] 23)).setRow w4.heap.size (bv (nmN (p : Int))).toArray = w5 at HX HT HB ⊢
        generalize w4.heap.size = X at HX HXF ⊢
        clear HZ HZL
        refine wp_region_freeM (P := Try.prog) 8 5 (by decide) w5 (fun i => match i with
            | 0 => .pointer (some ⟨b, 0, none⟩)
            | 1 => .int .i64 (k : Int)
            | 2 => .agg (bv (nmN (k : Int))).toArray
            | 3 => .agg (bv (nmN (p : Int))).toArray
            | 4 => .int .i64 (k : Int)
            | 5 => .int .i64 6
            | 6 => .int .i64 6
            | 7 => .bool false
            | _ => undef) (fun w' => ∃ F2, Tre w' F2 b (rowT (min (k + 1) N)) N ∧ High w.heap.size F2 ∧ Below w.heap.size w w' ∧ Blk w' X 23 (bv (nmN (p : Int)))) (by kernel_rfl) (by kernel_rfl) (Below.refl _ _).drew ?pb ?steps ?fin
        case pb => exact fun a b ⟨F2, h1, h2, h3, h4⟩ hb => ⟨F2, h1.below hb, h2, h3.trans (hb.mono h3.size), h4.below hb h4.lt⟩
        case steps =>
          intro vals
          simp only [List.take_succ_cons, List.take_zero, freeStepsM, Act.put, List.setIfInBounds_toArray, List.set_cons_zero, List.set_cons_succ, Nat.reduceAdd, Nat.reduceEqDiff, reduceIte]
          refine ⟨fun w8 hG hW => ?_, fun w8 hG hW => ?_, fun w8 hG hW => ?_, fun w8 hG hW => ?_, fun w8 hG hW => ?_, fun w8 hG hW => ?_, fun w8 hG hW => ?_, fun w8 hG hW => ?_, trivial⟩
          · clear hW
            refine stepAt_value rfl rfl rfl (.pointer (some ⟨b, 0, none⟩)) w8 ?_ ⟨rfl, Below.refl _ _⟩
            go_simp
          · clear hW
            refine stepAt_value rfl rfl rfl (.int .i64 (k : Int)) w8 ?_ ⟨rfl, Below.refl _ _⟩
            go_simp
          · have q1 := hW 1 (by decide)
            simp only at q1
            rw [q1]
            clear hW
            refine stepAt_call rfl rfl rfl 20 #[.int .i64 (k : Int)] (by go_simp) ((name_any w8 (k : Int)).mono fun e w' ⟨h1, h2⟩ => ⟨_, h1, rfl, h2⟩)
          · clear hW
            have hx : Blk w8 X 23 (bv (nmN (p : Int))) := by
              rcases hG with hG | ⟨F2, _, _, _, hx⟩
              · exact HX.out.below hG HX.out.lt
              · exact hx
            refine stepAt_load_run rfl rfl rfl _ _ rfl _ _ rfl (run_load_root HPL.out hx.rootAll) ⟨rfl, Below.refl _ _⟩
          · clear hW
            refine stepAt_value rfl rfl rfl (.int .i64 (k : Int)) w8 ?_ ⟨rfl, Below.refl _ _⟩
            go_simp
          · have q0 := hW 0 (by decide)
            have q2 := hW 2 (by decide)
            have q3 := hW 3 (by decide)
            have q4 := hW 4 (by decide)
            simp only at q0 q2 q3 q4
            rw [q0, q2, q3, q4]
            clear hW
            have HB8 := HB.out.trans (hG.mono HB.out.size)
            refine stepAt_call rfl rfl rfl 10 #[.pointer (some ⟨b, 0, none⟩), .agg (bv (nmN (k : Int))).toArray, .agg (bv (nmN (p : Int))).toArray, .int .i64 (k : Int)] (by go_simp) ((add_any w8 F' b _ N _ _ _ (HT.out.below hG) (nmN_len _) (nmN_len _)).mono fun e w' ⟨h1, F2, h2, h3, h4⟩ => ?_)
            rw [HAD.out] at h1 h2
            exact ⟨_, h1, rfl, F2, h2, HF.out.new h4 HB8.size, HB8.trans (h3.below HB8.size HF.out), (HX.out.below hG HX.out.lt).kept h3 HXF.out⟩
          · clear hW
            refine stepAt_value rfl rfl rfl (.int .i64 6) w8 ?_ ⟨rfl, Below.refl _ _⟩
            go_simp
          · have q5 := hW 5 (by decide)
            have q6 := hW 6 (by decide)
            simp only at q5 q6
            rw [q5, q6]
            clear hW
            refine stepAt_value rfl rfl rfl (.bool false) w8 ?_ ⟨rfl, Below.refl _ _⟩
            go_simp
        case fin =>
          intro vals w10 hV ⟨F2, ht, hf, hb, _⟩
          have q7 := hV 7 (by omega)
          simp only at q7
          simp only [List.take_succ_cons, List.take_zero, List.drop_succ_cons, List.drop_zero, putAll, Act.put, List.setIfInBounds_toArray, List.set_cons_zero, List.set_cons_succ, Nat.reduceAdd]
          rw [q7]
          clear hV q7
          have HT2 := Lib.hid ht
          have HF2 := Lib.hid hf
          have HB2 := Lib.hid hb
          clear ht hf hb HT HB HX HXF HAD HF
          generalize vals 0 = y0
          generalize vals 1 = y1
          generalize vals 2 = y2
          generalize vals 3 = y3
          generalize vals 4 = y4
          generalize vals 5 = y5
          generalize vals 6 = y6
          go_wp2_with fail
          have hK := HK.out
          have hNB := HNB.out
          go_roundw
          case rel => exact ⟨k + 1, F2, by omega, by omega, by go_num, HT2, HF2, HB2⟩
          case measure => exact meas (B + 1) k _ (by have := HWR.out; omega) (by omega)
      · have hA3 : ¬ N < k := by omega
        have hA4 : ¬ N ≤ k := by omega
        have HAD := Lib.hid (show addT (N : Int) (rowT (min k N)) (nmN (k : Int)) (nmN ((min k N - 1 : Nat) : Int)) (k : Int) = (0, rowT (min (k + 1) N)) by rw [rowT_add (by omega) (by omega) (by omega) (by omega)]; rw [if_neg (by omega)])
        have HPE := Lib.hid (show (k : Int) - 1 = ((min k N - 1 : Nat) : Int) by omega)
        go_wp2_with fail
        refine (name_any wr _).mono ?_
        rintro e w4 ⟨rfl, hbc⟩
        rw [HPE.out]
        generalize hp : min k N - 1 = p at HAD HPE ⊢
        replace HT := Lib.hid (HT.out.below hbc)
        replace HB := Lib.hid (HB.out.trans (hbc.mono HB.out.size))
        clear hbc hp
        have HZ := Lib.hid (blk_zeroR w4)
        have HZL := Lib.hid zero32_len
        have HPL := Lib.hid (nmN_len (p : Int))
        have HX := Lib.hid (HZ.out.setRow (bv (nmN (p : Int))))
        have hbx : Below w4.heap.size w4 ((w4.alloc (.cells #[.int .u8 0, .int .u8 0, .int .u8 0, .int .u8 0, .int .u8 0, .int .u8 0, .int .u8 0, .int .u8 0, .int .u8 0, .int .u8 0, .int .u8 0, .int .u8 0, .int .u8 0, .int .u8 0, .int .u8 0, .int .u8 0, .int .u8 0, .int .u8 0, .int .u8 0, .int .u8 0, .int .u8 0, .int .u8 0, .int .u8 0, .int .u8 0, .int .u8 0, .int .u8 0, .int .u8 0, .int .u8 0, .int .u8 0, .int .u8 0, .int .u8 0, .int .u8 0] 23)).setRow w4.heap.size (bv (nmN (p : Int))).toArray) := below_row ((Below.refl _ w4).alloc (Nat.le_refl _) _) (Nat.le_refl _) _
        have HXF := Lib.hid (show w4.heap.size ∉ F' from fun hm => by have := HT.out.low _ hm; omega)
        replace HT := Lib.hid (HT.out.below hbx)
        replace HB := Lib.hid (HB.out.trans (hbx.mono HB.out.size))
        clear hbx
        go_upto_region 15 with ((with_reducible refine wpList_store_name (.tmp 9) (.tmp 44) ?_ ?_ w4.heap.size zero32 (nmN (p : Int)) ?_ ?_ HZ.out HZL.out HPL.out ?_); rfl; rfl; rfl; rfl)
        generalize (w4.alloc (.cells #[.int .u8 0, .int .u8 0, .int .u8 0, .int .u8 0, .int .u8 0, .int .u8 0, .int .u8 0, .int .u8 0, .int .u8 0, .int .u8 0, .int .u8 0, .int .u8 0, .int .u8 0, .int .u8 0, .int .u8 0, .int .u8 0, .int .u8 0, .int .u8 0, .int .u8 0, .int .u8 0, .int .u8 0, .int .u8 0, .int .u8 0, .int .u8 0, .int .u8 0, .int .u8 0, .int .u8 0, .int .u8 0, .int .u8 0, .int .u8 0, .int .u8 0, .int .u8 0] 23)).setRow w4.heap.size (bv (nmN (p : Int))).toArray = w5 at HX HT HB ⊢
        generalize w4.heap.size = X at HX HXF ⊢
        clear HZ HZL
        refine wp_region_freeM (P := Try.prog) 8 5 (by decide) w5 (fun i => match i with
            | 0 => .pointer (some ⟨b, 0, none⟩)
            | 1 => .int .i64 (k : Int)
            | 2 => .agg (bv (nmN (k : Int))).toArray
            | 3 => .agg (bv (nmN (p : Int))).toArray
            | 4 => .int .i64 (k : Int)
            | 5 => .int .i64 0
            | 6 => .int .i64 0
            | 7 => .bool false
            | _ => undef) (fun w' => ∃ F2, Tre w' F2 b (rowT (min (k + 1) N)) N ∧ High w.heap.size F2 ∧ Below w.heap.size w w' ∧ Blk w' X 23 (bv (nmN (p : Int)))) (by kernel_rfl) (by kernel_rfl) (Below.refl _ _).drew ?pb ?steps ?fin
        case pb => exact fun a b ⟨F2, h1, h2, h3, h4⟩ hb => ⟨F2, h1.below hb, h2, h3.trans (hb.mono h3.size), h4.below hb h4.lt⟩
        case steps =>
          intro vals
          simp only [List.take_succ_cons, List.take_zero, freeStepsM, Act.put, List.setIfInBounds_toArray, List.set_cons_zero, List.set_cons_succ, Nat.reduceAdd, Nat.reduceEqDiff, reduceIte]
          refine ⟨fun w8 hG hW => ?_, fun w8 hG hW => ?_, fun w8 hG hW => ?_, fun w8 hG hW => ?_, fun w8 hG hW => ?_, fun w8 hG hW => ?_, fun w8 hG hW => ?_, fun w8 hG hW => ?_, trivial⟩
          · clear hW
            refine stepAt_value rfl rfl rfl (.pointer (some ⟨b, 0, none⟩)) w8 ?_ ⟨rfl, Below.refl _ _⟩
            go_simp
          · clear hW
            refine stepAt_value rfl rfl rfl (.int .i64 (k : Int)) w8 ?_ ⟨rfl, Below.refl _ _⟩
            go_simp
          · have q1 := hW 1 (by decide)
            simp only at q1
            rw [q1]
            clear hW
            refine stepAt_call rfl rfl rfl 20 #[.int .i64 (k : Int)] (by go_simp) ((name_any w8 (k : Int)).mono fun e w' ⟨h1, h2⟩ => ⟨_, h1, rfl, h2⟩)
          · clear hW
            have hx : Blk w8 X 23 (bv (nmN (p : Int))) := by
              rcases hG with hG | ⟨F2, _, _, _, hx⟩
              · exact HX.out.below hG HX.out.lt
              · exact hx
            refine stepAt_load_run rfl rfl rfl _ _ rfl _ _ rfl (run_load_root HPL.out hx.rootAll) ⟨rfl, Below.refl _ _⟩
          · clear hW
            refine stepAt_value rfl rfl rfl (.int .i64 (k : Int)) w8 ?_ ⟨rfl, Below.refl _ _⟩
            go_simp
          · have q0 := hW 0 (by decide)
            have q2 := hW 2 (by decide)
            have q3 := hW 3 (by decide)
            have q4 := hW 4 (by decide)
            simp only at q0 q2 q3 q4
            rw [q0, q2, q3, q4]
            clear hW
            have HB8 := HB.out.trans (hG.mono HB.out.size)
            refine stepAt_call rfl rfl rfl 10 #[.pointer (some ⟨b, 0, none⟩), .agg (bv (nmN (k : Int))).toArray, .agg (bv (nmN (p : Int))).toArray, .int .i64 (k : Int)] (by go_simp) ((add_any w8 F' b _ N _ _ _ (HT.out.below hG) (nmN_len _) (nmN_len _)).mono fun e w' ⟨h1, F2, h2, h3, h4⟩ => ?_)
            rw [HAD.out] at h1 h2
            exact ⟨_, h1, rfl, F2, h2, HF.out.new h4 HB8.size, HB8.trans (h3.below HB8.size HF.out), (HX.out.below hG HX.out.lt).kept h3 HXF.out⟩
          · clear hW
            refine stepAt_value rfl rfl rfl (.int .i64 0) w8 ?_ ⟨rfl, Below.refl _ _⟩
            go_simp
          · have q5 := hW 5 (by decide)
            have q6 := hW 6 (by decide)
            simp only at q5 q6
            rw [q5, q6]
            clear hW
            refine stepAt_value rfl rfl rfl (.bool false) w8 ?_ ⟨rfl, Below.refl _ _⟩
            go_simp
        case fin =>
          intro vals w10 hV ⟨F2, ht, hf, hb, _⟩
          have q7 := hV 7 (by omega)
          simp only at q7
          simp only [List.take_succ_cons, List.take_zero, List.drop_succ_cons, List.drop_zero, putAll, Act.put, List.setIfInBounds_toArray, List.set_cons_zero, List.set_cons_succ, Nat.reduceAdd]
          rw [q7]
          clear hV q7
          have HT2 := Lib.hid ht
          have HF2 := Lib.hid hf
          have HB2 := Lib.hid hb
          clear ht hf hb HT HB HX HXF HAD HF
          generalize vals 0 = y0
          generalize vals 1 = y1
          generalize vals 2 = y2
          generalize vals 3 = y3
          generalize vals 4 = y4
          generalize vals 5 = y5
          generalize vals 6 = y6
          go_wp2_with fail
          have hK := HK.out
          have hNB := HNB.out
          go_roundw
          case rel => exact ⟨k + 1, F2, by omega, by omega, by go_num, HT2, HF2, HB2⟩
          case measure => exact meas (B + 1) k _ (by have := HWR.out; omega) (by omega)
    · have HK := Lib.hid (show k = B + 1 by omega)
      have hkB : (k : Int) = (B : Int) + 1 := by omega
      by_cases hA : (N : Int) < (B : Int) + 1
      · have HLN := Lib.hid (show (rowT (min k N)).length = N by rw [rowT_length]; omega)
        have hA2 : N < B + 1 := by omega
        go_wp2_with fail
        refine (len_any wr F' b _ N HT.out).mono ?_
        rintro e w4 ⟨rfl, hw⟩
        have hw := hw.symm
        subst hw
        rw [HLN.out]
        go_wp2_with fail
        refine (room_any wr F' b _ N HT.out).mono ?_
        rintro e w4 ⟨rfl, m4, rfl⟩
        rw [HLN.out]
        have HB2 := Lib.hid (below_dN HB.out m4)
        go_wp2_with fail
        go_ret
        exact ⟨rfl, HB2.out⟩
      · have HLN := Lib.hid (show (rowT (min k N)).length = k by rw [rowT_length]; omega)
        have hA2 : ¬ N < B + 1 := by omega
        go_wp2_with fail
        refine (len_any wr F' b _ N HT.out).mono ?_
        rintro e w4 ⟨rfl, hw⟩
        have hw := hw.symm
        subst hw
        rw [HLN.out]
        go_wp2_with fail
        refine (room_any wr F' b _ N HT.out).mono ?_
        rintro e w4 ⟨rfl, m4, rfl⟩
        rw [HLN.out, show (N : Int) - (k : Int) = (N : Int) - (B : Int) - 1 by omega]
        have hnn : ((N : Int) - (B : Int) - 1 == (N : Int) - (B : Int) - 1) = true := beq_self_eq_true _
        have HB2 := Lib.hid (below_dN HB.out m4)
        go_wp2_with fail
        go_ret
        exact ⟨rfl, HB2.out⟩
end Go.Proofs.Ytmchjmcdlapegaa
