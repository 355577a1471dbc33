/-
  The texts TabAsk, TabSet, TabForget, one behind the other.
-/
import Derived.Test.YtoinigcfcjllcaaOnceM6
import Derived.Test.YtoinigcfcjllcaaCFreeS
import Derived.IntWalk
import Derived.Deep.QuietTactic
import Derived.BigQuiet
import Derived.Deep.Cut
import Derived.Deep.LoopGhost
/-
  The program's table: its calls that only read.
-/
namespace Go.Proofs.Ytoinigcfcjllcaa
open Go Go.RowKit
set_option maxRecDepth 10000

theorem within_any (w : World) (n a b : Int) : Calls Try.prog 24 #[.int .i64 n, .int .i64 a, .int .i64 b] w fun e w' => e = .returned (.bool (decide (a ≤ n ∧ n ≤ b))) ∧ w' = w := by
  by_cases h1 : a ≤ n
  · by_cases h2 : n ≤ b
    · go_enter Try.func24, Try.ntmps24
      go_wp2_with fail
      go_ret
      exact ⟨by simp [h1, h2], rfl⟩
    · go_enter Try.func24, Try.ntmps24
      go_wp2_with fail
      go_ret
      exact ⟨by rw [decide_eq_false (fun h => by omega)]; rfl, rfl⟩
  · go_enter Try.func24, Try.ntmps24
    go_wp2_with fail
    go_ret
    exact ⟨by simp; omega, rfl⟩
def isW (t : Tb) (i : Int) : Bool := decide (0 ≤ i ∧ i < (t.n : Int))
theorem has_any (w : World) (b m g : Nat) (t : Tb) (i : Int) (h : TP w b m g t) : Calls Try.prog 23 #[.pointer (some ⟨b, 0, none⟩), .int .i64 i] w fun e w' => e = .returned (.bool (isW t i)) ∧ w' = w := by
  have HC := Lib.hid (within_any w i 0 ((t.n : Int) - 1))
  have HE := Lib.hid (show decide (0 ≤ i ∧ i ≤ (t.n : Int) - 1) = isW t i by unfold isW; rw [decide_eq_decide]; omega)
  have h1 := h.fit.gd.n1
  have h2 := h.fit.gd.n2
  have HWR := Lib.hid (show wrap64 ((t.n : Int) - 1) = (t.n : Int) - 1 by unfold wrap64; omega)
  have c := h.cell1
  clear h
  go_enter Try.func23, Try.ntmps23
  go_wp2_with fail
  first | rw [HWR.out] | skip
  refine HC.out.mono ?_
  rintro e wr ⟨rfl, rfl⟩
  rw [HE.out]
  go_wp2_with fail
  go_ret
  exact ⟨rfl, rfl⟩
theorem has_nil (w : World) (i : Int) : Calls Try.prog 23 #[.pointer none, .int .i64 i] w fun e w' => e = .returned (.bool false) ∧ w' = w := by
  go_enter Try.func23, Try.ntmps23
  go_wp2_with fail
  go_ret
  exact ⟨rfl, rfl⟩
theorem ep_wrap {k : Nat} (hk : 1 ≤ k) {s : Int} (hs : I6 s) : wrap64 (s.tdiv (k : Int)) = ep k s ∧ I6 (ep k s) := by
  have h1 : (s.tdiv (k : Int)).natAbs ≤ s.natAbs := by rw [Int.natAbs_tdiv]; exact Nat.div_le_self _ _
  unfold I6 at hs
  have h3 : I6 (ep k s) := by
    unfold I6 ep
    rcases Int.lt_or_le s 0 with h0 | h0
    · have : (s.tdiv (k : Int)) ≤ 0 := by
        have := Int.tdiv_nonneg (show 0 ≤ -s by omega) (show (0 : Int) ≤ (k : Int) by omega)
        rw [Int.neg_tdiv] at this; omega
      omega
    · have := Int.tdiv_nonneg h0 (show (0 : Int) ≤ (k : Int) by omega)
      omega
  refine ⟨?_, h3⟩
  unfold I6 ep at h3
  unfold wrap64 ep
  omega
theorem epoch_any (w : World) (b m g : Nat) (t : Tb) (s : Int) (h : TP w b m g t) (hs : I6 s) : Calls Try.prog 22 #[.pointer (some ⟨b, 0, none⟩), .int .i64 s] w fun e w' => e = .returned (.int .i64 (ep t.k s)) ∧ w' = w := by
  have HQ := Lib.hid (ep_wrap h.fit.gd.k1 hs).1
  have hk := h.fit.gd.k1
  have hk0 : ¬ (t.k : Int) = 0 := by omega
  have c := h.cell0
  clear h hs
  go_enter Try.func22, Try.ntmps22
  go_wp2_with fail
  go_ret
  exact ⟨by rw [← HQ.out]; rfl, rfl⟩
def cntA (t : Tb) (i : Int) : Bool := isW t i && !otN t i.toNat
def hasA (t : Tb) (i : Int) : Bool := isW t i && hsN t i.toNat
def voteA (t : Tb) (i : Int) : Vt := if isW t i = true then ltN t i.toNat else vt0
theorem isW_nat {t : Tb} {i : Int} (h : isW t i = true) : ∃ k : Nat, i = (k : Int) ∧ k < t.n := by
  unfold isW at h
  have := of_decide_eq_true h
  exact ⟨i.toNat, by omega, by omega⟩
theorem counts_any (w : World) (b m g : Nat) (t : Tb) (i : Int) (h : TP w b m g t) : Calls Try.prog 14 #[.pointer (some ⟨b, 0, none⟩), .int .i64 i] w fun e w' => e = .returned (.bool (cntA t i)) ∧ w' = w := by
  have HC := Lib.hid (has_any w b m g t i h)
  cases hi : isW t i with
  | false =>
    have HA := Lib.hid (show cntA t i = false by rw [cntA, hi]; rfl)
    rw [hi] at HC
    clear h hi
    go_enter Try.func14, Try.ntmps14
    go_wp2_with fail
    refine HC.out.mono ?_
    rintro e wr ⟨rfl, rfl⟩
    go_wp2_with fail
    go_ret
    exact ⟨by rw [HA.out]; rfl, rfl⟩
  | true =>
    obtain ⟨k, rfl, hk⟩ := isW_nat hi
    have HA := Lib.hid (show cntA t (k : Int) = !otN t k by rw [cntA, hi]; rfl)
    rw [hi] at HC
    have c1 := h.cell1
    have c2 := h.out hk
    have hn : (k : Int) < (t.n : Int) := by omega
    clear h hi
    go_enter Try.func14, Try.ntmps14
    go_wp2_with fail
    refine HC.out.mono ?_
    rintro e wr ⟨rfl, rfl⟩
    go_wp2_with fail
    go_ret
    exact ⟨by rw [HA.out]; rfl, rfl⟩
theorem counts_nil (w : World) (i : Int) : Calls Try.prog 14 #[.pointer none, .int .i64 i] w fun e w' => e = .returned (.bool false) ∧ w' = w := by
  have HC := Lib.hid (has_nil w i)
  go_enter Try.func14, Try.ntmps14
  go_wp2_with fail
  refine HC.out.mono ?_
  rintro e wr ⟨rfl, rfl⟩
  go_wp2_with fail
  go_ret
  exact ⟨rfl, rfl⟩
theorem marks_any (w : World) (b m g : Nat) (t : Tb) (h : TP w b m g t) : Calls Try.prog 15 #[.pointer (some ⟨b, 0, none⟩)] w fun e w' => e = .returned (.int .i64 (t.fs.length : Int)) ∧ w' = w := by
  have HH := Lib.hid h
  have c := h.cell2
  obtain ⟨D, hD, hS⟩ := h.map
  have HD := Lib.hid hD
  have HZ := Lib.hid (hS.size h.fit.fs hD)
  clear h hD hS
  go_enter Try.func15, Try.ntmps15
  go_wp2_with (at_len; refine wpList_len_own _ rfl _ 55 rfl 59 27 Try.underlying55 _ m t.fs.length D rfl HD.out ?_)
  rw [HZ.out]
  go_ret
  exact ⟨rfl, rfl⟩
theorem marks_nil (w : World) : Calls Try.prog 15 #[.pointer none] w fun e w' => e = .returned (.int .i64 0) ∧ w' = w := by
  go_enter Try.func15, Try.ntmps15
  go_wp2_with fail
  go_ret
  exact ⟨rfl, rfl⟩
theorem zero_vote (w : World) : Blk (w.alloc (.cells #[.int .i64 0, .int .i64 0, .int .u8 0, .int .u8 0, .int .u8 0, .int .u8 0, .int .u8 0, .int .u8 0, .int .u8 0, .int .u8 0, .int .u8 0, .int .u8 0, .int .u8 0, .int .u8 0, .int .u8 0, .int .u8 0, .int .u8 0, .int .u8 0, .int .u8 0, .int .u8 0, .int .u8 0, .int .u8 0, .int .u8 0, .int .u8 0, .int .u8 0, .int .u8 0, .int .u8 0, .int .u8 0, .int .u8 0, .int .u8 0, .int .u8 0, .int .u8 0, .int .u8 0, .int .u8 0] 29)) w.heap.size 29 (vcl vt0) := Blk.new w _ (vcl vt0).toArray
theorem vote_any (w : World) (b m g : Nat) (t : Tb) (i : Int) (h : TP w b m g t) : Calls Try.prog 12 #[.pointer (some ⟨b, 0, none⟩), .int .i64 i] w fun e w' => e = .returned (.tuple #[.agg (vcl (voteA t i)).toArray, .bool (hasA t i)]) ∧ Below w.heap.size w w' := by
  have hb1 : Below w.heap.size w (w.alloc (.cells #[.int .i64 0, .int .i64 0, .int .u8 0, .int .u8 0, .int .u8 0, .int .u8 0, .int .u8 0, .int .u8 0, .int .u8 0, .int .u8 0, .int .u8 0, .int .u8 0, .int .u8 0, .int .u8 0, .int .u8 0, .int .u8 0, .int .u8 0, .int .u8 0, .int .u8 0, .int .u8 0, .int .u8 0, .int .u8 0, .int .u8 0, .int .u8 0, .int .u8 0, .int .u8 0, .int .u8 0, .int .u8 0, .int .u8 0, .int .u8 0, .int .u8 0, .int .u8 0, .int .u8 0, .int .u8 0] 29)) := (Below.refl _ w).alloc (Nat.le_refl _) _
  have HT := Lib.hid (h.below hb1)
  have HB := Lib.hid hb1
  have HX := Lib.hid (zero_vote w)
  have HLW := Lib.hid h.low
  obtain ⟨X, hX⟩ : ∃ X, X = w.heap.size := ⟨_, rfl⟩
  rw [← hX] at HX
  have HAW := Lib.hid (show Away [b, m, g] [X] from fun x hx hm => by have := HLW.out x hx; simp at hm; omega)
  have HXL := Lib.hid (show w.heap.size ≤ X by omega)
  have HV0 := Lib.hid vt0_len
  clear h hb1 HLW
  go_enter Try.func12, Try.ntmps12
  go_upto_region 1 with fail
  rw [← hX]
  generalize (w.alloc (.cells #[.int .i64 0, .int .i64 0, .int .u8 0, .int .u8 0, .int .u8 0, .int .u8 0, .int .u8 0, .int .u8 0, .int .u8 0, .int .u8 0, .int .u8 0, .int .u8 0, .int .u8 0, .int .u8 0, .int .u8 0, .int .u8 0, .int .u8 0, .int .u8 0, .int .u8 0, .int .u8 0, .int .u8 0, .int .u8 0, .int .u8 0, .int .u8 0, .int .u8 0, .int .u8 0, .int .u8 0, .int .u8 0, .int .u8 0, .int .u8 0, .int .u8 0, .int .u8 0, .int .u8 0, .int .u8 0] 29)) = w1 at HT HB HX ⊢
  clear hX
  have HC := Lib.hid (has_any w1 b m g t i HT.out)
  cases hi : isW t i with
  | false =>
    have HA := Lib.hid (show voteA t i = vt0 ∧ hasA t i = false by unfold voteA hasA; rw [hi]; exact ⟨rfl, rfl⟩)
    rw [hi] at HC
    clear hi
    go_wp2_with fail
    refine HC.out.mono ?_
    rintro e wr ⟨rfl, rfl⟩
    go_wp2_with (first
      | ((with_reducible refine wpList_build_l 29 #[] [] (vcl vt0).toArray built_vt0 ?_ ?_ ?_ ?_); rfl; rfl; rfl)
      | ((with_reducible refine wpList_store_vote (.tmp 4) (.tmp 10) ?_ ?_ X vt0 vt0 ?_ ?_ HX.out HV0.out HV0.out ?_); rfl; rfl; rfl; rfl))
    exact ret_vote2 rfl rfl (HX.out.setRow (vcl vt0)) HV0.out rfl ⟨by rw [HA.out.1, HA.out.2]; rfl, below_row HB.out HXL.out _⟩
  | true =>
    obtain ⟨k, rfl, hk⟩ := isW_nat hi
    have HA := Lib.hid (show voteA t (k : Int) = ltN t k ∧ hasA t (k : Int) = hsN t k by unfold voteA hasA; rw [hi]; exact ⟨rfl, rfl⟩)
    have HN := Lib.hid (show (k : Int) < (t.n : Int) by omega)
    have HVL := Lib.hid (HT.out.fit.l k).1
    rw [hi] at HC
    clear hi
    go_wp2_with fail
    refine HC.out.mono ?_
    rintro e w1 ⟨rfl, rfl⟩
    go_upto_region 3 with fail
    refine wp_region_freeT (P := Try.prog) 17 (fun w' => Kept [X] w1 w' ∧ ∃ u : Vt, u.g.length = 32 ∧ Blk w' X 29 (vcl u)) (fun oq v w' => match oq with
        | 0 => v = .pointer (some ⟨b, 0, none⟩)
        | 1 => v = .pointer (some ⟨b, 0, none⟩)
        | 2 => v = .pointer (some ⟨b, 1, none⟩)
        | 3 => v = .slice (some ⟨g, 0, none⟩) t.n t.n
        | 4 => v = .int .i64 (k : Int)
        | 5 => v = .pointer (some ⟨g, k * 36, none⟩)
        | 6 => v = .pointer (some ⟨g, k * 36, none⟩)
        | 7 => v = .agg (vcl (ltN t k)).toArray
        | 8 => v = .pointer (some ⟨b, 0, none⟩)
        | 9 => v = .pointer (some ⟨b, 0, none⟩)
        | 10 => v = .pointer (some ⟨b, 1, none⟩)
        | 11 => v = .slice (some ⟨g, 0, none⟩) t.n t.n
        | 12 => v = .int .i64 (k : Int)
        | 13 => v = .pointer (some ⟨g, k * 36, none⟩)
        | 14 => v = .pointer (some ⟨g, k * 36 + 34, none⟩)
        | 15 => v = .bool (hsN t k)
        | 16 => True
        | _ => True) (fun hh oq => match oq with
        | 99 => hh 16
        | _ => false) [(16, 0), (16, 1), (16, 2), (16, 3), (16, 4), (16, 5), (16, 6), (16, 7)] 16 (by decide) (fun s w' => Blk w' X 29 (vcl (ltN t k))) (by kernel_rfl) (by kernel_rfl) (by kernel_rfl) ⟨(Kept.refl _ _).drew, vt0, vt0_len, HX.out.drew⟩ ?gb ?vb ?db ?steps ?fin
    case gb => exact fun a b h1 h2 => ⟨h1.1.then h2, by obtain ⟨u, h3, h4⟩ := h1.2; exact ⟨u, h3, h4.below h2 h4.lt⟩⟩
    case vb =>
      intro oq v a b h hb
      match oq with
      | 0 => exact h
      | 1 => exact h
      | 2 => exact h
      | 3 => exact h
      | 4 => exact h
      | 5 => exact h
      | 6 => exact h
      | 7 => exact h
      | 8 => exact h
      | 9 => exact h
      | 10 => exact h
      | 11 => exact h
      | 12 => exact h
      | 13 => exact h
      | 14 => exact h
      | 15 => exact h
      | 16 => trivial
      | _ + 17 => trivial
    case db =>
      intro hh i oq h
      split at h
      · exact turnOn_of h
      · cases h
    case steps =>
      intro vals
      simp only [List.take_succ_cons, List.take_zero, freeStepsT, Act.put, List.setIfInBounds_toArray, List.set_cons_zero, List.set_cons_succ, Nat.reduceAdd]
      refine ⟨fun hh w8 hi hK hG hW hV => ?_, fun hh w8 hi hK hG hW hV => ?_, fun hh w8 hi hK hG hW hV => ?_, fun hh w8 hi hK hG hW hV => ?_, fun hh w8 hi hK hG hW hV => ?_, fun hh w8 hi hK hG hW hV => ?_, fun hh w8 hi hK hG hW hV => ?_, fun hh w8 hi hK hG hW hV => ?_, fun hh w8 hi hK hG hW hV => ?_, fun hh w8 hi hK hG hW hV => ?_, fun hh w8 hi hK hG hW hV => ?_, fun hh w8 hi hK hG hW hV => ?_, fun hh w8 hi hK hG hW hV => ?_, fun hh w8 hi hK hG hW hV => ?_, fun hh w8 hi hK hG hW hV => ?_, fun hh w8 hi hK hG hW hV => ?_, fun hh w8 hi hK hG hW hV => ?_, trivial⟩
      · refine stepS_early (by decide) (by decide) hK hi (stepS_of rfl ?_)
        clear hW hV hK hi
        refine stepAt_value rfl rfl rfl (.pointer (some ⟨b, 0, none⟩)) w8 ?_ ⟨rfl, .inl (Below.refl _ _)⟩
        go_simp
      · refine stepS_early (by decide) (by decide) hK hi (stepS_of rfl ?_)
        have q0 := hV 0 (hW 0 (by decide)) rfl
        simp only at q0
        rw [q0]
        clear hW hV hK hi
        refine stepAt_value rfl rfl rfl (.pointer (some ⟨b, 0, none⟩)) w8 ?_ ⟨rfl, .inl (Below.refl _ _)⟩
        go_simp
      · refine stepS_early (by decide) (by decide) hK hi (stepS_of rfl ?_)
        have q1 := hV 1 (hW 1 (by decide)) rfl
        simp only at q1
        rw [q1]
        clear hW hV hK hi
        refine stepAt_value rfl rfl rfl (.pointer (some ⟨b, 1, none⟩)) w8 ?_ ⟨rfl, .inl (Below.refl _ _)⟩
        go_simp
      · refine stepS_early (by decide) (by decide) hK hi (stepS_of rfl ?_)
        have q2 := hV 2 (hW 2 (by decide)) rfl
        simp only at q2
        rw [q2]
        clear hW hV hK hi
        refine stepAt_value rfl rfl rfl (.slice (some ⟨g, 0, none⟩) t.n t.n) w8 ?_ ⟨rfl, .inl (Below.refl _ _)⟩
        have c := (HT.out.keep hG.1 HAW.out).cell1
        go_simp
      · refine stepS_early (by decide) (by decide) hK hi (stepS_of rfl ?_)
        clear hW hV hK hi
        refine stepAt_value rfl rfl rfl (.int .i64 (k : Int)) w8 ?_ ⟨rfl, .inl (Below.refl _ _)⟩
        go_simp
      · refine stepS_early (by decide) (by decide) hK hi (stepS_of rfl ?_)
        have q3 := hV 3 (hW 3 (by decide)) rfl
        simp only at q3
        have q4 := hV 4 (hW 4 (by decide)) rfl
        simp only at q4
        rw [q3, q4]
        clear hW hV hK hi
        refine stepAt_value rfl rfl rfl (.pointer (some ⟨g, k * 36, none⟩)) w8 ?_ ⟨rfl, .inl (Below.refl _ _)⟩
        have hn2 := HN.out
        go_simp
      · refine stepS_early (by decide) (by decide) hK hi (stepS_of rfl ?_)
        have q5 := hV 5 (hW 5 (by decide)) rfl
        simp only at q5
        rw [q5]
        clear hW hV hK hi
        refine stepAt_value rfl rfl rfl (.pointer (some ⟨g, k * 36, none⟩)) w8 ?_ ⟨rfl, .inl (Below.refl _ _)⟩
        go_simp
      · refine stepS_early (by decide) (by decide) hK hi (stepS_of rfl ?_)
        have q6 := hV 6 (hW 6 (by decide)) rfl
        simp only at q6
        rw [q6]
        clear hW hV hK hi
        refine stepAt_load_run rfl rfl rfl _ _ rfl _ _ rfl (run_load_vote HVL.out ((HT.out.keep hG.1 HAW.out).last hk)) ⟨rfl, .inl (Below.refl _ _)⟩
      · refine stepS_late (by decide) (fun v ht => ht) (stepS_of rfl ?_)
        clear hW hV hK hi
        refine stepAt_value rfl rfl rfl (.pointer (some ⟨b, 0, none⟩)) w8 ?_ ⟨rfl, rfl⟩
        go_simp
      · refine stepS_late (by decide) (fun v ht => ht) (stepS_of rfl ?_)
        have q8 := hV 8 (hW 8 (by decide)) rfl
        simp only at q8
        rw [q8]
        clear hW hV hK hi
        refine stepAt_value rfl rfl rfl (.pointer (some ⟨b, 0, none⟩)) w8 ?_ ⟨rfl, rfl⟩
        go_simp
      · refine stepS_late (by decide) (fun v ht => ht) (stepS_of rfl ?_)
        have q9 := hV 9 (hW 9 (by decide)) rfl
        simp only at q9
        rw [q9]
        clear hW hV hK hi
        refine stepAt_value rfl rfl rfl (.pointer (some ⟨b, 1, none⟩)) w8 ?_ ⟨rfl, rfl⟩
        go_simp
      · refine stepS_late (by decide) (fun v ht => ht) (stepS_of rfl ?_)
        have q10 := hV 10 (hW 10 (by decide)) rfl
        simp only at q10
        rw [q10]
        clear hW hV hK hi
        refine stepAt_value rfl rfl rfl (.slice (some ⟨g, 0, none⟩) t.n t.n) w8 ?_ ⟨rfl, rfl⟩
        have c := (HT.out.keep hG.1 HAW.out).cell1
        go_simp
      · refine stepS_late (by decide) (fun v ht => ht) (stepS_of rfl ?_)
        clear hW hV hK hi
        refine stepAt_value rfl rfl rfl (.int .i64 (k : Int)) w8 ?_ ⟨rfl, rfl⟩
        go_simp
      · refine stepS_late (by decide) (fun v ht => ht) (stepS_of rfl ?_)
        have q11 := hV 11 (hW 11 (by decide)) rfl
        simp only at q11
        have q12 := hV 12 (hW 12 (by decide)) rfl
        simp only at q12
        rw [q11, q12]
        clear hW hV hK hi
        refine stepAt_value rfl rfl rfl (.pointer (some ⟨g, k * 36, none⟩)) w8 ?_ ⟨rfl, rfl⟩
        have hn2 := HN.out
        go_simp
      · refine stepS_late (by decide) (fun v ht => ht) (stepS_of rfl ?_)
        have q13 := hV 13 (hW 13 (by decide)) rfl
        simp only at q13
        rw [q13]
        clear hW hV hK hi
        refine stepAt_value rfl rfl rfl (.pointer (some ⟨g, k * 36 + 34, none⟩)) w8 ?_ ⟨rfl, rfl⟩
        go_simp
      · refine stepS_late (by decide) (fun v ht => ht) (stepS_of rfl ?_)
        have q14 := hV 14 (hW 14 (by decide)) rfl
        simp only at q14
        rw [q14]
        clear hW hV hK hi
        refine stepAt_value rfl rfl rfl (.bool (hsN t k)) w8 ?_ ⟨rfl, rfl⟩
        have c := (HT.out.keep hG.1 HAW.out).voted hk
        go_simp
      · obtain ⟨hgk, u, hul, hgu⟩ := hG
        have q7 := hV 7 (hW 7 (by decide)) rfl
        simp only at q7
        rw [q7]
        refine stepS_skip rfl rfl (execs_store rfl rfl rfl (run_store_vote hgu HVL.out (by rw [vcl_length hul]; omega))) ⟨⟨trivial, .inr ⟨⟨hgk.setRow (.inl (by simp)) _, ltN t k, HVL.out, ?_⟩, fun j hj hd => ?_⟩⟩, fun _ => ?_, fun hm => absurd hm (by rw [hi]; simp)⟩
        · rw [splice_all _ _ (by rw [vcl_length hul, vcl_length HVL.out])]; exact hgu.setRow _
        · match j, hj, hd with
          | 0, hj, _ => exact hV 0 hj rfl
          | 1, hj, _ => exact hV 1 hj rfl
          | 2, hj, _ => exact hV 2 hj rfl
          | 3, hj, _ => exact hV 3 hj rfl
          | 4, hj, _ => exact hV 4 hj rfl
          | 5, hj, _ => exact hV 5 hj rfl
          | 6, hj, _ => exact hV 6 hj rfl
          | 7, hj, _ => exact hV 7 hj rfl
          | 8, hj, _ => exact hV 8 hj rfl
          | 9, hj, _ => exact hV 9 hj rfl
          | 10, hj, _ => exact hV 10 hj rfl
          | 11, hj, _ => exact hV 11 hj rfl
          | 12, hj, _ => exact hV 12 hj rfl
          | 13, hj, _ => exact hV 13 hj rfl
          | 14, hj, _ => exact hV 14 hj rfl
          | 15, hj, _ => exact hV 15 hj rfl
          | 16, _, _ => trivial
          | _ + 17, _, _ => trivial
        · rw [splice_all _ _ (by rw [vcl_length hul, vcl_length HVL.out])]; exact hgu.setRow _
    case fin =>
      intro hh vals w9 hall hG hV hT
      have HBN := Lib.hid (HB.out.trans ((hG.1.below HB.out.size (fun x hx => by simp at hx; rw [hx]; exact HXL.out))))
      have HXN := Lib.hid hT
      have q15 := hV 15 (hall 15 (by omega)) rfl
      simp only at q15
      simp only [List.take_succ_cons, List.take_zero, List.drop_succ_cons, List.drop_zero, putAll, Act.put, List.setIfInBounds_toArray, List.set_cons_zero, List.set_cons_succ, Nat.reduceAdd]
      rw [q15]
      clear hV q15 hall hG hT
      go_wp2_with fail
      exact ret_vote2 rfl rfl HXN.out HVL.out rfl ⟨by rw [HA.out.1, HA.out.2]; rfl, HBN.out⟩
theorem vote_nil (w : World) (i : Int) : Calls Try.prog 12 #[.pointer none, .int .i64 i] w fun e w' => e = .returned (.tuple #[.agg (vcl vt0).toArray, .bool false]) ∧ Below w.heap.size w w' := by
  have hb1 : Below w.heap.size w (w.alloc (.cells #[.int .i64 0, .int .i64 0, .int .u8 0, .int .u8 0, .int .u8 0, .int .u8 0, .int .u8 0, .int .u8 0, .int .u8 0, .int .u8 0, .int .u8 0, .int .u8 0, .int .u8 0, .int .u8 0, .int .u8 0, .int .u8 0, .int .u8 0, .int .u8 0, .int .u8 0, .int .u8 0, .int .u8 0, .int .u8 0, .int .u8 0, .int .u8 0, .int .u8 0, .int .u8 0, .int .u8 0, .int .u8 0, .int .u8 0, .int .u8 0, .int .u8 0, .int .u8 0, .int .u8 0, .int .u8 0] 29)) := (Below.refl _ w).alloc (Nat.le_refl _) _
  have HB := Lib.hid hb1
  have HX := Lib.hid (zero_vote w)
  obtain ⟨X, hX⟩ : ∃ X, X = w.heap.size := ⟨_, rfl⟩
  rw [← hX] at HX
  have HXL := Lib.hid (show w.heap.size ≤ X by omega)
  have HV0 := Lib.hid vt0_len
  clear hb1
  go_enter Try.func12, Try.ntmps12
  go_upto_region 1 with fail
  rw [← hX]
  generalize (w.alloc (.cells #[.int .i64 0, .int .i64 0, .int .u8 0, .int .u8 0, .int .u8 0, .int .u8 0, .int .u8 0, .int .u8 0, .int .u8 0, .int .u8 0, .int .u8 0, .int .u8 0, .int .u8 0, .int .u8 0, .int .u8 0, .int .u8 0, .int .u8 0, .int .u8 0, .int .u8 0, .int .u8 0, .int .u8 0, .int .u8 0, .int .u8 0, .int .u8 0, .int .u8 0, .int .u8 0, .int .u8 0, .int .u8 0, .int .u8 0, .int .u8 0, .int .u8 0, .int .u8 0, .int .u8 0, .int .u8 0] 29)) = w1 at HB HX ⊢
  clear hX
  have HC := Lib.hid (has_nil w1 i)
  go_wp2_with fail
  refine HC.out.mono ?_
  rintro e wr ⟨rfl, rfl⟩
  go_wp2_with (first
    | ((with_reducible refine wpList_build_l 29 #[] [] (vcl vt0).toArray built_vt0 ?_ ?_ ?_ ?_); rfl; rfl; rfl)
    | ((with_reducible refine wpList_store_vote (.tmp 4) (.tmp 10) ?_ ?_ X vt0 vt0 ?_ ?_ HX.out HV0.out HV0.out ?_); rfl; rfl; rfl; rfl))
  exact ret_vote2 rfl rfl (HX.out.setRow (vcl vt0)) HV0.out rfl ⟨rfl, below_row HB.out HXL.out _⟩
end Go.Proofs.Ytoinigcfcjllcaa

/-
  The program's table: what a store into one of its rows leaves, what a new first vote leaves.
-/
namespace Go.Proofs.Ytoinigcfcjllcaa
open Go Go.RowKit
set_option maxRecDepth 10000

theorem getD_at {α : Type} (l : List α) {i : Nat} (h : i < l.length) (j : Nat) (x d : α) : (l.set i x)[j]?.getD d = if j = i then x else l[j]?.getD d := by
  by_cases e : j = i
  · subst e; rw [if_pos rfl, List.getElem?_set_self h]; rfl
  · rw [if_neg e, List.getElem?_set_ne (fun h => e h.symm)]
def setV (t : Tb) (v : Vt) : Tb := { t with lt := t.lt.set v.w.toNat v }
theorem FitT.setV {t : Tb} (h : FitT t) {v : Vt} (hv : v.g.length = 32) (hs : 0 ≤ v.s ∧ v.s ≤ 1073741824) : FitT (setV t v) := by
  refine ⟨⟨by simp [Go.Proofs.Ytoinigcfcjllcaa.setV]; exact h.gd.ln, h.gd.hn, h.gd.on, h.gd.n1, h.gd.n2, h.gd.k1, h.gd.k2⟩, fun x hx => ?_, h.fs⟩
  rcases mem_set_or hx with rfl | ⟨j, _, hx⟩
  · exact ⟨hv, hs.1, hs.2⟩
  · exact h.lg x (List.mem_of_getElem? hx)
section
variable {w w' : World} {b m g k : Nat} {t : Tb} {v : Vt}
theorem TP.rows {t' : Tb} (h : TP w b m g t) (hf : FitT t') (hn : t'.n = t.n) (hk : t'.k = t.k) (hfs : t'.fs = t.fs) (hk' : Kept [g] w w') (hv : Blk w' g 62 (rowsOf t.n (vrow t'))) : TP w' b m g t' := by
  obtain ⟨D, hD, hS⟩ := h.map
  refine ⟨hf, ?_, by rw [hn]; exact hv, ⟨D, by rw [hfs]; exact own_kept hD hk' (by simp; exact fun e => h.ne.2.2 e.symm), by rw [hfs]; exact hS⟩, h.ne⟩
  rw [hn, hk]
  exact h.blk.kept hk' (by simp; exact h.ne.1)
theorem TP.doOut (h : TP w b m g t) (hk : k < t.n) : TP (w.setCell ⟨g, k * 36 + 35, none⟩ (.bool true)) b m g (setO t (k : Int)) ∧ Kept [g] w (w.setCell ⟨g, k * 36 + 35, none⟩ (.bool true)) := by
  have hkk : Kept [g] w (w.setCell ⟨g, k * 36 + 35, none⟩ (.bool true)) := (Kept.refl _ _).setCell _ _ (.inl (by simp))
  refine ⟨h.rows (h.fit.setO _) rfl rfl rfl hkk ?_, hkk⟩
  have e : (rowsOf t.n (vrow t)).set (k * 36 + 35) (.bool true) = rowsOf t.n (vrow (setO t (k : Int))) := by
    refine rowsOf_set h.fit.vrow (h.fit.setO _).vrow (by omega) _ ?_ fun j hj => ?_
    · have h1 : otN (setO t (k : Int)) k = true := by
        unfold otN setO
        simp only [Int.toNat_natCast]
        rw [getD_at _ (by rw [h.fit.gd.on]; exact hk), if_pos rfl]
      unfold vrow
      rw [h1, show ltN (setO t (k : Int)) k = ltN t k from rfl, show hsN (setO t (k : Int)) k = hsN t k from rfl, List.set_append_right _ _ (by rw [vcl_length (h.fit.l k).1]; omega), vcl_length (h.fit.l k).1]
      rfl
    · have h1 : otN (setO t (k : Int)) j = otN t j := by
        unfold otN setO
        simp only [Int.toNat_natCast]
        rw [getD_at _ (by rw [h.fit.gd.on]; exact hk), if_neg hj]
      unfold vrow
      rw [h1]
      rfl
  rw [← e]
  exact h.vot.set _ _
theorem TP.rowV (h : TP w b m g t) (hk : k < t.n) (hw : v.w = (k : Int)) (hv : v.g.length = 32) (hs : 0 ≤ v.s ∧ v.s ≤ 1073741824) : splice (rowsOf t.n (vrow t)) (k * 36) (vcl v) = rowsOf t.n (vrow (setV t v)) := by
  refine (congrArg (fun q => splice (rowsOf t.n (vrow t)) q (vcl v)) (Nat.add_zero (k * 36)).symm).trans ?_
  refine rowsOf_splice (n := t.n) (k := 36) (i := k) (o := 0) (f := vrow t) (f' := vrow (setV t v)) h.fit.vrow (h.fit.setV hv hs).vrow hk (by rw [vcl_length hv]; omega) ?_ fun j hj => ?_
  · have h1 : ltN (setV t v) k = v := by
      unfold ltN setV
      simp only [hw, Int.toNat_natCast]
      rw [getD_at _ (by rw [h.fit.gd.ln]; exact hk), if_pos rfl]
    unfold vrow
    rw [h1, show hsN (setV t v) k = hsN t k from rfl, show otN (setV t v) k = otN t k from rfl]
    unfold splice
    rw [List.take_zero, List.nil_append, Nat.zero_add, vcl_length hv, List.drop_append, vcl_length (h.fit.l k).1, List.drop_of_length_le (by rw [vcl_length (h.fit.l k).1]; omega)]
    rfl
  · have h1 : ltN (setV t v) j = ltN t j := by
      unfold ltN setV
      simp only [hw, Int.toNat_natCast]
      rw [getD_at _ (by rw [h.fit.gd.ln]; exact hk), if_neg hj]
    unfold vrow
    rw [h1]
    rfl
theorem TP.doV (h : TP w b m g t) (hv : v.g.length = 32) (hs : 0 ≤ v.s ∧ v.s ≤ 1073741824) : TP (w.setRow g (rowsOf t.n (vrow (setV t v))).toArray) b m g (setV t v) ∧ Kept [g] w (w.setRow g (rowsOf t.n (vrow (setV t v))).toArray) := by
  have hkk : Kept [g] w (w.setRow g (rowsOf t.n (vrow (setV t v))).toArray) := (Kept.refl _ _).setRow (.inl (by simp)) _
  exact ⟨h.rows (h.fit.setV hv hs) rfl rfl rfl hkk (h.vot.setRow _), hkk⟩
def setH (t : Tb) (v : Vt) : Tb := { t with hs := t.hs.set v.w.toNat true }
theorem setL_eq (t : Tb) (v : Vt) : setL t v = setH (setV t v) v := rfl
theorem FitT.setH {t : Tb} (h : FitT t) (v : Vt) : FitT (setH t v) := ⟨⟨h.gd.ln, by simp [Go.Proofs.Ytoinigcfcjllcaa.setH]; exact h.gd.hn, h.gd.on, h.gd.n1, h.gd.n2, h.gd.k1, h.gd.k2⟩, h.lg, h.fs⟩
theorem TP.doH (h : TP w b m g t) (hk : k < t.n) (hw : v.w = (k : Int)) : TP (w.setCell ⟨g, k * 36 + 34, none⟩ (.bool true)) b m g (setH t v) ∧ Kept [g] w (w.setCell ⟨g, k * 36 + 34, none⟩ (.bool true)) := by
  have hkk : Kept [g] w (w.setCell ⟨g, k * 36 + 34, none⟩ (.bool true)) := (Kept.refl _ _).setCell _ _ (.inl (by simp))
  refine ⟨h.rows (h.fit.setH _) rfl rfl rfl hkk ?_, hkk⟩
  have e : (rowsOf t.n (vrow t)).set (k * 36 + 34) (.bool true) = rowsOf t.n (vrow (setH t v)) := by
    refine rowsOf_set h.fit.vrow (h.fit.setH _).vrow (by omega) _ ?_ fun j hj => ?_
    · have h1 : hsN (setH t v) k = true := by
        unfold hsN setH
        simp only [hw, Int.toNat_natCast]
        rw [getD_at _ (by rw [h.fit.gd.hn]; exact hk), if_pos rfl]
      unfold vrow
      rw [h1, show ltN (setH t v) k = ltN t k from rfl, show otN (setH t v) k = otN t k from rfl, List.set_append_right _ _ (by rw [vcl_length (h.fit.l k).1]; omega), vcl_length (h.fit.l k).1]
      rfl
    · have h1 : hsN (setH t v) j = hsN t j := by
        unfold hsN setH
        simp only [hw, Int.toNat_natCast]
        rw [getD_at _ (by rw [h.fit.gd.hn]; exact hk), if_neg hj]
      unfold vrow
      rw [h1]
      rfl
  rw [← e]
  exact h.vot.set _ _
/-- A new first vote in the map. -/
theorem TP.doF (h : TP w b m g t) (hv : v.g.length = 32) (hok : okV t v) (hn : fstT t.fs v.w (ep t.k v.s) = none) {D : DataW Unit} (hS : SaysF D t.fs)
    (hown : w'.ownsMap Try.prog 59 rootE m (t.fs.length + 1) (D.put (keyT v.w (ep t.k v.s)) (.lit (.string v.g)))) (hM : Maps.IsMap D) (hg : w.grownBy w' (some m)) : TP w' b m g (addF t v) ∧ Kept [m] w w' := by
  have hkk : Kept [m] w w' := Kept.of_grown _ hg (fun k hk => by cases hk; simp)
  have hf := h.fit.add hv hok hn
  have h2 := h.fit.gd.n2
  have h3 := hok.1
  have h4 := hok.2.1
  have h5 := ep_range h.fit.gd.k1 hok.2.2.1 hok.2.2.2
  refine ⟨⟨hf, h.blk.kept hkk (by simp; exact h.ne.2.1), h.vot.kept hkk (by simp; exact h.ne.2.2), ⟨_, by rw [show (addF t v).fs.length = t.fs.length + 1 by simp [addF]]; exact hown, hS.put hM h.fit.fs (f := ⟨v.w, ep t.k v.s, v.g⟩) hn (by unfold I6; show -9223372036854775808 ≤ v.w ∧ v.w ≤ 9223372036854775807; omega) (by unfold I6; show -9223372036854775808 ≤ ep t.k v.s ∧ ep t.k v.s ≤ 9223372036854775807; omega)⟩, h.ne⟩, hkk⟩
end
end Go.Proofs.Ytoinigcfcjllcaa

/-
  The program's Forget: first votes of epochs that are over are let go.
-/
namespace Go.Proofs.Ytoinigcfcjllcaa
open Go Go.RowKit
set_option maxRecDepth 10000

theorem Try.sizeTerm : (Try.prog.info? 59).map (·.size) = some 2 := by kernel_rfl
theorem Try.aggTerm (w : World) : (isAgg 59).run Try.prog w = .ok true w := by
  unfold isAgg
  rw [Sem.run_bind, run_underlying Try.underlying59 w]
  rfl
def tml (a e : Int) : List Value := [.int .i64 a, .int .i64 e]
theorem tml_one (a e : Int) : ∀ v ∈ tml a e, v.oneCell' = true := fun v hv => by
  simp only [tml, List.mem_cons, List.not_mem_nil, or_false] at hv
  rcases hv with rfl | rfl <;> rfl
theorem run_load_term {w : World} {g : Nat} {ty : TypeId} {a e : Int} (h : Blk w g ty (tml a e)) : (Instr.loadAt 59 (.pointer (some ⟨g, 0, none⟩))).run Try.prog w = .ok (tmv a e) w :=
  run_loadAt_agg (cs := tml a e) (fun j x hj => by rw [Nat.zero_add, h.cell j]; exact hj) 59 Try.aggTerm Try.sizeTerm
theorem wpList_store_term {ops : Array Oper} {rest : List Oper} {o : Oper} {a : Act} {w : World} {Q : Exit → Act → World → Prop} (x y : Operand) (ho : o.op = .store 59 x y) (hgd : o.guard = none) (g : Nat) (c d a' e' : Int) (hx : a.eval x = .pointer (some ⟨g, 0, none⟩)) (hy : a.eval y = tmv a' e') (hg : Blk w g 59 (tml c d))
    (h : wpList Try.prog ops Q rest (a.put o.dst undef) (w.setRow g (tml a' e').toArray)) : wpList Try.prog ops Q (o :: rest) a w := by
  refine wpList_store_part hgd 59 x y ho g 0 (tml a' e') hx hy 59 (tml c d) hg Try.sizeTerm (Nat.le_refl _) (tml_one _ _) ?_
  rw [show splice (tml c d) 0 (tml a' e') = tml a' e' from splice_all _ _ rfl]
  exact h
def pF (k : Nat) (s : Int) (f : Fs) : Bool := decide (s < 0) || decide (ep k s ≤ f.e)
theorem forget_fs (t : Tb) (s : Int) : (forgetT t s).fs = t.fs.filter (pF t.k s) := rfl
theorem pF_keep {t : Tb} (s : Int) {f : Fs} (hl : ¬ f.e < ep t.k s) : pF t.k s f = true := by
  unfold pF; rw [Bool.or_eq_true]; right; exact decide_eq_true (by omega)
theorem pF_drop {t : Tb} (h : FitT t) (s : Int) {f : Fs} (hf : f ∈ t.fs) (hl : f.e < ep t.k s) : pF t.k s f = false := by
  have h0 := (h.fs.e f hf).1
  have h1 : ¬ s < 0 := fun hs => by
    have h2 : ep t.k s ≤ 0 := by
      unfold ep
      have := Int.tdiv_nonneg (show 0 ≤ -s by omega) (show (0 : Int) ≤ (t.k : Int) by omega)
      rw [Int.neg_tdiv] at this; omega
    omega
  unfold pF
  rw [decide_eq_false h1, decide_eq_false (by omega)]; rfl

/-- Where the loop is. -/
structure Fgt (w : World) (b m g : Nat) (t : Tb) (s : Int) (R : Nat) (D : DataW Unit) (left : Lit → Bool) (cnt : Nat) (wr : World) : Prop where
  rg : wr.ranges Try.prog 59 rootE m R t.fs.length D left cnt
  half : Half D t.fs (pF t.k s) left
  kept : Kept [m] w wr
theorem Fgt.tp {w : World} {b m g : Nat} {t : Tb} {s : Int} {R : Nat} {D : DataW Unit} {left : Lit → Bool} {cnt : Nat} {wr : World} (h : Fgt w b m g t s R D left cnt wr) (hT : TP w b m g t) : Blk wr b 57 [.int .i64 (t.k : Int), .slice (some ⟨g, 0, none⟩) t.n t.n, .map (some m)] ∧ Blk wr g 62 (rowsOf t.n (vrow t)) :=
  ⟨hT.blk.kept h.kept (by simp; exact hT.ne.2.1), hT.vot.kept h.kept (by simp; exact hT.ne.2.2)⟩
theorem Fgt.below {w : World} {b m g : Nat} {t : Tb} {s : Int} {R : Nat} {D : DataW Unit} {left : Lit → Bool} {cnt : Nat} {wr w' : World} (h : Fgt w b m g t s R D left cnt wr) (hb : Below wr.heap.size wr w') : Fgt w b m g t s R D left cnt w' :=
  ⟨h.rg.kept (row := none) ⟨hb.os, hb.tape, hb.output, hb.size, fun i hi _ => hb.block i hi⟩ (by simp) (by simp), h.half, h.kept.then hb⟩
theorem Fgt.fin {w : World} {b m g : Nat} {t : Tb} {s : Int} {R : Nat} {D : DataW Unit} {left : Lit → Bool} {cnt : Nat} {wr : World} (h : Fgt w b m g t s R D left cnt wr) (hT : TP w b m g t) (hl : ∀ kl, left kl = false) : TP wr b m g (forgetT t s) := by
  have hS := h.half.fin hl
  have hown := h.rg.owns
  have hz := hS.size (hT.fit.forget s).fs hown
  have ht := own_tight hown
  rw [hz] at ht
  exact ⟨hT.fit.forget s, (h.tp hT).1, (h.tp hT).2, ⟨D, ht, hS⟩, hT.ne⟩
theorem strike (left : Lit → Bool) (kl : Lit) : (fun z : Lit => (left z && !z.sameKey kl) && !z.sameKey kl) = fun z => left z && !z.sameKey kl := Maps.strike_twice left kl
theorem epoch_blk (w : World) (b k : Nat) (v1 v2 : Value) (s : Int) (h : Blk w b 57 [.int .i64 (k : Int), v1, v2]) (hk : 1 ≤ k) (hs : I6 s) : Calls Try.prog 22 #[.pointer (some ⟨b, 0, none⟩), .int .i64 s] w fun e w' => e = .returned (.int .i64 (ep k s)) ∧ w' = w := by
  have HQ := Lib.hid (ep_wrap hk hs).1
  have hk0 : ¬ (k : Int) = 0 := by omega
  have c := h.cell 0
  simp only [List.getElem?_cons_zero] at c
  clear h hs
  go_enter Try.func22, Try.ntmps22
  go_wp2_with fail
  go_ret
  exact ⟨by rw [← HQ.out]; rfl, rfl⟩
theorem forget_nil (w : World) (s : Int) : Calls Try.prog 11 #[.pointer none, .int .i64 s] w fun e w' => e = .returned (.tuple #[]) ∧ w' = w := by
  go_enter Try.func11, Try.ntmps11
  go_wp2_with fail
  ((try simp only [Exit.inBlock, Exit.then]); refine bodyPost_ret (results_none rfl _ _ _) rfl ?_)
  exact ⟨rfl, rfl⟩
set_option maxHeartbeats 8000000 in
theorem forget_any (w : World) (b m g : Nat) (t : Tb) (s : Int) (h : TP w b m g t) (hs : I6 s) : Calls Try.prog 11 #[.pointer (some ⟨b, 0, none⟩), .int .i64 s] w fun e w' => e = .returned (.tuple #[]) ∧ TP w' b m g (forgetT t s) ∧ Kept [b, m, g] w w' := by
  obtain ⟨D, hD, hS⟩ := h.map
  have HT := Lib.hid h
  have HI := Lib.hid hs
  have HD := Lib.hid hD
  have HF := Lib.hid (hS.half (pF t.k s))
  have HR0 := Lib.hid h.low
  have c2 := h.cell2
  clear h hs hD hS
  go_enter Try.func11, Try.ntmps11
  go_wp2_with (first
    | (at_range; refine wpList_range_own _ rfl _ 55 rfl 59 27 Try.keyedT Try.underlying55 rootE m t.fs.length D rfl HD.out ?_; intro w0 hrg0 hg0 hs0)
    | go_in)
  go_frame
  have HG0 := Lib.hid (show Fgt w b m g t s w.heap.size D (Maps.has D) (Maps.size D) w0 from ⟨hrg0, HF.out, Kept.of_grown _ hg0 (fun k hk => by cases hk)⟩)
  obtain ⟨R, hR⟩ : ∃ R, R = w.heap.size := ⟨_, rfl⟩
  have HRL := Lib.hid (show w.heap.size ≤ R by omega)
  rw [← hR] at HG0 ⊢
  clear hrg0 hg0 hs0 HF HD c2 hR
  go_loopg [] (Maps.size D) (fun gm wr => ∃ left D', Hid (Fgt w b m g t s R D' left gm wr))
  case atStart => exact ⟨_, _, HG0⟩
  case round =>
    clear HG0
    obtain ⟨left, D', HG⟩ := hrel
    have hrg := HG.out.rg
    go_wp2_with (first
      | (at_next; refine wpList_next_ranges _ rfl _ rfl 59 Try.keyedT rootE (fun x : Int × Int => tmv x.1 x.2) (fun r : List UInt8 => .agg (bv r).toArray) (fun key kl hk => by obtain ⟨a, e, h1, _⟩ := key_inv hk; exact ⟨(a, e), h1⟩) (fun v y hv => by obtain ⟨r, _, h1, _⟩ := rootE_inv hv; exact ⟨r, h1⟩) m R t.fs.length D' left gk rfl hrg ?_ ?_)
      | go_in)
    · intro _ hl0
      have HL := Lib.hid hl0
      clear hl0 hrg
      go_wp2_with fail
      go_end0
      exact ⟨rfl, HG.out.fin HT.out HL.out, HG.out.kept.mono (by simp)⟩
    · intro x1 x2 c kl y1 y2 w1 cnt1 hkx hlx hry hat hrg1 hlt hg1 hs1 hen
      obtain ⟨f, hf, hfk⟩ := HG.out.half.sub kl hlx
      obtain ⟨a, e, hx1, hx2, ha, he⟩ := key_inv hkx
      simp [tmv] at hx1
      obtain ⟨hxa, hxe⟩ := hx1
      subst hxa
      subst hxe
      obtain ⟨hfw, hfe⟩ := (fkey_eq HT.out.fit.fs hf ha he).1 (hfk.trans hx2)
      subst hfw
      subst hfe
      subst hfk
      have HFM := Lib.hid hf
      have HRG := Lib.hid hrg1
      have HK1 := Lib.hid (show Kept [m] w w1 from HG.out.kept.trans (Kept.of_grown [R] hg1 (fun k hk => by cases hk; simp)) (fun q hq => by simp at hq; subst hq; exact .inr HRL.out))
      have HHF := Lib.hid HG.out.half
      have HLT := Lib.hid hlt
      clear hkx hlx hry hat hrg1 hlt hg1 hs1 hx2 ha he hf hrg HG
      have HV0 := Lib.hid (show Blk (w1.alloc (.cells #[.int .i64 0, .int .i64 0] 59)) w1.heap.size 59 (tml 0 0) from Blk.new w1 59 #[.int .i64 0, .int .i64 0])
      have hbx : Below w1.heap.size w1 ((w1.alloc (.cells #[.int .i64 0, .int .i64 0] 59)).setRow w1.heap.size (tml f.w f.e).toArray) := below_row ((Below.refl _ w1).alloc (Nat.le_refl _) _) (Nat.le_refl _) _
      have HV := Lib.hid (HV0.out.setRow (tml f.w f.e))
      have hgn : w1.grownBy ((w1.alloc (.cells #[.int .i64 0, .int .i64 0] 59)).setRow w1.heap.size (tml f.w f.e).toArray) none := ⟨hbx.os, hbx.tape, hbx.output, hbx.size, fun i hi _ => hbx.block i hi⟩
      replace HRG := Lib.hid (HRG.out.kept hgn (by simp) (by simp))
      replace HK1 := Lib.hid (HK1.out.then hbx)
      clear hgn hbx
      obtain ⟨V, hV⟩ : ∃ V, V = w1.heap.size := ⟨_, rfl⟩
      go_upto_region 4 with ((with_reducible refine wpList_store_term (.tmp 4) (.tmp 15) ?_ ?_ w1.heap.size 0 0 f.w f.e ?_ ?_ HV0.out ?_); rfl; rfl; rfl; rfl)
      try simp only [Act.put]
      rw [← hV] at HV HRG HK1 ⊢
      generalize (w1.alloc (.cells #[.int .i64 0, .int .i64 0] 59)).setRow V (tml f.w f.e).toArray = w2 at HV HRG HK1 ⊢
      clear hV HV0 hen
      have HBM := Lib.hid (show b ∉ [m] by simp; exact HT.out.ne.2.1)
      by_cases hle : f.e < ep t.k s
      · have HLE := Lib.hid (show f.e < ep t.k s from hle)
        clear hle
        refine wp_region_free (P := Try.prog) 6 (fun w' => Below w2.heap.size w2 w') (fun oq v w' => match oq with
            | 0 => v = .pointer (some ⟨V, 1, none⟩)
            | 1 => v = .int .i64 f.e
            | 2 => v = .pointer (some ⟨b, 0, none⟩)
            | 3 => v = .int .i64 s
            | 4 => v = .int .i64 (ep t.k s)
            | 5 => v = .bool true
            | _ => True) (by kernel_rfl) (by kernel_rfl) (Below.refl _ _).drew ?gb ?vb ?steps ?fin
        case gb => exact fun a b h1 h2 => h1.trans (h2.mono h1.size)
        case vb =>
          intro oq v a b h hb
          match oq with
          | 0 => exact h
          | 1 => exact h
          | 2 => exact h
          | 3 => exact h
          | 4 => exact h
          | 5 => exact h
          | _ + 6 => trivial
        case steps =>
          intro vals
          simp only [List.take_succ_cons, List.take_zero, freeSteps, Act.put, List.setIfInBounds_toArray, List.set_cons_zero, List.set_cons_succ, Nat.reduceAdd]
          refine ⟨fun w8 hG hW => ?_, fun w8 hG hW => ?_, fun w8 hG hW => ?_, fun w8 hG hW => ?_, fun w8 hG hW => ?_, fun w8 hG hW => ?_, trivial⟩
          · clear hW
            refine stepAt_value rfl rfl rfl (.pointer (some ⟨V, 1, none⟩)) w8 ?_ ⟨rfl, Below.refl _ _⟩
            go_simp
          · have q0 := hW 0 (by decide)
            simp only at q0
            rw [q0]
            clear hW
            refine stepAt_value rfl rfl rfl (.int .i64 f.e) w8 ?_ ⟨rfl, Below.refl _ _⟩
            have c := (HV.out.below hG HV.out.lt).cell 1
            simp only [tml, List.getElem?_cons_succ, List.getElem?_cons_zero] at c
            go_simp
          · clear hW
            refine stepAt_value rfl rfl rfl (.pointer (some ⟨b, 0, none⟩)) w8 ?_ ⟨rfl, Below.refl _ _⟩
            go_simp
          · clear hW
            refine stepAt_value rfl rfl rfl (.int .i64 s) w8 ?_ ⟨rfl, Below.refl _ _⟩
            go_simp
          · have q2 := hW 2 (by decide)
            simp only at q2
            have q3 := hW 3 (by decide)
            simp only at q3
            rw [q2, q3]
            clear hW
            refine stepAt_call rfl rfl rfl 22 #[.pointer (some ⟨b, 0, none⟩), .int .i64 s] (by go_simp) ((epoch_blk w8 b t.k _ _ s ((HT.out.blk.kept HK1.out HBM.out).below hG (HT.out.blk.kept HK1.out HBM.out).lt) HT.out.fit.gd.k1 HI.out).mono fun e w' ⟨h1, h2⟩ => ⟨_, h1, rfl, by rw [h2]; exact Below.refl _ _⟩)
          · have q1 := hW 1 (by decide)
            simp only at q1
            have q4 := hW 4 (by decide)
            simp only at q4
            rw [q1, q4]
            clear hW
            refine stepAt_value rfl rfl rfl (.bool true) w8 ?_ ⟨rfl, Below.refl _ _⟩
            have hlt2 := HLE.out
            go_simp
        case fin =>
          intro vals w3 hG hV
          have q5 := hV 5 (by omega)
          simp only at q5
          simp only [List.take_succ_cons, List.take_zero, List.drop_succ_cons, List.drop_zero, putAll, Act.put, List.setIfInBounds_toArray, List.set_cons_zero, List.set_cons_succ, Nat.reduceAdd]
          rw [q5]
          clear hV q5
          generalize vals 0 = y0
          generalize vals 1 = y1
          generalize vals 2 = y2
          generalize vals 3 = y3
          generalize vals 4 = y4
          replace HV := Lib.hid (HV.out.below hG HV.out.lt)
          replace HRG := Lib.hid (HRG.out.kept (row := none) ⟨hG.os, hG.tape, hG.output, hG.size, fun i hi _ => hG.block i hi⟩ (by simp) (by simp))
          replace HK1 := Lib.hid (HK1.out.then hG)
          clear hG
          go_upto_region 5 with fail
          refine wp_region_free (P := Try.prog) 5 (fun w' => Below w3.heap.size w3 w') (fun oq v w' => match oq with
              | 0 => v = .pointer (some ⟨b, 0, none⟩)
              | 1 => v = .pointer (some ⟨b, 0, none⟩)
              | 2 => v = .pointer (some ⟨b, 2, none⟩)
              | 3 => v = .map (some m)
              | 4 => v = tmv f.w f.e
              | _ => True) (by kernel_rfl) (by kernel_rfl) (Below.refl _ _).drew ?gb ?vb ?steps ?fin
          case gb => exact fun a b h1 h2 => h1.trans (h2.mono h1.size)
          case vb =>
            intro oq v a b h hb
            match oq with
            | 0 => exact h
            | 1 => exact h
            | 2 => exact h
            | 3 => exact h
            | 4 => exact h
            | _ + 5 => trivial
          case steps =>
            intro vals
            simp only [List.take_succ_cons, List.take_zero, freeSteps, Act.put, List.setIfInBounds_toArray, List.set_cons_zero, List.set_cons_succ, Nat.reduceAdd]
            refine ⟨fun w8 hG hW => ?_, fun w8 hG hW => ?_, fun w8 hG hW => ?_, fun w8 hG hW => ?_, fun w8 hG hW => ?_, trivial⟩
            · clear hW
              refine stepAt_value rfl rfl rfl (.pointer (some ⟨b, 0, none⟩)) w8 ?_ ⟨rfl, Below.refl _ _⟩
              go_simp
            · have q0 := hW 0 (by decide)
              simp only at q0
              rw [q0]
              clear hW
              refine stepAt_value rfl rfl rfl (.pointer (some ⟨b, 0, none⟩)) w8 ?_ ⟨rfl, Below.refl _ _⟩
              go_simp
            · have q1 := hW 1 (by decide)
              simp only at q1
              rw [q1]
              clear hW
              refine stepAt_value rfl rfl rfl (.pointer (some ⟨b, 2, none⟩)) w8 ?_ ⟨rfl, Below.refl _ _⟩
              go_simp
            · have q2 := hW 2 (by decide)
              simp only at q2
              rw [q2]
              clear hW
              refine stepAt_value rfl rfl rfl (.map (some m)) w8 ?_ ⟨rfl, Below.refl _ _⟩
              have c := ((HT.out.blk.kept HK1.out HBM.out).below hG ((HT.out.blk.kept HK1.out HBM.out).lt)).cell 2
              simp only [List.getElem?_cons_succ, List.getElem?_cons_zero] at c
              go_simp
            · clear hW
              refine stepAt_load_run rfl rfl rfl _ _ rfl _ _ rfl (run_load_term (HV.out.below hG HV.out.lt)) ⟨rfl, Below.refl _ _⟩
          case fin =>
            intro vals w4 hG hV
            have q3 := hV 3 (by omega)
            simp only at q3
            have q4 := hV 4 (by omega)
            simp only at q4
            simp only [List.take_succ_cons, List.take_zero, List.drop_succ_cons, List.drop_zero, putAll, Act.put, List.setIfInBounds_toArray, List.set_cons_zero, List.set_cons_succ, Nat.reduceAdd]
            rw [q3, q4]
            clear hV q3 q4
            generalize vals 0 = y0
            generalize vals 1 = y1
            generalize vals 2 = y2
            replace HRG := Lib.hid (HRG.out.kept (row := none) ⟨hG.os, hG.tape, hG.output, hG.size, fun i hi _ => hG.block i hi⟩ (by simp) (by simp))
            replace HK1 := Lib.hid (HK1.out.then hG)
            clear hG
            have HKY := Lib.hid (show keyOf Try.prog 59 (tmv f.w f.e) = some (fkey f) from key_term (HT.out.fit.fs.iw HFM.out) (HT.out.fit.fs.ie HFM.out))
            have HDR := Lib.hid (HHF.out.drop HT.out.fit.fs HFM.out (pF_drop HT.out.fit s HFM.out HLE.out))
            go_wp2_with (at_delete; refine wpList_delete_ranges _ rfl _ _ 55 59 rfl 27 Try.keyedT Try.underlying55 rootE m R t.fs.length D' _ cnt1 rfl HRG.out _ _ rfl HKY.out ?_; intro w5 cnt2 hrg2 hle2 hturn; go_frame)
            rw [strike] at hrg2
            have HN := Lib.hid (show Fgt w b m g t s R (D'.del (fkey f)) (fun z => left z && !z.sameKey (fkey f)) cnt2 w5 from ⟨hrg2, HDR.out, HK1.out.trans (Kept.of_grown [m] hturn.grown (fun k hk => by cases hk; simp)) (NewF.refl _ _)⟩)
            have HC2 := Lib.hid (show cnt2 < gk by have := HLT.out; omega)
            clear hrg2 hle2 hturn
            go_wp2_with fail
            go_roundg cnt2
            case measure => exact HC2.out
            case rel => exact ⟨_, _, HN⟩
      · have HLE := Lib.hid (show ¬ f.e < ep t.k s from hle)
        clear hle
        refine wp_region_free (P := Try.prog) 6 (fun w' => Below w2.heap.size w2 w') (fun oq v w' => match oq with
            | 0 => v = .pointer (some ⟨V, 1, none⟩)
            | 1 => v = .int .i64 f.e
            | 2 => v = .pointer (some ⟨b, 0, none⟩)
            | 3 => v = .int .i64 s
            | 4 => v = .int .i64 (ep t.k s)
            | 5 => v = .bool false
            | _ => True) (by kernel_rfl) (by kernel_rfl) (Below.refl _ _).drew ?gb ?vb ?steps ?fin
        case gb => exact fun a b h1 h2 => h1.trans (h2.mono h1.size)
        case vb =>
          intro oq v a b h hb
          match oq with
          | 0 => exact h
          | 1 => exact h
          | 2 => exact h
          | 3 => exact h
          | 4 => exact h
          | 5 => exact h
          | _ + 6 => trivial
        case steps =>
          intro vals
          simp only [List.take_succ_cons, List.take_zero, freeSteps, Act.put, List.setIfInBounds_toArray, List.set_cons_zero, List.set_cons_succ, Nat.reduceAdd]
          refine ⟨fun w8 hG hW => ?_, fun w8 hG hW => ?_, fun w8 hG hW => ?_, fun w8 hG hW => ?_, fun w8 hG hW => ?_, fun w8 hG hW => ?_, trivial⟩
          · clear hW
            refine stepAt_value rfl rfl rfl (.pointer (some ⟨V, 1, none⟩)) w8 ?_ ⟨rfl, Below.refl _ _⟩
            go_simp
          · have q0 := hW 0 (by decide)
            simp only at q0
            rw [q0]
            clear hW
            refine stepAt_value rfl rfl rfl (.int .i64 f.e) w8 ?_ ⟨rfl, Below.refl _ _⟩
            have c := (HV.out.below hG HV.out.lt).cell 1
            simp only [tml, List.getElem?_cons_succ, List.getElem?_cons_zero] at c
            go_simp
          · clear hW
            refine stepAt_value rfl rfl rfl (.pointer (some ⟨b, 0, none⟩)) w8 ?_ ⟨rfl, Below.refl _ _⟩
            go_simp
          · clear hW
            refine stepAt_value rfl rfl rfl (.int .i64 s) w8 ?_ ⟨rfl, Below.refl _ _⟩
            go_simp
          · have q2 := hW 2 (by decide)
            simp only at q2
            have q3 := hW 3 (by decide)
            simp only at q3
            rw [q2, q3]
            clear hW
            refine stepAt_call rfl rfl rfl 22 #[.pointer (some ⟨b, 0, none⟩), .int .i64 s] (by go_simp) ((epoch_blk w8 b t.k _ _ s ((HT.out.blk.kept HK1.out HBM.out).below hG (HT.out.blk.kept HK1.out HBM.out).lt) HT.out.fit.gd.k1 HI.out).mono fun e w' ⟨h1, h2⟩ => ⟨_, h1, rfl, by rw [h2]; exact Below.refl _ _⟩)
          · have q1 := hW 1 (by decide)
            simp only at q1
            have q4 := hW 4 (by decide)
            simp only at q4
            rw [q1, q4]
            clear hW
            refine stepAt_value rfl rfl rfl (.bool false) w8 ?_ ⟨rfl, Below.refl _ _⟩
            have hlt2 := HLE.out
            go_simp
        case fin =>
          intro vals w3 hG hV
          have q5 := hV 5 (by omega)
          simp only at q5
          simp only [List.take_succ_cons, List.take_zero, List.drop_succ_cons, List.drop_zero, putAll, Act.put, List.setIfInBounds_toArray, List.set_cons_zero, List.set_cons_succ, Nat.reduceAdd]
          rw [q5]
          clear hV q5
          generalize vals 0 = y0
          generalize vals 1 = y1
          generalize vals 2 = y2
          generalize vals 3 = y3
          generalize vals 4 = y4
          replace HV := Lib.hid (HV.out.below hG HV.out.lt)
          replace HRG := Lib.hid (HRG.out.kept (row := none) ⟨hG.os, hG.tape, hG.output, hG.size, fun i hi _ => hG.block i hi⟩ (by simp) (by simp))
          replace HK1 := Lib.hid (HK1.out.then hG)
          clear hG
          have HN := Lib.hid (show Fgt w b m g t s R D' (fun z => left z && !z.sameKey (fkey f)) cnt1 w3 from ⟨HRG.out, HHF.out.keep HT.out.fit.fs HFM.out (pF_keep s HLE.out), HK1.out⟩)
          go_wp2_with fail
          go_roundg cnt1
          case measure => exact HLT.out
          case rel => exact ⟨_, _, HN⟩
end Go.Proofs.Ytoinigcfcjllcaa
