/-
  The walk of ClockCounts.
-/
import Derived.Test.YtanpckikgfmgoaaAlive9
namespace Go.Proofs.Ytanpckikgfmgoaa
open Go.RowKit
set_option maxRecDepth 10000

/-- How many of the first k slots' votes are asked for at the slot n. -/
def cntV (n : Nat) (W : Int) (k : Nat) : Int := max (min (k : Int) (n + 2) - ckFirst n W) 0
/-- .. of the first k slots' blocks. -/
def cntB (n : Nat) (f : Int) (k : Nat) : Int := max (min (k : Int) (n + 1) - (f + 1)) 0
theorem cntV_zero {n : Nat} {W : Int} (_h : 1 ≤ W) : (0 : Int) = cntV n W 0 := by unfold cntV ckFirst; omega
theorem cntB_zero {n : Nat} {f : Int} (h : 0 ≤ f) : (0 : Int) = cntB n f 0 := by unfold cntB; omega
theorem cntV_le (n : Nat) (W : Int) (k : Nat) : 0 ≤ cntV n W k ∧ cntV n W k ≤ k := by unfold cntV ckFirst; omega
theorem cntB_le (n : Nat) (f : Int) (k : Nat) : 0 ≤ cntB n f k ∧ (0 ≤ f → cntB n f k ≤ k) := by unfold cntB; omega
theorem cntV_step (n : Nat) (W : Int) (k : Nat) (V : Bool) (hn : n < 1000000) (_hW : 1 ≤ W) (h : ckVote n W k = V) : cntV n W k + (if V then 1 else 0) = cntV n W (k + 1) := by
  subst h
  rw [ckVote_eq (by omega)]
  unfold cntV
  by_cases h1 : ckFirst n W ≤ k
  · by_cases h2 : (k : Int) ≤ n + 1
    · simp only [h1, h2, decide_true, Bool.and_self, if_true]; unfold ckFirst at *; omega
    · simp only [h1, h2, decide_true, decide_false, Bool.and_false, Bool.false_eq_true, if_false]; unfold ckFirst at *; omega
  · simp only [h1, decide_false, Bool.false_and, Bool.false_eq_true, if_false]; unfold ckFirst at *; omega
theorem cntB_step (n : Nat) (f : Int) (k : Nat) (B : Bool) (h : ckBlock n f k = B) : cntB n f k + (if B then 1 else 0) = cntB n f (k + 1) := by
  subst h
  unfold cntB ckBlock
  by_cases h1 : f < k
  · by_cases h2 : (k : Int) ≤ n
    · simp only [h1, h2, decide_true, Bool.and_self, if_true]; omega
    · simp only [h1, h2, decide_true, decide_false, Bool.and_false, Bool.false_eq_true, if_false]; omega
  · simp only [h1, decide_false, Bool.false_and, Bool.false_eq_true, if_false]; omega

set_option maxHeartbeats 4000000 in
theorem counts_any (w : World) (x t f : Int) : Calls Try.prog 5 #[.int .i64 x, .int .i64 t, .int .i64 f] w fun e w' => e = .returned (.bool true) ∧ Below w.heap.size w w' := by
  go_enter Try.func5, Try.ntmps5
  go_wp2_with fail
  refine (alive_any w).mono ?_
  rintro e w1 ⟨rfl, hb1'⟩
  have hb1 := Lib.hid hb1'
  clear hb1' 
  by_cases ht : t < 0
  · go_wp2_with fail
    go_ret
    exact ⟨rfl, hb1.out⟩
  have httL0 := ht
  clear ht
  by_cases ht : 500 < t
  · go_wp2_with fail
    go_ret
    exact ⟨rfl, hb1.out⟩
  have ht500Lt := ht
  clear ht
  by_cases ht : f < 0
  · go_wp2_with fail
    go_ret
    exact ⟨rfl, hb1.out⟩
  have htfL0 := ht
  clear ht
  by_cases ht : 600 < f
  · go_wp2_with fail
    go_ret
    exact ⟨rfl, hb1.out⟩
  have ht600Lf := ht
  clear ht
  obtain ⟨T, hT⟩ : ∃ T : Nat, t = T := ⟨t.toNat, by omega⟩
  subst hT
  have hT5 := Lib.hid (show T ≤ 500 ∧ 0 ≤ f ∧ f ≤ 600 by omega)
  go_wp2_with fail
  refine (cnew_any w1 x).mono ?_
  rintro e w2 ⟨rfl, hw2⟩
  have hc2 := Lib.hid (show Clk w2 w1.heap.size 0 (ckWin x) by rw [hw2]; exact clk_new w1 0 _)
  have hb2 := Lib.hid (show Below w.heap.size w w2 by rw [hw2]; exact hb1.out.alloc hb1.out.size _)
  clear hw2
  obtain ⟨b, hb⟩ : ∃ b, w1.heap.size = b := ⟨_, rfl⟩
  have hle := Lib.hid (show w.heap.size ≤ b by have := hb1.out.size; omega)
  rw [hb] at hc2
  rw [show (.pointer (some ⟨w1.heap.size, 0, none⟩) : Value) = .pointer (some ⟨b, 0, none⟩) by rw [hb]]
  clear hb hb1
  obtain ⟨W, hW⟩ : ∃ W, ckWin x = W := ⟨_, rfl⟩
  have hW1 := Lib.hid (show 1 ≤ W ∧ W ≤ 64 by rw [← hW]; exact ⟨ckWin_one x, ckWin_most x⟩)
  rw [hW] at hc2
  have HW := Lib.hid hW
  clear hW
  go_wp2_with fail
  go_loopw [8] (fun i wr => ∃ j : Nat, j ≤ T ∧ i = .int .i64 j ∧ Hid (Clk wr b j W) ∧ Hid (Below w.heap.size w wr)) (fun i _ => T - (intOf i).toNat)
  case atStart => exact ⟨0, Nat.zero_le _, rfl, hc2, hb2⟩
  case round =>
    obtain ⟨j, hj, rfl, hcj, hbj⟩ := hrel
    by_cases hlt : j < T
    · go_wp2_with fail
      refine (tick_any wr b j W hcj.out (by omega) (by have := hT5.out; omega)).mono ?_
      rintro e w3 ⟨rfl, hcx, hgx⟩
      have hc3 := Lib.hid hcx
      have hb3 := Lib.hid (hbj.out.trans (ck_below hgx hbj.out.size hle.out))
      clear hcx hgx hcj hbj
      go_wp2_with fail
      go_roundw
      case rel => exact ⟨j + 1, by omega, by go_num, hc3, hb3⟩
      case measure => simp [intOf]; omega
    · have hjT : j = T := by omega
      subst hjT
      clear hlt hj
      obtain ⟨w3, rfl⟩ : ∃ w3, w3 = wr := ⟨_, rfl⟩
      have hc3 := hcj
      have hb3 := hbj
      clear hcj hbj hc2 hb2
      go_wp2_with fail
      go_loopw [9, 10, 11] (fun v q i wr => ∃ (k : Nat) (p r : Int), k ≤ 701 ∧ i = .int .i64 k ∧ v = .int .i64 p ∧ q = .int .i64 r ∧ Hid (p = cntV j W k) ∧ Hid (r = cntB j f k) ∧ Hid (Clk wr b j W) ∧ Hid (Below w.heap.size w wr)) (fun _ _ i _ => 701 - (intOf i).toNat)
      case atStart => exact ⟨0, 0, 0, by omega, rfl, rfl, rfl, Lib.hid (cntV_zero hW1.out.1), Lib.hid (cntB_zero hT5.out.2.1), hc3, hb3⟩
      case round =>
        obtain ⟨k, p, r, hk, rfl, rfl, rfl, HP, HR, hcj, hbj⟩ := hrel
        obtain ⟨w4, rfl⟩ : ∃ w4, w4 = wr := ⟨_, rfl⟩
        have hc4 := hcj
        have hb4 := hbj
        have hp0 := (cntV_le j W k)
        have hr0 := (cntB_le j f k)
        rw [← HP.out] at hp0
        rw [← HR.out] at hr0
        obtain ⟨hp0, hp1⟩ := hp0
        obtain ⟨hr0, hr1⟩ := hr0
        clear hcj hbj hc3 hb3
        by_cases hlt : k < 701
        · go_wp2_with fail
          refine (vote_any w4 b _ W k hc4.out (by omega) (by have := hT5.out; omega) hW1.out.1 hW1.out.2).mono ?_
          rintro e w5 ⟨rfl, m5, hw5⟩
          have hc5 := Lib.hid (show Clk w5 b ↑j W by rw [hw5]; exact hc4.out.keep rfl)
          have hb5 := Lib.hid (show Below w.heap.size w w5 by rw [hw5]; exact ck_drewN hb4.out _)
          clear hw5 hc4 hb4
          obtain ⟨V, hV⟩ : ∃ V, ckVote ↑j W ↑k = V := ⟨_, rfl⟩
          obtain ⟨B, hB⟩ : ∃ B, ckBlock ↑j f ↑k = B := ⟨_, rfl⟩
          have HV := Lib.hid (cntV_step j W k V (by have := hT5.out; omega) hW1.out.1 hV)
          have HB := Lib.hid (cntB_step j f k B hB)
          have HBB := Lib.hid hB
          rw [hV]
          clear hV hB
          cases V with
          | true =>
            go_wp2_with fail
            refine (block_any w5 b _ W f k hc5.out).mono ?_
            rintro e w6 ⟨rfl, m6, hw6⟩
            have hc6 := Lib.hid (show Clk w6 b ↑j W by rw [hw6]; exact hc5.out.keep rfl)
            have hb6 := Lib.hid (show Below w.heap.size w w6 by rw [hw6]; exact ck_drewN hb5.out _)
            clear hw6 hc5 hb5
            rw [HBB.out]
            cases B with
            | true =>
              go_wp2_with fail
              go_roundw
              case rel => exact ⟨k + 1, _, _, by omega, by go_num, rfl, rfl, Lib.hid (by rw [HP.out]; simpa using HV.out), Lib.hid (by rw [HR.out]; simpa using HB.out), hc6, hb6⟩
              case measure => simp [intOf]; omega
            | false =>
              go_wp2_with fail
              go_roundw
              case rel => exact ⟨k + 1, _, _, by omega, by go_num, rfl, rfl, Lib.hid (by rw [HP.out]; simpa using HV.out), Lib.hid (by rw [HR.out]; simpa using HB.out), hc6, hb6⟩
              case measure => simp [intOf]; omega
          | false =>
            go_wp2_with fail
            refine (block_any w5 b _ W f k hc5.out).mono ?_
            rintro e w6 ⟨rfl, m6, hw6⟩
            have hc6 := Lib.hid (show Clk w6 b ↑j W by rw [hw6]; exact hc5.out.keep rfl)
            have hb6 := Lib.hid (show Below w.heap.size w w6 by rw [hw6]; exact ck_drewN hb5.out _)
            clear hw6 hc5 hb5
            rw [HBB.out]
            cases B with
            | true =>
              go_wp2_with fail
              go_roundw
              case rel => exact ⟨k + 1, _, _, by omega, by go_num, rfl, rfl, Lib.hid (by rw [HP.out]; simpa using HV.out), Lib.hid (by rw [HR.out]; simpa using HB.out), hc6, hb6⟩
              case measure => simp [intOf]; omega
            | false =>
              go_wp2_with fail
              go_roundw
              case rel => exact ⟨k + 1, _, _, by omega, by go_num, rfl, rfl, Lib.hid (by rw [HP.out]; simpa using HV.out), Lib.hid (by rw [HR.out]; simpa using HB.out), hc6, hb6⟩
              case measure => simp [intOf]; omega
        · have hk1 : k = 701 := by omega
          subst hk1
          clear hlt hk hp0 hp1 hr0 hr1
          by_cases hx1 : x < 1
          · have hw := HW.out
            rw [show ckWin x = 1 by unfold ckWin; omega] at hw
            subst hw
            rcases Int.lt_trichotomy ↑j 1 with hj | hj | hj
            · have g1 : ¬ (1 < (j : Int)) := by omega
              have g2 : (j : Int) - 1 < 0 := by omega
              by_cases hf : f ≤ ↑j
              · have hf2 : ¬ ((j : Int) - f < 0) := by omega
                have hp : p = (j : Int) + 2 := by have := HP.out; have := hT5.out; unfold cntV ckFirst at *; omega
                have hr : r = (j : Int) - f := by have := HR.out; have := hT5.out; unfold cntB at *; omega
                subst hp
                subst hr
                have HF := Lib.hid (show ckFirst ↑j 1 = 0 by unfold ckFirst; omega)
                clear HP HR
                go_wp2_with fail
                refine (now_any w4 b _ 1 hc4.out).mono ?_
                rintro e w5 ⟨rfl, m5, hw5⟩
                have hc5 := Lib.hid (show Clk w5 b ↑j 1 by rw [hw5]; exact hc4.out.keep rfl)
                have hb5 := Lib.hid (show Below w.heap.size w w5 by rw [hw5]; exact ck_drewN hb4.out _)
                clear hw5 hc4 hb4
                go_wp2_with fail
                refine (first_any w5 b _ 1 hc5.out (by omega) (by have := hT5.out; omega) hW1.out.1 hW1.out.2).mono ?_
                rintro e w6 ⟨rfl, m6, hw6⟩
                have hc6 := Lib.hid (show Clk w6 b ↑j 1 by rw [hw6]; exact hc5.out.keep rfl)
                have hb6 := Lib.hid (show Below w.heap.size w w6 by rw [hw6]; exact ck_drewN hb5.out _)
                clear hw6 hc5 hb5
                rw [HF.out]
                go_wp2_with fail
                go_ret
                exact ⟨rfl, hb6.out⟩
              · have hf2 : (j : Int) - f < 0 := by omega
                have hp : p = (j : Int) + 2 := by have := HP.out; have := hT5.out; unfold cntV ckFirst at *; omega
                have hr : r = 0 := by have := HR.out; have := hT5.out; unfold cntB at *; omega
                subst hp
                subst hr
                have HF := Lib.hid (show ckFirst ↑j 1 = 0 by unfold ckFirst; omega)
                clear HP HR
                go_wp2_with fail
                refine (now_any w4 b _ 1 hc4.out).mono ?_
                rintro e w5 ⟨rfl, m5, hw5⟩
                have hc5 := Lib.hid (show Clk w5 b ↑j 1 by rw [hw5]; exact hc4.out.keep rfl)
                have hb5 := Lib.hid (show Below w.heap.size w w5 by rw [hw5]; exact ck_drewN hb4.out _)
                clear hw5 hc4 hb4
                go_wp2_with fail
                refine (first_any w5 b _ 1 hc5.out (by omega) (by have := hT5.out; omega) hW1.out.1 hW1.out.2).mono ?_
                rintro e w6 ⟨rfl, m6, hw6⟩
                have hc6 := Lib.hid (show Clk w6 b ↑j 1 by rw [hw6]; exact hc5.out.keep rfl)
                have hb6 := Lib.hid (show Below w.heap.size w w6 by rw [hw6]; exact ck_drewN hb5.out _)
                clear hw6 hc5 hb5
                rw [HF.out]
                go_wp2_with fail
                go_ret
                exact ⟨rfl, hb6.out⟩
            · have g1 : ¬ (1 < (j : Int)) := by omega
              have g2 : ¬ ((j : Int) - 1 < 0) := by omega
              have g3 : (j : Int) - 1 = 0 := by omega
              by_cases hf : f ≤ ↑j
              · have hf2 : ¬ ((j : Int) - f < 0) := by omega
                have hp : p = (j : Int) + 2 := by have := HP.out; have := hT5.out; unfold cntV ckFirst at *; omega
                have hr : r = (j : Int) - f := by have := HR.out; have := hT5.out; unfold cntB at *; omega
                subst hp
                subst hr
                have HF := Lib.hid (show ckFirst ↑j 1 = 0 by unfold ckFirst; omega)
                clear HP HR
                go_wp2_with fail
                refine (now_any w4 b _ 1 hc4.out).mono ?_
                rintro e w5 ⟨rfl, m5, hw5⟩
                have hc5 := Lib.hid (show Clk w5 b ↑j 1 by rw [hw5]; exact hc4.out.keep rfl)
                have hb5 := Lib.hid (show Below w.heap.size w w5 by rw [hw5]; exact ck_drewN hb4.out _)
                clear hw5 hc4 hb4
                go_wp2_with fail
                refine (first_any w5 b _ 1 hc5.out (by omega) (by have := hT5.out; omega) hW1.out.1 hW1.out.2).mono ?_
                rintro e w6 ⟨rfl, m6, hw6⟩
                have hc6 := Lib.hid (show Clk w6 b ↑j 1 by rw [hw6]; exact hc5.out.keep rfl)
                have hb6 := Lib.hid (show Below w.heap.size w w6 by rw [hw6]; exact ck_drewN hb5.out _)
                clear hw6 hc5 hb5
                rw [HF.out]
                go_wp2_with fail
                go_ret
                exact ⟨rfl, hb6.out⟩
              · have hf2 : (j : Int) - f < 0 := by omega
                have hp : p = (j : Int) + 2 := by have := HP.out; have := hT5.out; unfold cntV ckFirst at *; omega
                have hr : r = 0 := by have := HR.out; have := hT5.out; unfold cntB at *; omega
                subst hp
                subst hr
                have HF := Lib.hid (show ckFirst ↑j 1 = 0 by unfold ckFirst; omega)
                clear HP HR
                go_wp2_with fail
                refine (now_any w4 b _ 1 hc4.out).mono ?_
                rintro e w5 ⟨rfl, m5, hw5⟩
                have hc5 := Lib.hid (show Clk w5 b ↑j 1 by rw [hw5]; exact hc4.out.keep rfl)
                have hb5 := Lib.hid (show Below w.heap.size w w5 by rw [hw5]; exact ck_drewN hb4.out _)
                clear hw5 hc4 hb4
                go_wp2_with fail
                refine (first_any w5 b _ 1 hc5.out (by omega) (by have := hT5.out; omega) hW1.out.1 hW1.out.2).mono ?_
                rintro e w6 ⟨rfl, m6, hw6⟩
                have hc6 := Lib.hid (show Clk w6 b ↑j 1 by rw [hw6]; exact hc5.out.keep rfl)
                have hb6 := Lib.hid (show Below w.heap.size w w6 by rw [hw6]; exact ck_drewN hb5.out _)
                clear hw6 hc5 hb5
                rw [HF.out]
                go_wp2_with fail
                go_ret
                exact ⟨rfl, hb6.out⟩
            · have g2 : ¬ ((j : Int) - 1 < 0) := by omega
              by_cases hf : f ≤ ↑j
              · have hf2 : ¬ ((j : Int) - f < 0) := by omega
                have hp : p = 1 + 2 := by have := HP.out; have := hT5.out; unfold cntV ckFirst at *; omega
                have hr : r = (j : Int) - f := by have := HR.out; have := hT5.out; unfold cntB at *; omega
                subst hp
                subst hr
                have HF := Lib.hid (show ckFirst ↑j 1 = (j : Int) - 1 by unfold ckFirst; omega)
                clear HP HR
                go_wp2_with fail
                refine (now_any w4 b _ 1 hc4.out).mono ?_
                rintro e w5 ⟨rfl, m5, hw5⟩
                have hc5 := Lib.hid (show Clk w5 b ↑j 1 by rw [hw5]; exact hc4.out.keep rfl)
                have hb5 := Lib.hid (show Below w.heap.size w w5 by rw [hw5]; exact ck_drewN hb4.out _)
                clear hw5 hc4 hb4
                go_wp2_with fail
                refine (first_any w5 b _ 1 hc5.out (by omega) (by have := hT5.out; omega) hW1.out.1 hW1.out.2).mono ?_
                rintro e w6 ⟨rfl, m6, hw6⟩
                have hc6 := Lib.hid (show Clk w6 b ↑j 1 by rw [hw6]; exact hc5.out.keep rfl)
                have hb6 := Lib.hid (show Below w.heap.size w w6 by rw [hw6]; exact ck_drewN hb5.out _)
                clear hw6 hc5 hb5
                rw [HF.out]
                go_wp2_with fail
                go_ret
                exact ⟨rfl, hb6.out⟩
              · have hf2 : (j : Int) - f < 0 := by omega
                have hp : p = 1 + 2 := by have := HP.out; have := hT5.out; unfold cntV ckFirst at *; omega
                have hr : r = 0 := by have := HR.out; have := hT5.out; unfold cntB at *; omega
                subst hp
                subst hr
                have HF := Lib.hid (show ckFirst ↑j 1 = (j : Int) - 1 by unfold ckFirst; omega)
                clear HP HR
                go_wp2_with fail
                refine (now_any w4 b _ 1 hc4.out).mono ?_
                rintro e w5 ⟨rfl, m5, hw5⟩
                have hc5 := Lib.hid (show Clk w5 b ↑j 1 by rw [hw5]; exact hc4.out.keep rfl)
                have hb5 := Lib.hid (show Below w.heap.size w w5 by rw [hw5]; exact ck_drewN hb4.out _)
                clear hw5 hc4 hb4
                go_wp2_with fail
                refine (first_any w5 b _ 1 hc5.out (by omega) (by have := hT5.out; omega) hW1.out.1 hW1.out.2).mono ?_
                rintro e w6 ⟨rfl, m6, hw6⟩
                have hc6 := Lib.hid (show Clk w6 b ↑j 1 by rw [hw6]; exact hc5.out.keep rfl)
                have hb6 := Lib.hid (show Below w.heap.size w w6 by rw [hw6]; exact ck_drewN hb5.out _)
                clear hw6 hc5 hb5
                rw [HF.out]
                go_wp2_with fail
                go_ret
                exact ⟨rfl, hb6.out⟩
          by_cases hx2 : 64 < x
          · have hw := HW.out
            rw [show ckWin x = 64 by unfold ckWin; omega] at hw
            subst hw
            rcases Int.lt_trichotomy ↑j 64 with hj | hj | hj
            · have g1 : ¬ (64 < (j : Int)) := by omega
              have g2 : (j : Int) - 64 < 0 := by omega
              by_cases hf : f ≤ ↑j
              · have hf2 : ¬ ((j : Int) - f < 0) := by omega
                have hp : p = (j : Int) + 2 := by have := HP.out; have := hT5.out; unfold cntV ckFirst at *; omega
                have hr : r = (j : Int) - f := by have := HR.out; have := hT5.out; unfold cntB at *; omega
                subst hp
                subst hr
                have HF := Lib.hid (show ckFirst ↑j 64 = 0 by unfold ckFirst; omega)
                clear HP HR
                go_wp2_with fail
                refine (now_any w4 b _ 64 hc4.out).mono ?_
                rintro e w5 ⟨rfl, m5, hw5⟩
                have hc5 := Lib.hid (show Clk w5 b ↑j 64 by rw [hw5]; exact hc4.out.keep rfl)
                have hb5 := Lib.hid (show Below w.heap.size w w5 by rw [hw5]; exact ck_drewN hb4.out _)
                clear hw5 hc4 hb4
                go_wp2_with fail
                refine (first_any w5 b _ 64 hc5.out (by omega) (by have := hT5.out; omega) hW1.out.1 hW1.out.2).mono ?_
                rintro e w6 ⟨rfl, m6, hw6⟩
                have hc6 := Lib.hid (show Clk w6 b ↑j 64 by rw [hw6]; exact hc5.out.keep rfl)
                have hb6 := Lib.hid (show Below w.heap.size w w6 by rw [hw6]; exact ck_drewN hb5.out _)
                clear hw6 hc5 hb5
                rw [HF.out]
                go_wp2_with fail
                go_ret
                exact ⟨rfl, hb6.out⟩
              · have hf2 : (j : Int) - f < 0 := by omega
                have hp : p = (j : Int) + 2 := by have := HP.out; have := hT5.out; unfold cntV ckFirst at *; omega
                have hr : r = 0 := by have := HR.out; have := hT5.out; unfold cntB at *; omega
                subst hp
                subst hr
                have HF := Lib.hid (show ckFirst ↑j 64 = 0 by unfold ckFirst; omega)
                clear HP HR
                go_wp2_with fail
                refine (now_any w4 b _ 64 hc4.out).mono ?_
                rintro e w5 ⟨rfl, m5, hw5⟩
                have hc5 := Lib.hid (show Clk w5 b ↑j 64 by rw [hw5]; exact hc4.out.keep rfl)
                have hb5 := Lib.hid (show Below w.heap.size w w5 by rw [hw5]; exact ck_drewN hb4.out _)
                clear hw5 hc4 hb4
                go_wp2_with fail
                refine (first_any w5 b _ 64 hc5.out (by omega) (by have := hT5.out; omega) hW1.out.1 hW1.out.2).mono ?_
                rintro e w6 ⟨rfl, m6, hw6⟩
                have hc6 := Lib.hid (show Clk w6 b ↑j 64 by rw [hw6]; exact hc5.out.keep rfl)
                have hb6 := Lib.hid (show Below w.heap.size w w6 by rw [hw6]; exact ck_drewN hb5.out _)
                clear hw6 hc5 hb5
                rw [HF.out]
                go_wp2_with fail
                go_ret
                exact ⟨rfl, hb6.out⟩
            · have g1 : ¬ (64 < (j : Int)) := by omega
              have g2 : ¬ ((j : Int) - 64 < 0) := by omega
              have g3 : (j : Int) - 64 = 0 := by omega
              by_cases hf : f ≤ ↑j
              · have hf2 : ¬ ((j : Int) - f < 0) := by omega
                have hp : p = (j : Int) + 2 := by have := HP.out; have := hT5.out; unfold cntV ckFirst at *; omega
                have hr : r = (j : Int) - f := by have := HR.out; have := hT5.out; unfold cntB at *; omega
                subst hp
                subst hr
                have HF := Lib.hid (show ckFirst ↑j 64 = 0 by unfold ckFirst; omega)
                clear HP HR
                go_wp2_with fail
                refine (now_any w4 b _ 64 hc4.out).mono ?_
                rintro e w5 ⟨rfl, m5, hw5⟩
                have hc5 := Lib.hid (show Clk w5 b ↑j 64 by rw [hw5]; exact hc4.out.keep rfl)
                have hb5 := Lib.hid (show Below w.heap.size w w5 by rw [hw5]; exact ck_drewN hb4.out _)
                clear hw5 hc4 hb4
                go_wp2_with fail
                refine (first_any w5 b _ 64 hc5.out (by omega) (by have := hT5.out; omega) hW1.out.1 hW1.out.2).mono ?_
                rintro e w6 ⟨rfl, m6, hw6⟩
                have hc6 := Lib.hid (show Clk w6 b ↑j 64 by rw [hw6]; exact hc5.out.keep rfl)
                have hb6 := Lib.hid (show Below w.heap.size w w6 by rw [hw6]; exact ck_drewN hb5.out _)
                clear hw6 hc5 hb5
                rw [HF.out]
                go_wp2_with fail
                go_ret
                exact ⟨rfl, hb6.out⟩
              · have hf2 : (j : Int) - f < 0 := by omega
                have hp : p = (j : Int) + 2 := by have := HP.out; have := hT5.out; unfold cntV ckFirst at *; omega
                have hr : r = 0 := by have := HR.out; have := hT5.out; unfold cntB at *; omega
                subst hp
                subst hr
                have HF := Lib.hid (show ckFirst ↑j 64 = 0 by unfold ckFirst; omega)
                clear HP HR
                go_wp2_with fail
                refine (now_any w4 b _ 64 hc4.out).mono ?_
                rintro e w5 ⟨rfl, m5, hw5⟩
                have hc5 := Lib.hid (show Clk w5 b ↑j 64 by rw [hw5]; exact hc4.out.keep rfl)
                have hb5 := Lib.hid (show Below w.heap.size w w5 by rw [hw5]; exact ck_drewN hb4.out _)
                clear hw5 hc4 hb4
                go_wp2_with fail
                refine (first_any w5 b _ 64 hc5.out (by omega) (by have := hT5.out; omega) hW1.out.1 hW1.out.2).mono ?_
                rintro e w6 ⟨rfl, m6, hw6⟩
                have hc6 := Lib.hid (show Clk w6 b ↑j 64 by rw [hw6]; exact hc5.out.keep rfl)
                have hb6 := Lib.hid (show Below w.heap.size w w6 by rw [hw6]; exact ck_drewN hb5.out _)
                clear hw6 hc5 hb5
                rw [HF.out]
                go_wp2_with fail
                go_ret
                exact ⟨rfl, hb6.out⟩
            · have g2 : ¬ ((j : Int) - 64 < 0) := by omega
              by_cases hf : f ≤ ↑j
              · have hf2 : ¬ ((j : Int) - f < 0) := by omega
                have hp : p = 64 + 2 := by have := HP.out; have := hT5.out; unfold cntV ckFirst at *; omega
                have hr : r = (j : Int) - f := by have := HR.out; have := hT5.out; unfold cntB at *; omega
                subst hp
                subst hr
                have HF := Lib.hid (show ckFirst ↑j 64 = (j : Int) - 64 by unfold ckFirst; omega)
                clear HP HR
                go_wp2_with fail
                refine (now_any w4 b _ 64 hc4.out).mono ?_
                rintro e w5 ⟨rfl, m5, hw5⟩
                have hc5 := Lib.hid (show Clk w5 b ↑j 64 by rw [hw5]; exact hc4.out.keep rfl)
                have hb5 := Lib.hid (show Below w.heap.size w w5 by rw [hw5]; exact ck_drewN hb4.out _)
                clear hw5 hc4 hb4
                go_wp2_with fail
                refine (first_any w5 b _ 64 hc5.out (by omega) (by have := hT5.out; omega) hW1.out.1 hW1.out.2).mono ?_
                rintro e w6 ⟨rfl, m6, hw6⟩
                have hc6 := Lib.hid (show Clk w6 b ↑j 64 by rw [hw6]; exact hc5.out.keep rfl)
                have hb6 := Lib.hid (show Below w.heap.size w w6 by rw [hw6]; exact ck_drewN hb5.out _)
                clear hw6 hc5 hb5
                rw [HF.out]
                go_wp2_with fail
                go_ret
                exact ⟨rfl, hb6.out⟩
              · have hf2 : (j : Int) - f < 0 := by omega
                have hp : p = 64 + 2 := by have := HP.out; have := hT5.out; unfold cntV ckFirst at *; omega
                have hr : r = 0 := by have := HR.out; have := hT5.out; unfold cntB at *; omega
                subst hp
                subst hr
                have HF := Lib.hid (show ckFirst ↑j 64 = (j : Int) - 64 by unfold ckFirst; omega)
                clear HP HR
                go_wp2_with fail
                refine (now_any w4 b _ 64 hc4.out).mono ?_
                rintro e w5 ⟨rfl, m5, hw5⟩
                have hc5 := Lib.hid (show Clk w5 b ↑j 64 by rw [hw5]; exact hc4.out.keep rfl)
                have hb5 := Lib.hid (show Below w.heap.size w w5 by rw [hw5]; exact ck_drewN hb4.out _)
                clear hw5 hc4 hb4
                go_wp2_with fail
                refine (first_any w5 b _ 64 hc5.out (by omega) (by have := hT5.out; omega) hW1.out.1 hW1.out.2).mono ?_
                rintro e w6 ⟨rfl, m6, hw6⟩
                have hc6 := Lib.hid (show Clk w6 b ↑j 64 by rw [hw6]; exact hc5.out.keep rfl)
                have hb6 := Lib.hid (show Below w.heap.size w w6 by rw [hw6]; exact ck_drewN hb5.out _)
                clear hw6 hc5 hb5
                rw [HF.out]
                go_wp2_with fail
                go_ret
                exact ⟨rfl, hb6.out⟩
          have hw := HW.out
          rw [show ckWin x = x by unfold ckWin; omega] at hw
          subst hw
          rcases Int.lt_trichotomy ↑j x with hj | hj | hj
          · have g1 : ¬ (x < (j : Int)) := by omega
            have g2 : (j : Int) - x < 0 := by omega
            by_cases hf : f ≤ ↑j
            · have hf2 : ¬ ((j : Int) - f < 0) := by omega
              have hp : p = (j : Int) + 2 := by have := HP.out; have := hT5.out; unfold cntV ckFirst at *; omega
              have hr : r = (j : Int) - f := by have := HR.out; have := hT5.out; unfold cntB at *; omega
              subst hp
              subst hr
              have HF := Lib.hid (show ckFirst ↑j x = 0 by unfold ckFirst; omega)
              clear HP HR
              go_wp2_with fail
              refine (now_any w4 b _ x hc4.out).mono ?_
              rintro e w5 ⟨rfl, m5, hw5⟩
              have hc5 := Lib.hid (show Clk w5 b ↑j x by rw [hw5]; exact hc4.out.keep rfl)
              have hb5 := Lib.hid (show Below w.heap.size w w5 by rw [hw5]; exact ck_drewN hb4.out _)
              clear hw5 hc4 hb4
              go_wp2_with fail
              refine (first_any w5 b _ x hc5.out (by omega) (by have := hT5.out; omega) hW1.out.1 hW1.out.2).mono ?_
              rintro e w6 ⟨rfl, m6, hw6⟩
              have hc6 := Lib.hid (show Clk w6 b ↑j x by rw [hw6]; exact hc5.out.keep rfl)
              have hb6 := Lib.hid (show Below w.heap.size w w6 by rw [hw6]; exact ck_drewN hb5.out _)
              clear hw6 hc5 hb5
              rw [HF.out]
              go_wp2_with fail
              go_ret
              exact ⟨rfl, hb6.out⟩
            · have hf2 : (j : Int) - f < 0 := by omega
              have hp : p = (j : Int) + 2 := by have := HP.out; have := hT5.out; unfold cntV ckFirst at *; omega
              have hr : r = 0 := by have := HR.out; have := hT5.out; unfold cntB at *; omega
              subst hp
              subst hr
              have HF := Lib.hid (show ckFirst ↑j x = 0 by unfold ckFirst; omega)
              clear HP HR
              go_wp2_with fail
              refine (now_any w4 b _ x hc4.out).mono ?_
              rintro e w5 ⟨rfl, m5, hw5⟩
              have hc5 := Lib.hid (show Clk w5 b ↑j x by rw [hw5]; exact hc4.out.keep rfl)
              have hb5 := Lib.hid (show Below w.heap.size w w5 by rw [hw5]; exact ck_drewN hb4.out _)
              clear hw5 hc4 hb4
              go_wp2_with fail
              refine (first_any w5 b _ x hc5.out (by omega) (by have := hT5.out; omega) hW1.out.1 hW1.out.2).mono ?_
              rintro e w6 ⟨rfl, m6, hw6⟩
              have hc6 := Lib.hid (show Clk w6 b ↑j x by rw [hw6]; exact hc5.out.keep rfl)
              have hb6 := Lib.hid (show Below w.heap.size w w6 by rw [hw6]; exact ck_drewN hb5.out _)
              clear hw6 hc5 hb5
              rw [HF.out]
              go_wp2_with fail
              go_ret
              exact ⟨rfl, hb6.out⟩
          · have g1 : ¬ (x < (j : Int)) := by omega
            have g2 : ¬ ((j : Int) - x < 0) := by omega
            have g3 : (j : Int) - x = 0 := by omega
            by_cases hf : f ≤ ↑j
            · have hf2 : ¬ ((j : Int) - f < 0) := by omega
              have hp : p = (j : Int) + 2 := by have := HP.out; have := hT5.out; unfold cntV ckFirst at *; omega
              have hr : r = (j : Int) - f := by have := HR.out; have := hT5.out; unfold cntB at *; omega
              subst hp
              subst hr
              have HF := Lib.hid (show ckFirst ↑j x = 0 by unfold ckFirst; omega)
              clear HP HR
              go_wp2_with fail
              refine (now_any w4 b _ x hc4.out).mono ?_
              rintro e w5 ⟨rfl, m5, hw5⟩
              have hc5 := Lib.hid (show Clk w5 b ↑j x by rw [hw5]; exact hc4.out.keep rfl)
              have hb5 := Lib.hid (show Below w.heap.size w w5 by rw [hw5]; exact ck_drewN hb4.out _)
              clear hw5 hc4 hb4
              go_wp2_with fail
              refine (first_any w5 b _ x hc5.out (by omega) (by have := hT5.out; omega) hW1.out.1 hW1.out.2).mono ?_
              rintro e w6 ⟨rfl, m6, hw6⟩
              have hc6 := Lib.hid (show Clk w6 b ↑j x by rw [hw6]; exact hc5.out.keep rfl)
              have hb6 := Lib.hid (show Below w.heap.size w w6 by rw [hw6]; exact ck_drewN hb5.out _)
              clear hw6 hc5 hb5
              rw [HF.out]
              go_wp2_with fail
              go_ret
              exact ⟨rfl, hb6.out⟩
            · have hf2 : (j : Int) - f < 0 := by omega
              have hp : p = (j : Int) + 2 := by have := HP.out; have := hT5.out; unfold cntV ckFirst at *; omega
              have hr : r = 0 := by have := HR.out; have := hT5.out; unfold cntB at *; omega
              subst hp
              subst hr
              have HF := Lib.hid (show ckFirst ↑j x = 0 by unfold ckFirst; omega)
              clear HP HR
              go_wp2_with fail
              refine (now_any w4 b _ x hc4.out).mono ?_
              rintro e w5 ⟨rfl, m5, hw5⟩
              have hc5 := Lib.hid (show Clk w5 b ↑j x by rw [hw5]; exact hc4.out.keep rfl)
              have hb5 := Lib.hid (show Below w.heap.size w w5 by rw [hw5]; exact ck_drewN hb4.out _)
              clear hw5 hc4 hb4
              go_wp2_with fail
              refine (first_any w5 b _ x hc5.out (by omega) (by have := hT5.out; omega) hW1.out.1 hW1.out.2).mono ?_
              rintro e w6 ⟨rfl, m6, hw6⟩
              have hc6 := Lib.hid (show Clk w6 b ↑j x by rw [hw6]; exact hc5.out.keep rfl)
              have hb6 := Lib.hid (show Below w.heap.size w w6 by rw [hw6]; exact ck_drewN hb5.out _)
              clear hw6 hc5 hb5
              rw [HF.out]
              go_wp2_with fail
              go_ret
              exact ⟨rfl, hb6.out⟩
          · have g2 : ¬ ((j : Int) - x < 0) := by omega
            by_cases hf : f ≤ ↑j
            · have hf2 : ¬ ((j : Int) - f < 0) := by omega
              have hp : p = x + 2 := by have := HP.out; have := hT5.out; unfold cntV ckFirst at *; omega
              have hr : r = (j : Int) - f := by have := HR.out; have := hT5.out; unfold cntB at *; omega
              subst hp
              subst hr
              have HF := Lib.hid (show ckFirst ↑j x = (j : Int) - x by unfold ckFirst; omega)
              clear HP HR
              go_wp2_with fail
              refine (now_any w4 b _ x hc4.out).mono ?_
              rintro e w5 ⟨rfl, m5, hw5⟩
              have hc5 := Lib.hid (show Clk w5 b ↑j x by rw [hw5]; exact hc4.out.keep rfl)
              have hb5 := Lib.hid (show Below w.heap.size w w5 by rw [hw5]; exact ck_drewN hb4.out _)
              clear hw5 hc4 hb4
              go_wp2_with fail
              refine (first_any w5 b _ x hc5.out (by omega) (by have := hT5.out; omega) hW1.out.1 hW1.out.2).mono ?_
              rintro e w6 ⟨rfl, m6, hw6⟩
              have hc6 := Lib.hid (show Clk w6 b ↑j x by rw [hw6]; exact hc5.out.keep rfl)
              have hb6 := Lib.hid (show Below w.heap.size w w6 by rw [hw6]; exact ck_drewN hb5.out _)
              clear hw6 hc5 hb5
              rw [HF.out]
              go_wp2_with fail
              go_ret
              exact ⟨rfl, hb6.out⟩
            · have hf2 : (j : Int) - f < 0 := by omega
              have hp : p = x + 2 := by have := HP.out; have := hT5.out; unfold cntV ckFirst at *; omega
              have hr : r = 0 := by have := HR.out; have := hT5.out; unfold cntB at *; omega
              subst hp
              subst hr
              have HF := Lib.hid (show ckFirst ↑j x = (j : Int) - x by unfold ckFirst; omega)
              clear HP HR
              go_wp2_with fail
              refine (now_any w4 b _ x hc4.out).mono ?_
              rintro e w5 ⟨rfl, m5, hw5⟩
              have hc5 := Lib.hid (show Clk w5 b ↑j x by rw [hw5]; exact hc4.out.keep rfl)
              have hb5 := Lib.hid (show Below w.heap.size w w5 by rw [hw5]; exact ck_drewN hb4.out _)
              clear hw5 hc4 hb4
              go_wp2_with fail
              refine (first_any w5 b _ x hc5.out (by omega) (by have := hT5.out; omega) hW1.out.1 hW1.out.2).mono ?_
              rintro e w6 ⟨rfl, m6, hw6⟩
              have hc6 := Lib.hid (show Clk w6 b ↑j x by rw [hw6]; exact hc5.out.keep rfl)
              have hb6 := Lib.hid (show Below w.heap.size w w6 by rw [hw6]; exact ck_drewN hb5.out _)
              clear hw6 hc5 hb5
              rw [HF.out]
              go_wp2_with fail
              go_ret
              exact ⟨rfl, hb6.out⟩
end Go.Proofs.Ytanpckikgfmgoaa
