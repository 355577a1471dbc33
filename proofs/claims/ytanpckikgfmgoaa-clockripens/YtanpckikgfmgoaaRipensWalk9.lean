/-
  The walk of ClockRipens.
-/
import Derived.Test.YtanpckikgfmgoaaAlive9
namespace Go.Proofs.Ytanpckikgfmgoaa
open Go.RowKit
set_option maxRecDepth 10000

set_option maxHeartbeats 2000000 in
theorem ripens_any (w : World) (x t s : Int) : Calls Try.prog 4 #[.int .i64 x, .int .i64 t, .int .i64 s] w fun e w' => e = .returned (.bool true) ∧ Below w.heap.size w w' := by
  go_enter Try.func4, Try.ntmps4
  go_wp2_with fail
  refine (alive_any w).mono ?_
  rintro e w1 ⟨rfl, hb1'⟩
  have hb1 := Lib.hid hb1'
  clear hb1'
  by_cases ht0 : t < 0
  · go_wp2_with fail
    go_ret
    exact ⟨rfl, hb1.out⟩
  by_cases ht1 : 500 < t
  · go_wp2_with fail
    go_ret
    exact ⟨rfl, hb1.out⟩
  obtain ⟨T, hT⟩ : ∃ T : Nat, t = T := ⟨t.toNat, by omega⟩
  subst hT
  have hT5 := Lib.hid (show T ≤ 500 by omega)
  go_wp2_with fail
  refine (cnew_any w1 x).mono ?_
  rintro e w2 ⟨rfl, hw2⟩
  have hc2 := Lib.hid (show Clk w2 w1.heap.size 0 (ckWin x) by rw [hw2]; exact clk_new w1 0 _)
  have hb2 := Lib.hid (show Below w.heap.size w w2 by rw [hw2]; exact hb1.out.alloc hb1.out.size _)
  clear hw2
  obtain ⟨b, hb⟩ : ∃ b, w1.heap.size = b := ⟨_, rfl⟩
  have hle := Lib.hid (show w.heap.size ≤ b by have := hb1.out.size; omega)
  rw [hb] at hc2
  rw [show (.pointer (some ⟨w1.heap.size, 0, none⟩) : Value) = .pointer (some ⟨b, 0, none⟩) by rw [hb]]
  clear hb hb1
  obtain ⟨W, hW⟩ : ∃ W, ckWin x = W := ⟨_, rfl⟩
  have hW1 := Lib.hid (show 1 ≤ W ∧ W ≤ 64 by rw [← hW]; exact ⟨ckWin_one x, ckWin_most x⟩)
  rw [hW] at hc2
  clear hW
  go_wp2_with fail
  go_loopw [8] (fun i wr => ∃ j : Nat, j ≤ T ∧ i = .int .i64 j ∧ Hid (Clk wr b j W) ∧ Hid (Below w.heap.size w wr)) (fun i _ => T - (intOf i).toNat)
  case atStart => exact ⟨0, Nat.zero_le _, rfl, hc2, hb2⟩
  case round =>
    obtain ⟨j, hj, rfl, hcj, hbj⟩ := hrel
    by_cases hlt : j < T
    · go_wp2_with fail
      refine (tick_any wr b j W hcj.out (by omega) (by have := hT5.out; omega)).mono ?_
      rintro e w3 ⟨rfl, hcx, hgx⟩
      have hc3 := Lib.hid hcx
      have hb3 := Lib.hid (hbj.out.trans (ck_below hgx hbj.out.size hle.out))
      clear hcx hgx hcj hbj
      go_wp2_with fail
      go_roundw
      case rel => exact ⟨j + 1, by omega, by go_num, hc3, hb3⟩
      case measure => simp [intOf]; omega
    · have hjT : j = T := by omega
      subst hjT
      clear hlt hj ht0 ht1
      obtain ⟨w3, rfl⟩ : ∃ w3, w3 = wr := ⟨_, rfl⟩
      have hc3 := hcj
      have hb3 := hbj
      clear hcj hbj hc2 hb2
      go_wp2_with fail
      refine (vote_any w3 b _ W s hc3.out (by omega) (by have := hT5.out; omega) hW1.out.1 hW1.out.2).mono ?_
      rintro e w4 ⟨rfl, m4, hw4⟩
      have hc4 := Lib.hid (show Clk w4 b ↑j W by rw [hw4]; exact hc3.out.keep rfl)
      have hb4 := Lib.hid (show Below w.heap.size w w4 by rw [hw4]; exact ck_drewN hb3.out _)
      clear hw4 hc3 hb3
      go_wp2_with fail
      refine (ripe_any w4 b _ W s hc4.out).mono ?_
      rintro e w5 ⟨rfl, m5, hw5⟩
      have hc5 := Lib.hid (show Clk w5 b ↑j W by rw [hw5]; exact hc4.out.keep rfl)
      have hb5 := Lib.hid (show Below w.heap.size w w5 by rw [hw5]; exact ck_drewN hb4.out _)
      clear hw5 hc4 hb4
      go_wp2_with fail
      refine (tick_any w5 b ↑j W hc5.out (by omega) (by have := hT5.out; omega)).mono ?_
      rintro e w6 ⟨rfl, hcx, hgx⟩
      have hc6 := Lib.hid hcx
      have hb6 := Lib.hid (hb5.out.trans (ck_below hgx hb5.out.size hle.out))
      clear hcx hgx hc5 hb5
      have HV2 := Lib.hid (show ckVote (↑j + 1) W s = (decide (ckFirst (↑j + 1) W ≤ s) && decide (s ≤ ↑j + 2)) by rw [ckVote_eq (by have := hT5.out; omega), show (j : Int) + 1 + 1 = j + 2 by omega])
      have HAV := Lib.hid (show ckVote ↑j W s = true → decide (s < ↑j + 1) = false → ckVote (↑j + 1) W s = true by rw [ckVote_eq (by have := hT5.out; omega), ckVote_eq (by have := hT5.out; omega)]; have := hW1.out; unfold ckFirst; simp; omega)
      have HRR := Lib.hid (show decide (s < ↑j) = true → decide (s < ↑j + 1) = true by simp; omega)
      obtain ⟨A, hA⟩ : ∃ A, ckVote ↑j W s = A := ⟨_, rfl⟩
      obtain ⟨R, hR⟩ : ∃ R, decide (s < ↑j) = R := ⟨_, rfl⟩
      obtain ⟨V', hV'⟩ : ∃ V', ckVote (↑j + 1) W s = V' := ⟨_, rfl⟩
      obtain ⟨R', hR'⟩ : ∃ R', decide (s < (↑j : Int) + 1) = R' := ⟨_, rfl⟩
      rw [hA, hR', hV'] at HAV
      rw [hR, hR'] at HRR
      rw [hV'] at HV2
      have HV' := Lib.hid hV'
      have HR' := Lib.hid hR'
      rw [hA, hR]
      clear hA hR hV' hR' 
      cases A with
      | true =>
        go_wp2_with fail
        refine (ripe_any w6 b _ W s hc6.out).mono ?_
        rintro e w7 ⟨rfl, m7, hw7⟩
        have hc7 := Lib.hid (show Clk w7 b (↑j + 1) W by rw [hw7]; exact hc6.out.keep rfl)
        have hb7 := Lib.hid (show Below w.heap.size w w7 by rw [hw7]; exact ck_drewN hb6.out _)
        clear hw7 hc6 hb6
        rw [HR'.out]
        cases R' with
        | true =>
          cases R with
          | true =>
            go_wp2_with fail
            refine (ripe_any w7 b _ W s hc7.out).mono ?_
            rintro e w8 ⟨rfl, m8, hw8⟩
            have hc8 := Lib.hid (show Clk w8 b (↑j + 1) W by rw [hw8]; exact hc7.out.keep rfl)
            have hb8 := Lib.hid (show Below w.heap.size w w8 by rw [hw8]; exact ck_drewN hb7.out _)
            clear hw8 hc7 hb7
            rw [HR'.out]
            go_wp2_with fail
            refine (vote_any w8 b _ W s hc8.out (by omega) (by have := hT5.out; omega) hW1.out.1 hW1.out.2).mono ?_
            rintro e w9 ⟨rfl, m9, hw9⟩
            have hc9 := Lib.hid (show Clk w9 b (↑j + 1) W by rw [hw9]; exact hc8.out.keep rfl)
            have hb9 := Lib.hid (show Below w.heap.size w w9 by rw [hw9]; exact ck_drewN hb8.out _)
            clear hw9 hc8 hb8
            rw [HV'.out]
            go_wp2_with fail
            refine (first_any w9 b _ W hc9.out (by omega) (by have := hT5.out; omega) hW1.out.1 hW1.out.2).mono ?_
            rintro e w10 ⟨rfl, m10, hw10⟩
            have hc10 := Lib.hid (show Clk w10 b (↑j + 1) W by rw [hw10]; exact hc9.out.keep rfl)
            have hb10 := Lib.hid (show Below w.heap.size w w10 by rw [hw10]; exact ck_drewN hb9.out _)
            clear hw10 hc9 hb9
            obtain ⟨F, hF⟩ : ∃ F, ckFirst (↑j + 1) W = F := ⟨_, rfl⟩
            rw [hF] at HV2
            rw [hF]
            by_cases hFs : F ≤ s
            · go_wp2_with fail
              refine (now_any w10 b _ W hc10.out).mono ?_
              rintro e w11 ⟨rfl, m11, hw11⟩
              have hc11 := Lib.hid (show Clk w11 b (↑j + 1) W by rw [hw11]; exact hc10.out.keep rfl)
              have hb11 := Lib.hid (show Below w.heap.size w w11 by rw [hw11]; exact ck_drewN hb10.out _)
              clear hw11 hc10 hb10
              go_wp2_with fail
              go_ret
              exact ⟨by rw [HV2.out]; simp [hFs, show (j : Int) + 1 + 1 = j + 2 by omega], hb11.out⟩
            · go_wp2_with fail
              go_ret
              exact ⟨by rw [HV2.out]; simp [hFs], hb10.out⟩
          | false =>
            go_wp2_with fail
            refine (vote_any w7 b _ W s hc7.out (by omega) (by have := hT5.out; omega) hW1.out.1 hW1.out.2).mono ?_
            rintro e w8 ⟨rfl, m8, hw8⟩
            have hc8 := Lib.hid (show Clk w8 b (↑j + 1) W by rw [hw8]; exact hc7.out.keep rfl)
            have hb8 := Lib.hid (show Below w.heap.size w w8 by rw [hw8]; exact ck_drewN hb7.out _)
            clear hw8 hc7 hb7
            rw [HV'.out]
            go_wp2_with fail
            refine (first_any w8 b _ W hc8.out (by omega) (by have := hT5.out; omega) hW1.out.1 hW1.out.2).mono ?_
            rintro e w9 ⟨rfl, m9, hw9⟩
            have hc9 := Lib.hid (show Clk w9 b (↑j + 1) W by rw [hw9]; exact hc8.out.keep rfl)
            have hb9 := Lib.hid (show Below w.heap.size w w9 by rw [hw9]; exact ck_drewN hb8.out _)
            clear hw9 hc8 hb8
            obtain ⟨F, hF⟩ : ∃ F, ckFirst (↑j + 1) W = F := ⟨_, rfl⟩
            rw [hF] at HV2
            rw [hF]
            by_cases hFs : F ≤ s
            · go_wp2_with fail
              refine (now_any w9 b _ W hc9.out).mono ?_
              rintro e w10 ⟨rfl, m10, hw10⟩
              have hc10 := Lib.hid (show Clk w10 b (↑j + 1) W by rw [hw10]; exact hc9.out.keep rfl)
              have hb10 := Lib.hid (show Below w.heap.size w w10 by rw [hw10]; exact ck_drewN hb9.out _)
              clear hw10 hc9 hb9
              go_wp2_with fail
              go_ret
              exact ⟨by rw [HV2.out]; simp [hFs, show (j : Int) + 1 + 1 = j + 2 by omega], hb10.out⟩
            · go_wp2_with fail
              go_ret
              exact ⟨by rw [HV2.out]; simp [hFs], hb9.out⟩
        | false =>
          cases R with
          | true =>
            exact absurd HRR.out (by simp)
          | false =>
            have E1 := Lib.hid (show V' = true by simpa using HAV.out)
            go_wp2_with fail
            refine (vote_any w7 b _ W s hc7.out (by omega) (by have := hT5.out; omega) hW1.out.1 hW1.out.2).mono ?_
            rintro e w8 ⟨rfl, m8, hw8⟩
            have hc8 := Lib.hid (show Clk w8 b (↑j + 1) W by rw [hw8]; exact hc7.out.keep rfl)
            have hb8 := Lib.hid (show Below w.heap.size w w8 by rw [hw8]; exact ck_drewN hb7.out _)
            clear hw8 hc7 hb7
            rw [HV'.out, E1.out]
            go_wp2_with fail
            refine (vote_any w8 b _ W s hc8.out (by omega) (by have := hT5.out; omega) hW1.out.1 hW1.out.2).mono ?_
            rintro e w9 ⟨rfl, m9, hw9⟩
            have hc9 := Lib.hid (show Clk w9 b (↑j + 1) W by rw [hw9]; exact hc8.out.keep rfl)
            have hb9 := Lib.hid (show Below w.heap.size w w9 by rw [hw9]; exact ck_drewN hb8.out _)
            clear hw9 hc8 hb8
            rw [HV'.out]
            go_wp2_with fail
            refine (first_any w9 b _ W hc9.out (by omega) (by have := hT5.out; omega) hW1.out.1 hW1.out.2).mono ?_
            rintro e w10 ⟨rfl, m10, hw10⟩
            have hc10 := Lib.hid (show Clk w10 b (↑j + 1) W by rw [hw10]; exact hc9.out.keep rfl)
            have hb10 := Lib.hid (show Below w.heap.size w w10 by rw [hw10]; exact ck_drewN hb9.out _)
            clear hw10 hc9 hb9
            obtain ⟨F, hF⟩ : ∃ F, ckFirst (↑j + 1) W = F := ⟨_, rfl⟩
            rw [hF] at HV2
            rw [hF]
            by_cases hFs : F ≤ s
            · go_wp2_with fail
              refine (now_any w10 b _ W hc10.out).mono ?_
              rintro e w11 ⟨rfl, m11, hw11⟩
              have hc11 := Lib.hid (show Clk w11 b (↑j + 1) W by rw [hw11]; exact hc10.out.keep rfl)
              have hb11 := Lib.hid (show Below w.heap.size w w11 by rw [hw11]; exact ck_drewN hb10.out _)
              clear hw11 hc10 hb10
              go_wp2_with fail
              go_ret
              exact ⟨by rw [HV2.out]; simp [hFs, show (j : Int) + 1 + 1 = j + 2 by omega], hb11.out⟩
            · go_wp2_with fail
              go_ret
              exact ⟨by rw [HV2.out]; simp [hFs], hb10.out⟩
      | false =>
        cases R with
        | true =>
          have E2 := Lib.hid (show R' = true by simpa using HRR.out)
          go_wp2_with fail
          refine (ripe_any w6 b _ W s hc6.out).mono ?_
          rintro e w7 ⟨rfl, m7, hw7⟩
          have hc7 := Lib.hid (show Clk w7 b (↑j + 1) W by rw [hw7]; exact hc6.out.keep rfl)
          have hb7 := Lib.hid (show Below w.heap.size w w7 by rw [hw7]; exact ck_drewN hb6.out _)
          clear hw7 hc6 hb6
          rw [HR'.out, E2.out]
          go_wp2_with fail
          refine (vote_any w7 b _ W s hc7.out (by omega) (by have := hT5.out; omega) hW1.out.1 hW1.out.2).mono ?_
          rintro e w8 ⟨rfl, m8, hw8⟩
          have hc8 := Lib.hid (show Clk w8 b (↑j + 1) W by rw [hw8]; exact hc7.out.keep rfl)
          have hb8 := Lib.hid (show Below w.heap.size w w8 by rw [hw8]; exact ck_drewN hb7.out _)
          clear hw8 hc7 hb7
          rw [HV'.out]
          go_wp2_with fail
          refine (first_any w8 b _ W hc8.out (by omega) (by have := hT5.out; omega) hW1.out.1 hW1.out.2).mono ?_
          rintro e w9 ⟨rfl, m9, hw9⟩
          have hc9 := Lib.hid (show Clk w9 b (↑j + 1) W by rw [hw9]; exact hc8.out.keep rfl)
          have hb9 := Lib.hid (show Below w.heap.size w w9 by rw [hw9]; exact ck_drewN hb8.out _)
          clear hw9 hc8 hb8
          obtain ⟨F, hF⟩ : ∃ F, ckFirst (↑j + 1) W = F := ⟨_, rfl⟩
          rw [hF] at HV2
          rw [hF]
          by_cases hFs : F ≤ s
          · go_wp2_with fail
            refine (now_any w9 b _ W hc9.out).mono ?_
            rintro e w10 ⟨rfl, m10, hw10⟩
            have hc10 := Lib.hid (show Clk w10 b (↑j + 1) W by rw [hw10]; exact hc9.out.keep rfl)
            have hb10 := Lib.hid (show Below w.heap.size w w10 by rw [hw10]; exact ck_drewN hb9.out _)
            clear hw10 hc9 hb9
            go_wp2_with fail
            go_ret
            exact ⟨by rw [HV2.out]; simp [hFs, show (j : Int) + 1 + 1 = j + 2 by omega], hb10.out⟩
          · go_wp2_with fail
            go_ret
            exact ⟨by rw [HV2.out]; simp [hFs], hb9.out⟩
        | false =>
          go_wp2_with fail
          refine (vote_any w6 b _ W s hc6.out (by omega) (by have := hT5.out; omega) hW1.out.1 hW1.out.2).mono ?_
          rintro e w7 ⟨rfl, m7, hw7⟩
          have hc7 := Lib.hid (show Clk w7 b (↑j + 1) W by rw [hw7]; exact hc6.out.keep rfl)
          have hb7 := Lib.hid (show Below w.heap.size w w7 by rw [hw7]; exact ck_drewN hb6.out _)
          clear hw7 hc6 hb6
          rw [HV'.out]
          go_wp2_with fail
          refine (first_any w7 b _ W hc7.out (by omega) (by have := hT5.out; omega) hW1.out.1 hW1.out.2).mono ?_
          rintro e w8 ⟨rfl, m8, hw8⟩
          have hc8 := Lib.hid (show Clk w8 b (↑j + 1) W by rw [hw8]; exact hc7.out.keep rfl)
          have hb8 := Lib.hid (show Below w.heap.size w w8 by rw [hw8]; exact ck_drewN hb7.out _)
          clear hw8 hc7 hb7
          obtain ⟨F, hF⟩ : ∃ F, ckFirst (↑j + 1) W = F := ⟨_, rfl⟩
          rw [hF] at HV2
          rw [hF]
          by_cases hFs : F ≤ s
          · go_wp2_with fail
            refine (now_any w8 b _ W hc8.out).mono ?_
            rintro e w9 ⟨rfl, m9, hw9⟩
            have hc9 := Lib.hid (show Clk w9 b (↑j + 1) W by rw [hw9]; exact hc8.out.keep rfl)
            have hb9 := Lib.hid (show Below w.heap.size w w9 by rw [hw9]; exact ck_drewN hb8.out _)
            clear hw9 hc8 hb8
            go_wp2_with fail
            go_ret
            exact ⟨by rw [HV2.out]; simp [hFs, show (j : Int) + 1 + 1 = j + 2 by omega], hb9.out⟩
          · go_wp2_with fail
            go_ret
            exact ⟨by rw [HV2.out]; simp [hFs], hb8.out⟩
end Go.Proofs.Ytanpckikgfmgoaa
