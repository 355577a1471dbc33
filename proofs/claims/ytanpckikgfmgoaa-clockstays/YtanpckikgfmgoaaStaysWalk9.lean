/-
  The walk of ClockStays.
-/
import Derived.Test.YtanpckikgfmgoaaAlive9
namespace Go.Proofs.Ytanpckikgfmgoaa
open Go.RowKit
set_option maxRecDepth 10000

set_option maxHeartbeats 2000000 in
theorem stays_any (w : World) (x t m f s : Int) : Calls Try.prog 6 #[.int .i64 x, .int .i64 t, .int .i64 m, .int .i64 f, .int .i64 s] w fun e w' => e = .returned (.bool true) ∧ Below w.heap.size w w' := by
  go_enter Try.func6, Try.ntmps6
  go_wp2_with fail
  refine (alive_any w).mono ?_
  rintro e w1 ⟨rfl, hb1'⟩
  have hb1 := Lib.hid hb1'
  clear hb1' 
  by_cases ht : t < 0
  · go_wp2_with fail
    go_ret
    exact ⟨rfl, hb1.out⟩
  have httL0 := ht
  clear ht
  by_cases ht : m < 0
  · go_wp2_with fail
    go_ret
    exact ⟨rfl, hb1.out⟩
  have htmL0 := ht
  clear ht
  by_cases ht : 250 < t
  · go_wp2_with fail
    go_ret
    exact ⟨rfl, hb1.out⟩
  have ht250Lt := ht
  clear ht
  by_cases ht : 250 < m
  · go_wp2_with fail
    go_ret
    exact ⟨rfl, hb1.out⟩
  have ht250Lm := ht
  clear ht
  obtain ⟨T, hT⟩ : ∃ T : Nat, t = T := ⟨t.toNat, by omega⟩
  obtain ⟨M, hM⟩ : ∃ M : Nat, m = M := ⟨m.toNat, by omega⟩
  subst hT
  subst hM
  have hT5 := Lib.hid (show T ≤ 250 by omega)
  have hM5 := Lib.hid (show M ≤ 250 by omega)
  go_wp2_with fail
  refine (cnew_any w1 x).mono ?_
  rintro e w2 ⟨rfl, hw2⟩
  have hc2 := Lib.hid (show Clk w2 w1.heap.size 0 (ckWin x) by rw [hw2]; exact clk_new w1 0 _)
  have hb2 := Lib.hid (show Below w.heap.size w w2 by rw [hw2]; exact hb1.out.alloc hb1.out.size _)
  clear hw2
  obtain ⟨b, hb⟩ : ∃ b, w1.heap.size = b := ⟨_, rfl⟩
  have hle := Lib.hid (show w.heap.size ≤ b by have := hb1.out.size; omega)
  rw [hb] at hc2
  rw [show (.pointer (some ⟨w1.heap.size, 0, none⟩) : Value) = .pointer (some ⟨b, 0, none⟩) by rw [hb]]
  clear hb hb1
  obtain ⟨W, hW⟩ : ∃ W, ckWin x = W := ⟨_, rfl⟩
  rw [hW] at hc2
  clear hW
  go_wp2_with fail
  go_loopw [12] (fun i wr => ∃ j : Nat, j ≤ T ∧ i = .int .i64 j ∧ Hid (Clk wr b j W) ∧ Hid (Below w.heap.size w wr)) (fun i _ => T - (intOf i).toNat)
  case atStart => exact ⟨0, Nat.zero_le _, rfl, hc2, hb2⟩
  case round =>
    obtain ⟨j, hj, rfl, hcj, hbj⟩ := hrel
    by_cases hlt : j < T
    · go_wp2_with fail
      refine (tick_any wr b j W hcj.out (by omega) (by have := hT5.out; omega)).mono ?_
      rintro e w3 ⟨rfl, hcx, hgx⟩
      have hc3 := Lib.hid hcx
      have hb3 := Lib.hid (hbj.out.trans (ck_below hgx hbj.out.size hle.out))
      clear hcx hgx hcj hbj
      go_wp2_with fail
      go_roundw
      case rel => exact ⟨j + 1, by omega, by go_num, hc3, hb3⟩
      case measure => simp [intOf]; omega
    · have hjT : j = T := by omega
      subst hjT
      clear hlt hj
      obtain ⟨w3, rfl⟩ : ∃ w3, w3 = wr := ⟨_, rfl⟩
      have hc3 := hcj
      have hb3 := hbj
      clear hcj hbj hc2 hb2
      go_wp2_with fail
      refine (block_any w3 b _ W f s hc3.out).mono ?_
      rintro e w4 ⟨rfl, m4, hw4⟩
      have hc4 := Lib.hid (show Clk w4 b ↑j W by rw [hw4]; exact hc3.out.keep rfl)
      have hb4 := Lib.hid (show Below w.heap.size w w4 by rw [hw4]; exact ck_drewN hb3.out _)
      clear hw4 hc3 hb3
      obtain ⟨A, hA⟩ : ∃ A, ckBlock ↑j f s = A := ⟨_, rfl⟩
      have HA := Lib.hid hA
      rw [hA]
      clear hA
      go_wp2_with fail
      go_loopw [14] (fun i wr => ∃ k : Nat, k ≤ M ∧ i = .int .i64 k ∧ Hid (Clk wr b (j + k : Nat) W) ∧ Hid (Below w.heap.size w wr)) (fun i _ => M - (intOf i).toNat)
      case atStart => exact ⟨0, Nat.zero_le _, rfl, hc4, hb4⟩
      case round =>
        obtain ⟨k, hk, rfl, hcj, hbj⟩ := hrel
        by_cases hlt : k < M
        · go_wp2_with fail
          refine (tick_any wr b (j + k : Nat) W hcj.out (by omega) (by have := hT5.out; have := hM5.out; omega)).mono ?_
          rintro e w5 ⟨rfl, hcx, hgx⟩
          have hc5 := Lib.hid (show Clk w5 b (j + (k + 1) : Nat) W by rw [show ((j + (k + 1) : Nat) : Int) = ((j + k : Nat) : Int) + 1 by omega]; exact hcx)
          have hb5 := Lib.hid (hbj.out.trans (ck_below hgx hbj.out.size hle.out))
          clear hcx hgx hcj hbj
          go_wp2_with fail
          go_roundw
          case rel => exact ⟨k + 1, by omega, by go_num, hc5, hb5⟩
          case measure => simp [intOf]; omega
        · have hkM : k = M := by omega
          subst hkM
          clear hlt hk
          obtain ⟨w5, rfl⟩ : ∃ w5, w5 = wr := ⟨_, rfl⟩
          have hc5 := hcj
          have hb5 := hbj
          clear hcj hbj hc4 hb4
          have E2 := Lib.hid (show ckBlock (j + k : Nat) s s = false from ckBlock_low (by omega))
          cases A with
          | true =>
            have E1 := Lib.hid (show ckBlock (j + k : Nat) f s = true by have := HA.out; simp [ckBlock] at this ⊢; omega)
            go_wp2_with fail
            refine (block_any w5 b _ W f s hc5.out).mono ?_
            rintro e w6 ⟨rfl, m6, hw6⟩
            have hc6 := Lib.hid (show Clk w6 b (j + k : Nat) W by rw [hw6]; exact hc5.out.keep rfl)
            have hb6 := Lib.hid (show Below w.heap.size w w6 by rw [hw6]; exact ck_drewN hb5.out _)
            clear hw6 hc5 hb5
            rw [E1.out]
            go_wp2_with fail
            refine (block_any w6 b _ W s s hc6.out).mono ?_
            rintro e w7 ⟨rfl, m7, hw7⟩
            have hc7 := Lib.hid (show Clk w7 b (j + k : Nat) W by rw [hw7]; exact hc6.out.keep rfl)
            have hb7 := Lib.hid (show Below w.heap.size w w7 by rw [hw7]; exact ck_drewN hb6.out _)
            clear hw7 hc6 hb6
            rw [E2.out]
            go_wp2_with fail
            go_ret
            exact ⟨rfl, hb7.out⟩
          | false =>
            go_wp2_with fail
            refine (block_any w5 b _ W s s hc5.out).mono ?_
            rintro e w6 ⟨rfl, m6, hw6⟩
            have hc6 := Lib.hid (show Clk w6 b (j + k : Nat) W by rw [hw6]; exact hc5.out.keep rfl)
            have hb6 := Lib.hid (show Below w.heap.size w w6 by rw [hw6]; exact ck_drewN hb5.out _)
            clear hw6 hc5 hb5
            rw [E2.out]
            go_wp2_with fail
            go_ret
            exact ⟨rfl, hb6.out⟩
end Go.Proofs.Ytanpckikgfmgoaa
