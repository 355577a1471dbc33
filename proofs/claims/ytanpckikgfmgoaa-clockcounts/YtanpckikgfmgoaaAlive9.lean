/-
  The statements' first question, alive: it answers yes, and touches nothing that was there.
-/
import Derived.Test.YtanpckikgfmgoaaClk
namespace Go.Proofs.Ytanpckikgfmgoaa
open Go.RowKit
set_option maxRecDepth 10000

theorem alive_any (w : World) : Calls Try.prog 7 #[] w fun e w' => e = .returned (.bool true) ∧ Below w.heap.size w w' := by
  go_enter Try.func7, Try.ntmps7
  go_wp2_with fail
  refine (cnew_any w 2).mono ?_
  rintro e w1 ⟨rfl, hw1⟩
  have hc1 := Lib.hid (show Clk w1 w.heap.size 0 2 by rw [hw1]; exact clk_new w 0 _)
  have hb1 := Lib.hid (show Below w.heap.size w w1 by rw [hw1]; exact (Below.refl _ _).alloc (Nat.le_refl _) _)
  clear hw1
  obtain ⟨b, hb⟩ : ∃ b, w.heap.size = b := ⟨_, rfl⟩
  have hle := Lib.hid (show w.heap.size ≤ b by omega)
  rw [hb] at hc1
  rw [show (.pointer (some ⟨w.heap.size, 0, none⟩) : Value) = .pointer (some ⟨b, 0, none⟩) by rw [hb]]
  clear hb
  go_wp2_with fail
  refine (vote_any w1 b 0 2 0 hc1.out (by omega) (by omega) (by omega) (by omega)).mono ?_
  rintro e w2 ⟨rfl, m2, hw2⟩
  have hc2 := Lib.hid (show Clk w2 b 0 2 by rw [hw2]; exact hc1.out.keep rfl)
  have hb2 := Lib.hid (show Below w.heap.size w w2 by rw [hw2]; exact ck_drewN hb1.out _)
  clear hw2 hc1 hb1
  rw [show ckVote 0 2 0 = true by decide]
  go_wp2_with fail
  refine (vote_any w2 b 0 2 1 hc2.out (by omega) (by omega) (by omega) (by omega)).mono ?_
  rintro e w3 ⟨rfl, m3, hw3⟩
  have hc3 := Lib.hid (show Clk w3 b 0 2 by rw [hw3]; exact hc2.out.keep rfl)
  have hb3 := Lib.hid (show Below w.heap.size w w3 by rw [hw3]; exact ck_drewN hb2.out _)
  clear hw3 hc2 hb2
  rw [show ckVote 0 2 1 = true by decide]
  go_wp2_with fail
  refine (vote_any w3 b 0 2 2 hc3.out (by omega) (by omega) (by omega) (by omega)).mono ?_
  rintro e w4 ⟨rfl, m4, hw4⟩
  have hc4 := Lib.hid (show Clk w4 b 0 2 by rw [hw4]; exact hc3.out.keep rfl)
  have hb4 := Lib.hid (show Below w.heap.size w w4 by rw [hw4]; exact ck_drewN hb3.out _)
  clear hw4 hc3 hb3
  rw [show ckVote 0 2 2 = false by decide]
  go_wp2_with fail
  refine (block_any w4 b 0 2 (-1) 1 hc4.out).mono ?_
  rintro e w5 ⟨rfl, m5, hw5⟩
  have hc5 := Lib.hid (show Clk w5 b 0 2 by rw [hw5]; exact hc4.out.keep rfl)
  have hb5 := Lib.hid (show Below w.heap.size w w5 by rw [hw5]; exact ck_drewN hb4.out _)
  clear hw5 hc4 hb4
  rw [show ckBlock 0 (-1) 1 = false by decide]
  go_wp2_with fail
  refine (tick_any w5 b 0 2 hc5.out (by omega) (by omega)).mono ?_
  rintro e w6 ⟨rfl, hcx, hgx⟩
  have hc6 := Lib.hid hcx
  have hb6 := Lib.hid (hb5.out.trans (ck_below hgx hb5.out.size hle.out))
  clear hcx hgx hc5 hb5
  go_wp2_with fail
  refine (now_any w6 b _ 2 hc6.out).mono ?_
  rintro e w7 ⟨rfl, m7, hw7⟩
  have hc7 := Lib.hid (show Clk w7 b (0 + 1) 2 by rw [hw7]; exact hc6.out.keep rfl)
  have hb7 := Lib.hid (show Below w.heap.size w w7 by rw [hw7]; exact ck_drewN hb6.out _)
  clear hw7 hc6 hb6
  go_wp2_with fail
  refine (block_any w7 b _ 2 0 1 hc7.out).mono ?_
  rintro e w8 ⟨rfl, m8, hw8⟩
  have hc8 := Lib.hid (show Clk w8 b (0 + 1) 2 by rw [hw8]; exact hc7.out.keep rfl)
  have hb8 := Lib.hid (show Below w.heap.size w w8 by rw [hw8]; exact ck_drewN hb7.out _)
  clear hw8 hc7 hb7
  rw [show ckBlock (0 + 1) 0 1 = true by decide]
  go_wp2_with fail
  refine (ripe_any w8 b _ 2 0 hc8.out).mono ?_
  rintro e w9 ⟨rfl, m9, hw9⟩
  have hc9 := Lib.hid (show Clk w9 b (0 + 1) 2 by rw [hw9]; exact hc8.out.keep rfl)
  have hb9 := Lib.hid (show Below w.heap.size w w9 by rw [hw9]; exact ck_drewN hb8.out _)
  clear hw9 hc8 hb8
  rw [show decide ((0 : Int) < 0 + 1) = true by decide]
  go_wp2_with fail
  refine (ripe_any w9 b _ 2 1 hc9.out).mono ?_
  rintro e w10 ⟨rfl, m10, hw10⟩
  have hc10 := Lib.hid (show Clk w10 b (0 + 1) 2 by rw [hw10]; exact hc9.out.keep rfl)
  have hb10 := Lib.hid (show Below w.heap.size w w10 by rw [hw10]; exact ck_drewN hb9.out _)
  clear hw10 hc9 hb9
  rw [show decide ((1 : Int) < 0 + 1) = false by decide]
  go_wp2_with fail
  go_ret
  exact ⟨rfl, hb10.out⟩
end Go.Proofs.Ytanpckikgfmgoaa
