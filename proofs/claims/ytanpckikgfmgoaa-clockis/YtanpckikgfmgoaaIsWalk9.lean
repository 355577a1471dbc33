/-
  The walk of ClockIs.
-/
import Derived.Test.YtanpckikgfmgoaaAlive9
import Derived.Test.YtanpckikgfmgoaaRefClk
import Derived.Test.YtanpckikgfmgoaaOpenZ
namespace Go.Proofs.Ytanpckikgfmgoaa
open Go.RowKit
set_option maxRecDepth 10000

set_option maxHeartbeats 4000000 in
theorem is_any (w : World) (x t f : Int) (ao : Option Addr) (L cap b3 off3 : Nat) (l : List Int) (hl : l.length = L) (hz : ∀ n ∈ l, Z64 n) (hrow : Lies w w.heap.size ao b3 off3 (zv l)) :
    Calls Try.prog 3 #[.int .i64 x, .int .i64 t, .int .i64 f, .slice ao L cap] w fun e w' => e = .returned (.bool true) ∧ Below w.heap.size w w' := by
  have HL := Lib.hid hl
  have HZ := Lib.hid hz
  have HR := Lib.hid hrow
  clear hl hz hrow
  go_enter Try.func3, Try.ntmps3
  go_wp2_with fail
  refine (alive_any w).mono ?_
  rintro e w1 ⟨rfl, hb1'⟩
  have hb1 := Lib.hid hb1'
  clear hb1' 
  by_cases ht : t < 0
  · go_wp2_with fail
    go_ret
    exact ⟨rfl, hb1.out⟩
  have htt0R := ht
  clear ht
  by_cases ht : 500 < t
  · go_wp2_with fail
    go_ret
    exact ⟨rfl, hb1.out⟩
  have ht500tL := ht
  clear ht
  by_cases ht : (100 : Int) < (L : Int)
  · go_wp2_with fail
    go_ret
    exact ⟨rfl, hb1.out⟩
  have ht100R := ht
  clear ht
  obtain ⟨T, hT⟩ : ∃ T : Nat, t = T := ⟨t.toNat, by omega⟩
  subst hT
  have hT5 := Lib.hid (show T ≤ 500 by omega)
  go_wp2_with fail
  refine (now_nil w1).mono ?_
  rintro e w2 ⟨rfl, m2, hw2⟩
  have hb2 := Lib.hid (show Below w.heap.size w w2 by rw [hw2]; exact ck_drewN hb1.out _)
  clear hw2 hb1
  go_wp2_with fail
  refine (tick_nil w2).mono ?_
  rintro e w3 ⟨rfl, m3, hw3⟩
  have hb3 := Lib.hid (show Below w.heap.size w w3 by rw [hw3]; exact ck_drewN hb2.out _)
  clear hw3 hb2
  go_wp2_with fail
  refine (first_nil w3).mono ?_
  rintro e w4 ⟨rfl, m4, hw4⟩
  have hb4 := Lib.hid (show Below w.heap.size w w4 by rw [hw4]; exact ck_drewN hb3.out _)
  clear hw4 hb3
  go_wp2_with fail
  refine (block_nil w4 0 0).mono ?_
  rintro e w5 ⟨rfl, m5, hw5⟩
  have hb5 := Lib.hid (show Below w.heap.size w w5 by rw [hw5]; exact ck_drewN hb4.out _)
  clear hw5 hb4
  go_wp2_with fail
  refine (vote_nil w5 0).mono ?_
  rintro e w6 ⟨rfl, m6, hw6⟩
  have hb6 := Lib.hid (show Below w.heap.size w w6 by rw [hw6]; exact ck_drewN hb5.out _)
  clear hw6 hb5
  go_wp2_with fail
  refine (ripe_nil w6 (-1)).mono ?_
  rintro e w7 ⟨rfl, m7, hw7⟩
  have hb7 := Lib.hid (show Below w.heap.size w w7 by rw [hw7]; exact ck_drewN hb6.out _)
  clear hw7 hb6
  go_wp2_with fail
  refine (cnew_any w7 x).mono ?_
  rintro e w8 ⟨rfl, hw8⟩
  have hc8 := Lib.hid (show Clk w8 w7.heap.size 0 (ckWin x) by rw [hw8]; exact clk_new w7 0 _)
  have hb8 := Lib.hid (show Below w.heap.size w w8 by rw [hw8]; exact hb7.out.alloc hb7.out.size _)
  clear hw8
  obtain ⟨b, hb⟩ : ∃ b, w7.heap.size = b := ⟨_, rfl⟩
  have hle := Lib.hid (show w.heap.size ≤ b by have := hb7.out.size; omega)
  rw [hb] at hc8
  rw [show (.pointer (some ⟨w7.heap.size, 0, none⟩) : Value) = .pointer (some ⟨b, 0, none⟩) by rw [hb]]
  clear hb hb7
  go_wp2_with fail
  refine (refcnew_any w8 x).mono ?_
  rintro e w9 ⟨rfl, hw9⟩
  have hm9 := Lib.hid (show Cm w9 w8.heap.size 0 (ckWin x) by rw [hw9]; exact cm_new w8 0 _)
  have hc9 := Lib.hid (show Clk w9 b 0 (ckWin x) by rw [hw9]; exact hc8.out.below ((Below.refl _ _).alloc (Nat.le_refl _) _))
  have hb9 := Lib.hid (show Below w.heap.size w w9 by rw [hw9]; exact hb8.out.alloc hb8.out.size _)
  clear hw9
  obtain ⟨m, hm⟩ : ∃ m, w8.heap.size = m := ⟨_, rfl⟩
  have hlm := Lib.hid (show w.heap.size ≤ m by have := hb8.out.size; omega)
  have hne := Lib.hid (show m ≠ b by have := hc8.out.lt; omega)
  rw [hm] at hm9
  rw [show (.pointer (some ⟨w8.heap.size, 0, none⟩) : Value) = .pointer (some ⟨m, 0, none⟩) by rw [hm]]
  clear hm hc8 hb8
  obtain ⟨W, hW⟩ : ∃ W, ckWin x = W := ⟨_, rfl⟩
  have hW1 := Lib.hid (show 1 ≤ W ∧ W ≤ 64 by rw [← hW]; exact ⟨ckWin_one x, ckWin_most x⟩)
  rw [hW] at hc9 hm9
  clear hW
  go_wp2_with fail
  go_loopw [12] (fun i wr => ∃ j : Nat, j ≤ T ∧ i = .int .i64 j ∧ Hid (Clk wr b j W) ∧ Hid (Cm wr m j W) ∧ Hid (Below w.heap.size w wr)) (fun i _ => T - (intOf i).toNat)
  case atStart => exact ⟨0, Nat.zero_le _, rfl, hc9, hm9, hb9⟩
  case round =>
    obtain ⟨j, hj, rfl, hcj, hmj, hbj⟩ := hrel
    by_cases hlt : j < T
    · go_wp2_with fail
      refine (tick_any wr b j W hcj.out (by omega) (by have := hT5.out; omega)).mono ?_
      rintro e w3 ⟨rfl, hcx, hgx⟩
      have hc3 := Lib.hid hcx
      have hm3 := Lib.hid (hmj.out.grown hgx (by have := hne.out; simp; omega))
      have hb3 := Lib.hid (hbj.out.trans (ck_below hgx hbj.out.size hle.out))
      clear hcx hgx hcj hmj hbj
      go_wp2_with fail
      refine (reftick_any w3 m j W hm3.out (by omega) (by have := hT5.out; omega)).mono ?_
      rintro e w4 ⟨rfl, hmx, hgx⟩
      have hm4 := Lib.hid hmx
      have hc4 := Lib.hid (hc3.out.grown hgx (by have := hne.out; simp; omega))
      have hb4 := Lib.hid (hb3.out.trans (ck_below hgx hb3.out.size hlm.out))
      clear hmx hgx hc3 hm3 hb3
      go_wp2_with fail
      go_roundw
      case rel => exact ⟨j + 1, by omega, by go_num, hc4, hm4, hb4⟩
      case measure => simp [intOf]; omega
    · have hjT : j = T := by omega
      subst hjT
      clear hlt hj
      obtain ⟨w10, rfl⟩ : ∃ w10, w10 = wr := ⟨_, rfl⟩
      have hc10 := hcj
      have hm10 := hmj
      have hb10 := hbj
      clear hcj hmj hbj hc9 hm9 hb9
      go_wp2_with fail
      go_loopw [68] (fun i wr => ∃ k : Nat, k ≤ L ∧ i = .int .i64 k ∧ Hid (Clk wr b j W) ∧ Hid (Cm wr m j W) ∧ Hid (Below w.heap.size w wr)) (fun i _ => L - (intOf i).toNat)
      case atStart => exact ⟨0, Nat.zero_le _, rfl, hc10, hm10, hb10⟩
      case round =>
        obtain ⟨k, hk, rfl, hcj, hmj, hbj⟩ := hrel
        obtain ⟨w11, rfl⟩ : ∃ w11, w11 = wr := ⟨_, rfl⟩
        have hc11 := hcj
        have hm11 := hmj
        have hb11 := hbj
        clear hcj hmj hbj hc10 hm10 hb10
        by_cases hlt : k < L
        · obtain ⟨s, hs⟩ : ∃ s, l[k]? = some s := ⟨_, List.getElem?_eq_getElem (by rw [HL.out]; exact hlt)⟩
          have hz := HZ.out s (List.mem_of_getElem? hs)
          obtain ⟨ha, c0⟩ := HR.out.zv hb11.out hs
          have HZS := Lib.hid hz
          subst ha
          clear hs hz
          by_cases hmin : s = -9223372036854775808
          · go_wp2_with fail
            go_ret
            exact ⟨rfl, hb11.out⟩
          have HS := Lib.hid (show -9223372036854775808 < s ∧ s ≤ 9223372036854775807 by have := HZS.out; unfold Z64 at this; omega)
          clear HZS
          go_wp2_with fail
          refine (block_any w11 b _ W f s hc11.out).mono ?_
          rintro e w12 ⟨rfl, m12, hw12⟩
          have hc12 := Lib.hid (show Clk w12 b ↑j W by rw [hw12]; exact hc11.out.keep rfl)
          have hm12 := Lib.hid (show Cm w12 m ↑j W by rw [hw12]; exact hm11.out.keep rfl)
          have hb12 := Lib.hid (show Below w.heap.size w w12 by rw [hw12]; exact ck_drewN hb11.out _)
          clear hw12 hc11 hm11 hb11
          obtain ⟨B, hB⟩ : ∃ B, ckBlock ↑j f s = B := ⟨_, rfl⟩
          rw [hB]
          have HB := Lib.hid hB
          clear hB
          go_wp2_with fail
          refine (refblock_any w12 m _ W f s hm12.out).mono ?_
          rintro e w13 ⟨rfl, m13, hw13⟩
          have hc13 := Lib.hid (show Clk w13 b ↑j W by rw [hw13]; exact hc12.out.keep rfl)
          have hm13 := Lib.hid (show Cm w13 m ↑j W by rw [hw13]; exact hm12.out.keep rfl)
          have hb13 := Lib.hid (show Below w.heap.size w w13 by rw [hw13]; exact ck_drewN hb12.out _)
          clear hw13 hc12 hm12 hb12
          rw [HB.out]
          go_wp2_with fail
          refine (vote_any w13 b _ W s hc13.out (by omega) (by have := hT5.out; omega) hW1.out.1 hW1.out.2).mono ?_
          rintro e w14 ⟨rfl, m14, hw14⟩
          have hc14 := Lib.hid (show Clk w14 b ↑j W by rw [hw14]; exact hc13.out.keep rfl)
          have hm14 := Lib.hid (show Cm w14 m ↑j W by rw [hw14]; exact hm13.out.keep rfl)
          have hb14 := Lib.hid (show Below w.heap.size w w14 by rw [hw14]; exact ck_drewN hb13.out _)
          clear hw14 hc13 hm13 hb13
          obtain ⟨V, hV⟩ : ∃ V, ckVote ↑j W s = V := ⟨_, rfl⟩
          rw [hV]
          have HV := Lib.hid hV
          clear hV
          go_wp2_with fail
          refine (refvote_any w14 m _ W s hm14.out (by omega) (by have := hT5.out; omega) hW1.out.1 hW1.out.2 HS.out.1 HS.out.2).mono ?_
          rintro e w15 ⟨rfl, m15, hw15⟩
          have hc15 := Lib.hid (show Clk w15 b ↑j W by rw [hw15]; exact hc14.out.keep rfl)
          have hm15 := Lib.hid (show Cm w15 m ↑j W by rw [hw15]; exact hm14.out.keep rfl)
          have hb15 := Lib.hid (show Below w.heap.size w w15 by rw [hw15]; exact ck_drewN hb14.out _)
          clear hw15 hc14 hm14 hb14
          rw [HV.out]
          go_wp2_with fail
          refine (ripe_any w15 b _ W s hc15.out).mono ?_
          rintro e w16 ⟨rfl, m16, hw16⟩
          have hc16 := Lib.hid (show Clk w16 b ↑j W by rw [hw16]; exact hc15.out.keep rfl)
          have hm16 := Lib.hid (show Cm w16 m ↑j W by rw [hw16]; exact hm15.out.keep rfl)
          have hb16 := Lib.hid (show Below w.heap.size w w16 by rw [hw16]; exact ck_drewN hb15.out _)
          clear hw16 hc15 hm15 hb15
          obtain ⟨R, hR⟩ : ∃ R, decide (s < (j : Int)) = R := ⟨_, rfl⟩
          rw [hR]
          have HRi := Lib.hid hR
          clear hR
          go_wp2_with fail
          refine (refripe_any w16 m _ W s hm16.out).mono ?_
          rintro e w17 ⟨rfl, m17, hw17⟩
          have hc17 := Lib.hid (show Clk w17 b ↑j W by rw [hw17]; exact hc16.out.keep rfl)
          have hm17 := Lib.hid (show Cm w17 m ↑j W by rw [hw17]; exact hm16.out.keep rfl)
          have hb17 := Lib.hid (show Below w.heap.size w w17 by rw [hw17]; exact ck_drewN hb16.out _)
          clear hw17 hc16 hm16 hb16
          rw [HRi.out]
          go_wp2_with fail
          go_roundw
          case rel => exact ⟨k + 1, by omega, by go_num, hc17, hm17, hb17⟩
          case measure => simp [intOf]; omega
        · have c0 := hm11.out.cell0
          go_wp2_with fail
          go_quiet (first | (go_at_call 8; exact Calls.quiet_of (now_any _ b j W (hc11.out.keep rfl))) | (go_at_call 10; exact Calls.quiet_of (first_any _ b j W (hc11.out.keep rfl) (by omega) (by have := hT5.out; omega) hW1.out.1 hW1.out.2)) | (go_at_call 20; exact Calls.quiet_of (reffirst_any _ m j W (hm11.out.keep rfl) (by omega) (by have := hT5.out; omega) hW1.out.1 hW1.out.2)))
          go_wp2_with fail
          go_ret
          exact ⟨rfl, ck_drewN hb11.out _⟩
end Go.Proofs.Ytanpckikgfmgoaa
