/-
  What le.Put does.
-/
import Derived.Test.YtnbdpalbompjlaaDoorInfo8
import Derived.Test.YtnbdpalbompjlaaDoorRows
import Derived.Test.YtnbdpalbompjlaaDoorM2
import Derived.Test.YtnbdpalbompjlaaDoorM1
import Derived.WalkKit
import Derived.WalkSpells
import Derived.WalkLawsBesides
import Derived.Outline
import Derived.Lib.Hide
namespace Go.Proofs.YtnbdpalbompjlaaDoor
open Go.RowKit
set_option maxRecDepth 10000


set_option maxHeartbeats 400000 in
theorem put_mid (w : World) (base : Nat) (v : Value) (bs : List UInt8) (n : Nat) (k : Nat) (hk : k ≤ 8) (hn : n < 2 ^ 64) (hv : Held w base v (bv bs)) (hbase : base ≤ w.heap.size) (hlen : bs.length ≤ 1000000) :
    Calls Tryd.prog 53 #[v, .int .u64 n, .int .i64 k] w fun e w' => ∃ v', e = .returned v' ∧ Held w' base v' (bv (bs ++ leB n k)) ∧ Grew w v w' v' := by
  obtain ⟨i0, hi, hz0, hz1, hz2⟩ := info_parts Tryd.info5
  have h1 : (0 : Int) ≤ (k : Int) := by omega
  have h2 : (k : Int) ≤ 8 := by omega
  go_enter Tryd.func53, Tryd.ntmps53
  go_wp2_with fail
  go_loopw [0, 1, 10] (fun u m i wr => ∃ j : Nat, j ≤ k ∧ i = .int .i64 j ∧ m = .int .u64 ((n / 256 ^ j : Nat) : Int) ∧ Held wr base u (bv (bs ++ leB n j)) ∧ Grew w v wr u) (fun _ _ i _ => k - (intOf i).toNat)
  case atStart => exact ⟨0, Nat.zero_le _, rfl, by simp, by simpa [leB] using hv, Grew.refl _ _⟩
  case round =>
    obtain ⟨j, hj, rfl, rfl, hh, hg⟩ := hrel
    have hsz := hg.grown.size
    obtain ⟨q, hq⟩ : ∃ q : Nat, q = n / 256 ^ j := ⟨_, rfl⟩
    have hqb : q < 2 ^ 64 := by rw [hq]; exact Nat.lt_of_le_of_lt (Nat.div_le_self _ _) hn
    rw [← hq]
    have HQ := Lib.hid hq
    clear hq
    by_cases hlt : j < k
    · have hL : (bv (bs ++ leB n j)).length ≤ 1000008 := by rw [bv_length, List.length_append, leB_length]; omega
      go_wp2_with (at_builtin; refine wpList_append_held rfl _ _ 86 86 rfl rfl (hh.alloc _) 5 i0 (.int .u8 0) 1 Tryd.underlying86 hi hz0 hz1 hz2 rfl _ rfl 1 [.int .u8 ((q % 256 : Nat) : Int)] ?c1 ?c2 ?c3 ?c4 ?_)
      case c1 =>
        refine Src.ofSlice _ Tryd.underlying86 _ 1 1 _ rfl ?_ ?_
        · intro i u hi
          match i, hi with
          | 0, hi => simp at hi; subst hi; simp [Addr.add]
        · intro u hu; simp at hu; subst hu; rfl
      case c2 => unfold maxLen; omega
      case c3 => omega
      case c4 => simp; omega
      · intro v1 w1 hh1 hg1
        have hg2 := hg.trans (hg1.before ((Below.refl _ _).alloc (Nat.le_refl _) _))
        have hh2 : Held w1 base v1 (bv (bs ++ leB n (j + 1))) := by
          rw [leB_snoc, ← List.append_assoc, bv_append, ← HQ.out]
          have : bv [UInt8.ofNat (q % 256)] = [.int .u8 ((q % 256 : Nat) : Int)] := by simp [bv]
          rw [this]; exact hh1
        clear hh hh1 hg1
        have hdiv : q / 256 = n / 256 ^ (j + 1) := by rw [HQ.out, Nat.div_div_eq_div_mul, Nat.pow_succ]
        have HD := Lib.hid hdiv
        clear hdiv
        go_wp2
        go_roundw
        case rel => exact ⟨j + 1, by omega, by go_num, by rw [← HD.out]; go_num, hh2, hg2⟩
        case measure => simp [intOf]; omega
    · have hjk : j = k := by omega
      have HJ := Lib.hid hjk
      clear hjk
      go_wp2
      go_ret
      refine ⟨_, rfl, ?_, hg⟩
      rw [← HJ.out]; exact hh

set_option maxHeartbeats 400000 in
theorem put_hi (w : World) (base : Nat) (v : Value) (bs : List UInt8) (n : Nat) (width : Int) (hk : 8 < width) (hn : n < 2 ^ 64) (hv : Held w base v (bv bs)) (hbase : base ≤ w.heap.size) (hlen : bs.length ≤ 1000000) :
    Calls Tryd.prog 53 #[v, .int .u64 n, .int .i64 width] w fun e w' => ∃ v', e = .returned v' ∧ Held w' base v' (bv (bs ++ leB n 8)) ∧ Grew w v w' v' := by
  obtain ⟨i0, hi, hz0, hz1, hz2⟩ := info_parts Tryd.info5
  have h1 : (0 : Int) ≤ width := by omega
  have h2 : ¬ width ≤ 8 := by omega
  go_enter Tryd.func53, Tryd.ntmps53
  go_wp2_with fail
  go_loopw [0, 1, 10] (fun u m i wr => ∃ j : Nat, j ≤ 8 ∧ i = .int .i64 j ∧ m = .int .u64 ((n / 256 ^ j : Nat) : Int) ∧ Held wr base u (bv (bs ++ leB n j)) ∧ Grew w v wr u) (fun _ _ i _ => 8 - (intOf i).toNat)
  case atStart => exact ⟨0, Nat.zero_le _, rfl, by simp, by simpa [leB] using hv, Grew.refl _ _⟩
  case round =>
    obtain ⟨j, hj, rfl, rfl, hh, hg⟩ := hrel
    have hsz := hg.grown.size
    obtain ⟨q, hq⟩ : ∃ q : Nat, q = n / 256 ^ j := ⟨_, rfl⟩
    have hqb : q < 2 ^ 64 := by rw [hq]; exact Nat.lt_of_le_of_lt (Nat.div_le_self _ _) hn
    rw [← hq]
    have HQ := Lib.hid hq
    clear hq
    by_cases hlt : j < 8
    · have hL : (bv (bs ++ leB n j)).length ≤ 1000008 := by rw [bv_length, List.length_append, leB_length]; omega
      go_wp2_with (at_builtin; refine wpList_append_held rfl _ _ 86 86 rfl rfl (hh.alloc _) 5 i0 (.int .u8 0) 1 Tryd.underlying86 hi hz0 hz1 hz2 rfl _ rfl 1 [.int .u8 ((q % 256 : Nat) : Int)] ?c1 ?c2 ?c3 ?c4 ?_)
      case c1 =>
        refine Src.ofSlice _ Tryd.underlying86 _ 1 1 _ rfl ?_ ?_
        · intro i u hi
          match i, hi with
          | 0, hi => simp at hi; subst hi; simp [Addr.add]
        · intro u hu; simp at hu; subst hu; rfl
      case c2 => unfold maxLen; omega
      case c3 => omega
      case c4 => simp; omega
      · intro v1 w1 hh1 hg1
        have hg2 := hg.trans (hg1.before ((Below.refl _ _).alloc (Nat.le_refl _) _))
        have hh2 : Held w1 base v1 (bv (bs ++ leB n (j + 1))) := by
          rw [leB_snoc, ← List.append_assoc, bv_append, ← HQ.out]
          have : bv [UInt8.ofNat (q % 256)] = [.int .u8 ((q % 256 : Nat) : Int)] := by simp [bv]
          rw [this]; exact hh1
        clear hh hh1 hg1
        have hdiv : q / 256 = n / 256 ^ (j + 1) := by rw [HQ.out, Nat.div_div_eq_div_mul, Nat.pow_succ]
        have HD := Lib.hid hdiv
        clear hdiv
        go_wp2
        go_roundw
        case rel => exact ⟨j + 1, by omega, by go_num, by rw [← HD.out]; go_num, hh2, hg2⟩
        case measure => simp [intOf]; omega
    · have hjk : j = 8 := by omega
      have HJ := Lib.hid hjk
      clear hjk
      go_wp2
      go_ret
      refine ⟨_, rfl, ?_, hg⟩
      rw [← HJ.out]; exact hh

set_option maxHeartbeats 400000 in
theorem put_lo (w : World) (base : Nat) (v : Value) (bs : List UInt8) (n : Nat) (width : Int) (hk : width < 0) (hv : Held w base v (bv bs)) :
    Calls Tryd.prog 53 #[v, .int .u64 n, .int .i64 width] w fun e w' => ∃ v', e = .returned v' ∧ Held w' base v' (bv (bs ++ leB n 0)) ∧ Grew w v w' v' := by
  have h1 : ¬ (0 : Int) ≤ width := by omega
  go_enter Tryd.func53, Tryd.ntmps53
  go_wp2_with fail
  refine wp_loop_rounds 1 ?_
  rw [rounds_succ]
  go_wp2
  go_ret
  exact ⟨_, rfl, by simpa [leB] using hv, Grew.refl _ _⟩

/-- Put, of every width. -/
theorem put_any (w : World) (base : Nat) (v : Value) (bs : List UInt8) (n : Nat) (width : Int) (hn : n < 2 ^ 64) (hv : Held w base v (bv bs)) (hbase : base ≤ w.heap.size) (hlen : bs.length ≤ 1000000) :
    Calls Tryd.prog 53 #[v, .int .u64 n, .int .i64 width] w fun e w' => ∃ v', e = .returned v' ∧ Held w' base v' (bv (bs ++ leB n (wid width))) ∧ Grew w v w' v' := by
  by_cases h0 : width < 0
  · have := put_lo w base v bs n width h0 hv
    rwa [show wid width = 0 by unfold wid; omega]
  · by_cases h8 : 8 < width
    · have := put_hi w base v bs n width h8 hn hv hbase hlen
      rwa [show wid width = 8 by unfold wid; omega]
    · obtain ⟨k, rfl⟩ : ∃ k : Nat, width = k := ⟨width.toNat, by omega⟩
      have := put_mid w base v bs n k (by omega) hn hv hbase hlen
      rwa [show wid (k : Int) = k by unfold wid; omega]
end Go.Proofs.YtnbdpalbompjlaaDoor
