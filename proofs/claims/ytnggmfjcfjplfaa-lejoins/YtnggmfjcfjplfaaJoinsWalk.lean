/-
  The walk of LeJoins.
-/
import Derived.Test.YtnggmfjcfjplfaaAlive
import Derived.OpenShut
import Derived.Deep.RegionWith
namespace Go.Proofs.Ytnggmfjcfjplfaa
open Go.RowKit

theorem size_extract (s : ByteArray) (i j : Nat) (h : j ≤ s.size) : (s.extract i j).size = j - i := by simp; omega

theorem data_size (s : ByteArray) : s.data.size = s.size := rfl

theorem rdOk_nat (s : ByteArray) (n : Nat) : rdOk s (n : Int) = decide (n ≤ s.size) := by
  unfold rdOk; simp

/-- Too many asked for, in two steps. -/
theorem rd_long (s : ByteArray) (a b : Nat) (h : s.size < a + b) :
    rdOut (rdLeft s a) b = ByteArray.empty ∧ rdLeft (rdLeft s a) b = ByteArray.empty ∧ rdShort (rdLeft s a) (rdShort s false a) b = true := by
  by_cases ha : a ≤ s.size
  · have h1 : rdOk s (a : Int) = true := by rw [rdOk_nat]; simpa using ha
    have h2 : (rdLeft s a).size = s.size - a := by simp [rdLeft, h1]
    have h3 : rdOk (rdLeft s a) (b : Int) = false := by rw [rdOk_nat, h2]; simp; omega
    generalize rdLeft s a = L at h3 ⊢
    simp [rdOut, rdShort, rdLeft, h3]
  · have h1 : rdOk s (a : Int) = false := by rw [rdOk_nat]; simpa using ha
    have h2 : rdLeft s a = ByteArray.empty := by simp [rdLeft, h1]
    have h3 : rdShort s false a = true := by simp [rdShort, h1]
    rw [h2, h3]
    by_cases hb : b = 0
    · subst hb; decide
    · have h4 : rdOk ByteArray.empty (b : Int) = false := by rw [rdOk_nat]; simp; omega
      simp [rdOut, rdLeft, rdShort, h4]

theorem rd_long1 (s : ByteArray) (a : Nat) (h : s.size < a) : rdOut s a = ByteArray.empty ∧ rdLeft s a = ByteArray.empty ∧ rdShort s false a = true := by
  have h1 : rdOk s (a : Int) = false := by rw [rdOk_nat]; simp; omega
  simp [rdOut, rdLeft, rdShort, h1]

theorem rd_fit (s : ByteArray) (sh : Bool) (a : Nat) (h : a ≤ s.size) : rdOut s a = s.extract 0 a ∧ rdLeft s a = s.extract a s.size ∧ rdShort s sh a = sh := by
  have h1 : rdOk s (a : Int) = true := by rw [rdOk_nat]; simpa using h
  simp [rdOut, rdLeft, rdShort, h1]

theorem extract_two (s : ByteArray) (a b : Nat) (h : a + b ≤ s.size) : s.extract 0 a ++ (s.extract a s.size).extract 0 b = s.extract 0 (a + b) := by
  apply ByteArray.ext
  apply Array.ext'
  simp [ByteArray.data_append, ByteArray.data_extract]
  omega

theorem extract_two_left (s : ByteArray) (a b : Nat) (h : a + b ≤ s.size) : (s.extract a s.size).extract b (s.extract a s.size).size = s.extract (a + b) s.size := by
  apply ByteArray.ext
  apply Array.ext'
  simp [ByteArray.data_extract]
  omega

theorem rdLeft_max (s : ByteArray) (n : Int) (h : s.size ≤ maxLen) : (rdLeft s n).size ≤ maxLen := by
  unfold rdLeft
  split
  · simp; omega
  · simp

set_option maxHeartbeats 400000 in
theorem joins_long (w : World) (s : ByteArray) (a b : Nat) (hs : s.size ≤ 1000) (ha : a ≤ 1000) (hb : b ≤ 1000) (h : s.size < a + b) :
    Calls Try.prog 6 #[.string s, .int .i64 a, .int .i64 b] w fun e w' => e = .returned (.bool true) ∧ Below w.heap.size w w' := by
  have hm : s.size ≤ maxLen := by unfold maxLen; omega
  have c0 : ¬ ((1000 : Int) < (s.size : Int)) := by omega
  have c1 : ¬ ((a : Int) < 0) := by omega
  have c2 : ¬ ((b : Int) < 0) := by omega
  have c3 : ¬ ((1000 : Int) < (a : Int)) := by omega
  have c4 : ¬ ((1000 : Int) < (b : Int)) := by omega
  have c5 : (s.size : Int) < (a : Int) + (b : Int) := by omega
  go_enter Try.func6, Try.ntmps6
  go_wp2_with fail
  refine (alive_any w).mono ?_
  rintro e w1 ⟨rfl, hb1⟩
  go_wp2_with fail
  refine (from_new w1 s).mono ?_
  rintro e w2 ⟨r, rfl, hr, hr2, hb2⟩
  go_wp2_with fail
  refine (from_new w2 s).mono ?_
  rintro e w3 ⟨q, rfl, hq, hq3, hb3⟩
  have hr3 := hr2.below hb3
  have hlt := hr2.lt
  have hrq : r ≠ q := by omega
  have s1 := hb1.size
  have s2 := hb2.size
  have s3 := hb3.size
  have bel3 : Below w.heap.size w w3 := (hb1.trans (hb2.mono s1)).trans (hb3.mono (by omega))
  have hrw : w.heap.size ≤ r := by omega
  have hqw : w.heap.size ≤ q := by omega
  clear hr2 hb1 hb2 hb3 s1 s2 s3 hlt hr hq
  go_wp2_with fail
  refine (bytes_any w3 r s false a hr3 hm).mono ?_
  rintro e w4 ⟨rfl, hr4, hg4⟩
  have hq4 := hq3.grown hg4 (by simp; omega)
  have z3 := bel3.size
  have bel4 := bel3.trans (below_of_grown hg4 z3 hrw)
  clear hr3 hq3 hg4 bel3 z3
  go_wp2_with fail
  refine (bytes_any w4 r _ _ b hr4 (by exact rdLeft_max s a hm)).mono ?_
  rintro e w5 ⟨rfl, hr5, hg5⟩
  have hq5 := hq4.grown hg5 (by simp; omega)
  have z4 := bel4.size
  have bel5 := bel4.trans (below_of_grown hg5 z4 hrw)
  obtain ⟨l1, l2, l3⟩ := rd_long s a b h
  rw [l2, l3] at hr5
  rw [l1]
  clear hr4 hq4 hg5 bel4 z4 l1 l2 l3
  go_wp2_with fail
  obtain ⟨m1, m2, m3⟩ := rd_long1 s (a + b) h
  rw [show ((a : Int) + (b : Int)) = ((a + b : Nat) : Int) by omega]
  refine (bytes_any w5 q s false ((a + b : Nat) : Int) hq5 hm).mono ?_
  rintro e w6 ⟨rfl, hq6, hg6⟩
  have hr6 := hr5.grown hg6 (by simp; omega)
  have z5 := bel5.size
  have bel6 := bel5.trans (below_of_grown hg6 z5 hqw)
  rw [m2, m3] at hq6
  rw [m1]
  clear hr5 hq5 hg6 bel5 z5 m1 m2 m3
  go_wp2_with (first
    | (go_at_call_of 13 (Value.pointer (some ⟨r, 0, none⟩)); refine (left_any w6 r _ _ hr6).mono ?_; rintro e w7 ⟨rfl, rfl⟩)
    | (go_at_call_of 13 (Value.pointer (some ⟨q, 0, none⟩)); refine (left_any w6 q _ _ hq6).mono ?_; rintro e w7 ⟨rfl, rfl⟩)
    | (go_at_call_of 14 (Value.pointer (some ⟨r, 0, none⟩)); refine (end_any w6 r _ _ hr6).mono ?_; rintro e w7 ⟨rfl, rfl⟩)
    | (go_at_call_of 14 (Value.pointer (some ⟨q, 0, none⟩)); refine (end_any w6 q _ _ hq6).mono ?_; rintro e w7 ⟨rfl, rfl⟩))
  go_ret
  exact ⟨rfl, bel6⟩
set_option maxHeartbeats 400000 in
theorem joins_fit (w : World) (s : ByteArray) (a b : Nat) (hs : s.size ≤ 1000) (ha : a ≤ 1000) (hb : b ≤ 1000) (h : a + b ≤ s.size) :
    Calls Try.prog 6 #[.string s, .int .i64 a, .int .i64 b] w fun e w' => e = .returned (.bool true) ∧ Below w.heap.size w w' := by
  have hm : s.size ≤ maxLen := by unfold maxLen; omega
  have c0 : ¬ ((1000 : Int) < (s.size : Int)) := by omega
  have c1 : ¬ ((a : Int) < 0) := by omega
  have c2 : ¬ ((b : Int) < 0) := by omega
  have c3 : ¬ ((1000 : Int) < (a : Int)) := by omega
  have c4 : ¬ ((1000 : Int) < (b : Int)) := by omega
  have c5 : ¬ ((s.size : Int) < (a : Int) + (b : Int)) := by omega
  go_enter Try.func6, Try.ntmps6
  go_wp2_with fail
  refine (alive_any w).mono ?_
  rintro e w1 ⟨rfl, hb1⟩
  go_wp2_with fail
  refine (from_new w1 s).mono ?_
  rintro e w2 ⟨r, rfl, hr, hr2, hb2⟩
  go_wp2_with fail
  refine (from_new w2 s).mono ?_
  rintro e w3 ⟨q, rfl, hq, hq3, hb3⟩
  have hr3 := hr2.below hb3
  have hlt := hr2.lt
  have hrq : r ≠ q := by omega
  have s1 := hb1.size
  have s2 := hb2.size
  have s3 := hb3.size
  have bel3 : Below w.heap.size w w3 := (hb1.trans (hb2.mono s1)).trans (hb3.mono (by omega))
  have hrw : w.heap.size ≤ r := by omega
  have hqw : w.heap.size ≤ q := by omega
  clear hr2 hb1 hb2 hb3 s1 s2 s3 hlt hr hq
  go_wp2_with fail
  refine (bytes_any w3 r s false a hr3 hm).mono ?_
  rintro e w4 ⟨rfl, hr4, hg4⟩
  have hq4 := hq3.grown hg4 (by simp; omega)
  have z3 := bel3.size
  have bel4 := bel3.trans (below_of_grown hg4 z3 hrw)
  obtain ⟨X, hX⟩ : ∃ X, X = s.extract 0 a := ⟨_, rfl⟩
  rw [(rd_fit s false a (by omega)).1, ← hX]
  have HX := Lib.hid hX
  clear hr3 hq3 hg4 bel3 z3 hX
  go_wp2_with fail
  refine (bytes_any w4 r _ _ b hr4 (by exact rdLeft_max s a hm)).mono ?_
  rintro e w5 ⟨rfl, hr5, hg5⟩
  have hq5 := hq4.grown hg5 (by simp; omega)
  have z4 := bel4.size
  have bel5 := bel4.trans (below_of_grown hg5 z4 hrw)
  obtain ⟨k1, k2, k3⟩ := rd_fit s false a (by omega)
  obtain ⟨l1, l2, l3⟩ := rd_fit (s.extract a s.size) false b (by simp; omega)
  rw [k2, k3, l2, l3, extract_two_left s a b h] at hr5
  rw [k2, l1]
  obtain ⟨Y, hY⟩ : ∃ Y, Y = (s.extract a s.size).extract 0 b := ⟨_, rfl⟩
  rw [← hY]
  have HY := Lib.hid hY
  clear hr4 hq4 hg5 bel4 z4 k1 k2 k3 l1 l2 l3 hY
  go_wp2_with fail
  obtain ⟨m1, m2, m3⟩ := rd_fit s false (a + b) h
  rw [show ((a : Int) + (b : Int)) = ((a + b : Nat) : Int) by omega]
  refine (bytes_any w5 q s false ((a + b : Nat) : Int) hq5 hm).mono ?_
  rintro e w6 ⟨rfl, hq6, hg6⟩
  have hr6 := hr5.grown hg6 (by simp; omega)
  have z5 := bel5.size
  have bel6 := bel5.trans (below_of_grown hg6 z5 hqw)
  rw [m2, m3] at hq6
  obtain ⟨Z, hZ⟩ : ∃ Z, Z = s.extract 0 (a + b) := ⟨_, rfl⟩
  rw [m1, ← hZ]
  have t1 : ((X ++ Y).toList == Z.toList) = true := by rw [HX.out, HY.out, hZ, extract_two s a b h]; exact beq_self_eq_true _
  have t2 : (Z.toList == (s.extract 0 (a + b)).toList) = true := by rw [hZ]; exact beq_self_eq_true _
  have b1 : X.size ≤ 1000 := by rw [HX.out]; simp; omega
  have b2 : Y.size ≤ 1000 := by rw [HY.out]; simp; omega
  generalize s.extract (a + b) s.size = L at hr6 hq6
  clear hr5 hq5 hg6 bel5 z5 m1 m2 m3 hZ HX HY
  go_wp2_with (first
    | (go_at_call_of 13 (Value.pointer (some ⟨r, 0, none⟩)); refine (left_any w6 r _ _ hr6).mono ?_; rintro e w7 ⟨rfl, rfl⟩)
    | (go_at_call_of 13 (Value.pointer (some ⟨q, 0, none⟩)); refine (left_any w6 q _ _ hq6).mono ?_; rintro e w7 ⟨rfl, rfl⟩)
    | (go_at_call_of 14 (Value.pointer (some ⟨r, 0, none⟩)); refine (end_any w6 r _ _ hr6).mono ?_; rintro e w7 ⟨rfl, rfl⟩)
    | (go_at_call_of 14 (Value.pointer (some ⟨q, 0, none⟩)); refine (end_any w6 q _ _ hq6).mono ?_; rintro e w7 ⟨rfl, rfl⟩))
  go_ret
  exact ⟨rfl, bel6⟩
set_option maxHeartbeats 400000 in
theorem joins_out (w : World) (s : ByteArray) (a b : Int) (h : (1000 : Int) < s.size ∨ a < 0 ∨ b < 0 ∨ 1000 < a ∨ 1000 < b) :
    Calls Try.prog 6 #[.string s, .int .i64 a, .int .i64 b] w fun e w' => e = .returned (.bool true) ∧ Below w.heap.size w w' := by
  by_cases c0 : (1000 : Int) < (s.size : Int)
  · go_enter Try.func6, Try.ntmps6
    go_wp2_with (go_at_call 8; refine (alive_any w).mono ?_; rintro e w1 ⟨rfl, hb1⟩)
    go_ret
    exact ⟨rfl, hb1⟩
  · by_cases c1 : a < 0
    · go_enter Try.func6, Try.ntmps6
      go_wp2_with (go_at_call 8; refine (alive_any w).mono ?_; rintro e w1 ⟨rfl, hb1⟩)
      go_ret
      exact ⟨rfl, hb1⟩
    · by_cases c2 : b < 0
      · go_enter Try.func6, Try.ntmps6
        go_wp2_with (go_at_call 8; refine (alive_any w).mono ?_; rintro e w1 ⟨rfl, hb1⟩)
        go_ret
        exact ⟨rfl, hb1⟩
      · by_cases c3 : 1000 < a
        · go_enter Try.func6, Try.ntmps6
          go_wp2_with (go_at_call 8; refine (alive_any w).mono ?_; rintro e w1 ⟨rfl, hb1⟩)
          go_ret
          exact ⟨rfl, hb1⟩
        · have c4 : 1000 < b := by omega
          go_enter Try.func6, Try.ntmps6
          go_wp2_with (go_at_call 8; refine (alive_any w).mono ?_; rintro e w1 ⟨rfl, hb1⟩)
          go_ret
          exact ⟨rfl, hb1⟩

theorem joins_any (w : World) (s : ByteArray) (a b : Int) :
    Calls Try.prog 6 #[.string s, .int .i64 a, .int .i64 b] w fun e w' => e = .returned (.bool true) ∧ Below w.heap.size w w' := by
  by_cases h : (1000 : Int) < s.size ∨ a < 0 ∨ b < 0 ∨ 1000 < a ∨ 1000 < b
  · exact joins_out w s a b h
  · obtain ⟨a', rfl⟩ : ∃ k : Nat, a = k := ⟨a.toNat, by omega⟩
    obtain ⟨b', rfl⟩ : ∃ k : Nat, b = k := ⟨b.toNat, by omega⟩
    by_cases hl : s.size < a' + b'
    · exact joins_long w s a' b' (by omega) (by omega) (by omega) hl
    · exact joins_fit w s a' b' (by omega) (by omega) (by omega) (by omega)

end Go.Proofs.Ytnggmfjcfjplfaa
