/-
  The walk of MacKeys.
-/
import Derived.Test.YtmkdcpnnnlihfaaDoorAlive4
namespace Go.Proofs.YtmkdcpnnnlihfaaDoor
open Go.RowKit

theorem tag_eq (w : World) (r s : List UInt8) (hr : r.length = 16) (hs : s.length = 16) : (Op.equalIn 10000 24 (.agg (bv r).toArray) (.agg (bv s).toArray)).run Tryd.prog w = .ok (r == s) w :=
  run_equalIn_bytes w 9998 24 5 16 Tryd.underlying24 Tryd.underlying5 sizeOf5 r s hr hs

theorem macOf_one (w : World) (k s : List UInt8) (hT : Tabs w) (hk : k.length ≤ 100000) (hs : s.length ≤ 100000) :
    Calls Tryd.prog 8 #[.string ⟨k.toArray⟩, .slice (some ⟨w.heap.size, 0, none⟩) 1 1] (w.alloc (.cells #[.string ⟨s.toArray⟩] 9)) fun e w' => e = .returned (.agg (bv (tag k s)).toArray) ∧ Below w.heap.size w w' := by
  have hb : Below w.heap.size w (w.alloc (.cells #[.string ⟨s.toArray⟩] 9)) := (Below.refl _ _).alloc (Nat.le_refl _) _
  refine (macOf_any _ k _ 1 1 w.heap.size 0 [s] (hT.below hb hT.size) hk rfl (by omega) (str_one w s) (by simpa using hs)).mono fun e w' ⟨h1, h2⟩ => ⟨?_, hb.trans (h2.mono hb.size)⟩
  rw [h1]
  simp

/-- A key, filled up with bytes 0. -/
def zeros (k : List UInt8) (n : Nat) : List UInt8 := k ++ List.replicate n 0
theorem zeros_length (k : List UInt8) (n : Nat) : (zeros k n).length = k.length + n := by simp [zeros]
theorem zeros_succ (k : List UInt8) (n : Nat) : zeros k n ++ [0] = zeros k (n + 1) := by simp [zeros, List.replicate_succ']
theorem tag_zeros (k s : List UInt8) (n : Nat) (h : k.length + n ≤ 64) : tag (zeros k n) s = tag k s := by
  have : fillK (zeros k n) = fillK k := by
    rw [fillK, fillK, keyB, keyB, if_neg (by rw [zeros_length]; omega), if_neg (by omega), zeros, List.append_assoc, List.replicate_append_replicate]
    simp
    omega
  rw [tag, tag, outer, outer, inner, inner, this]

def KeyRel (w : World) (k : List UInt8) (m : Nat) (v x : Value) (wr : World) : Prop :=
  ∃ i : Nat, x = .int .i64 (i : Int) ∧ i ≤ m ∧ v = .string ⟨(zeros k i).toArray⟩ ∧ Below w.heap.size w wr

set_option maxHeartbeats 2000000 in
theorem keys_in (w : World) (k s : List UInt8) (m : Nat) (hT : Tabs w) (hs : s.length ≤ 200) (hm : m ≤ 64) (hk : k.length + m ≤ 64) :
    Calls Tryd.prog 5 #[.string ⟨k.toArray⟩, .int .i64 m, .string ⟨s.toArray⟩] w fun e w' => e = .returned (.bool true) ∧ Below w.heap.size w w' := by
  obtain ⟨SK, hSK⟩ : ∃ S : ByteArray, S = ⟨k.toArray⟩ := ⟨_, rfl⟩
  obtain ⟨SS, hSS⟩ : ∃ S : ByteArray, S = ⟨s.toArray⟩ := ⟨_, rfl⟩
  rw [← hSK, ← hSS]
  have zK : SK.size = k.length := by rw [hSK]; simp [ByteArray.size]
  have zS : SS.size = s.length := by rw [hSS]; simp [ByteArray.size]
  have c1 : ¬ ((200 : Int) < (s.length : Int)) := by omega
  have c2 : ¬ ((m : Int) < 0) := by omega
  have c3 : ¬ ((64 : Int) < (m : Int)) := by omega
  have c4 : ¬ ((64 : Int) < (k.length : Int) + (m : Int)) := by omega
  have HSK := Lib.hid hSK
  have HSS := Lib.hid hSS
  have HT := Lib.hid hT
  clear hSK hSS hT
  go_enter Tryd.func5, Tryd.ntmps5
  go_wp2_with fail
  refine (alive_any w HT.out).mono ?_
  rintro e w1 ⟨rfl, hb1⟩
  have HB1 := Lib.hid hb1
  clear hb1
  go_wp2_with fail
  go_loopw [7, 8] (fun v x wr => KeyRel w k m v x wr) (fun _ x _ => m - intN x)
  case atStart => exact ⟨0, rfl, by omega, by rw [HSK.out]; simp [zeros], HB1.out⟩
  case round =>
    clear HB1
    obtain ⟨i, rfl, hi, rfl, hB⟩ := hrel
    obtain ⟨Z, hZ⟩ : ∃ Z : ByteArray, Z = ⟨(zeros k i).toArray⟩ := ⟨_, rfl⟩
    rw [← hZ]
    have zZ : Z.size = k.length + i := by rw [hZ]; simp [ByteArray.size, zeros_length]
    by_cases hlt : i < m
    · have d0 : (i : Int) < (m : Int) := by omega
      have HN := Lib.hid (show Z ++ ⟨#[0]⟩ = ⟨(zeros k (i + 1)).toArray⟩ by rw [hZ, ← zeros_succ]; apply ByteArray.ext; simp)
      have HB := Lib.hid hB
      clear hZ hB
      go_wp2_with fail
      refine ⟨⟨i + 1, by simp, by omega, by rw [HN.out], HB.out⟩, ?_⟩
      simp only [intN]
      omega
    · obtain rfl : i = m := by omega
      have HZ := Lib.hid hZ
      have h1 := macOf_one wr k s (HT.out.below hB HT.out.size) (by omega) (by omega)
      rw [← HSK.out, ← HSS.out] at h1
      have H1 := Lib.hid h1
      have HB := Lib.hid hB
      clear hB h1 hZ
      go_wp2_with fail
      refine H1.out.mono ?_
      rintro e w2 ⟨rfl, hb2⟩
      have HB2 := Lib.hid (HB.out.trans (hb2.mono HB.out.size))
      have h1 := macOf_one w2 (zeros k i) s (HT.out.below HB2.out HT.out.size) (by rw [zeros_length]; omega) (by omega)
      rw [← HZ.out, ← HSS.out, tag_zeros k s i hk] at h1
      have H2 := Lib.hid h1
      clear hb2 h1 H1 HB
      go_wp2_with fail
      refine H2.out.mono ?_
      rintro e w3 ⟨rfl, hb3⟩
      have HB3 := Lib.hid (HB2.out.trans (hb3.mono HB2.out.size))
      have heq := tag_eq w3 (tag k s) (tag k s) (tag_length _ _) (tag_length _ _)
      simp only [BEq.rfl] at heq
      clear hb3 H2 HB2
      go_wp2_with fail
      go_ret
      exact ⟨rfl, HB3.out⟩

set_option maxHeartbeats 2000000 in
theorem keys_out (w : World) (k s : List UInt8) (m : Int) (hT : Tabs w) (hk : k.length ≤ 140737488351232) (h : 200 < s.length ∨ m < 0 ∨ 64 < m ∨ 64 < (k.length : Int) + m) :
    Calls Tryd.prog 5 #[.string ⟨k.toArray⟩, .int .i64 m, .string ⟨s.toArray⟩] w fun e w' => e = .returned (.bool true) ∧ Below w.heap.size w w' := by
  obtain ⟨SK, hSK⟩ : ∃ S : ByteArray, S = ⟨k.toArray⟩ := ⟨_, rfl⟩
  obtain ⟨SS, hSS⟩ : ∃ S : ByteArray, S = ⟨s.toArray⟩ := ⟨_, rfl⟩
  rw [← hSK, ← hSS]
  have zK : SK.size = k.length := by rw [hSK]; simp [ByteArray.size]
  have zS : SS.size = s.length := by rw [hSS]; simp [ByteArray.size]
  have HT := Lib.hid hT
  clear hSK hSS hT
  go_enter Tryd.func5, Tryd.ntmps5
  go_wp2_with fail
  refine (alive_any w HT.out).mono ?_
  rintro e w1 ⟨rfl, hb1⟩
  have HB1 := Lib.hid hb1
  clear hb1
  by_cases h1 : (200 : Int) < (s.length : Int)
  · go_wp2_with fail
    go_ret
    exact ⟨rfl, HB1.out⟩
  by_cases h2 : m < 0
  · go_wp2_with fail
    go_ret
    exact ⟨rfl, HB1.out⟩
  by_cases h3 : 64 < m
  · go_wp2_with fail
    go_ret
    exact ⟨rfl, HB1.out⟩
  have h4 : 64 < (k.length : Int) + m := by omega
  go_wp2_with fail
  go_ret
  exact ⟨rfl, HB1.out⟩

theorem keys_all (w : World) (a b : ByteArray) (m : Int) (hT : Tabs w) (hk : a.size ≤ 140737488351232) : Calls Tryd.prog 5 #[.string a, .int .i64 m, .string b] w fun e w' => e = .returned (.bool true) ∧ Below w.heap.size w w' := by
  have ha : a = ⟨a.data.toList.toArray⟩ := by cases a; simp
  have hb : b = ⟨b.data.toList.toArray⟩ := by cases b; simp
  rw [ha, hb]
  by_cases h : 200 < b.data.toList.length ∨ m < 0 ∨ 64 < m ∨ 64 < (a.data.toList.length : Int) + m
  · exact keys_out w _ _ m hT (by rw [Array.length_toList]; exact hk) h
  · have hh : b.data.toList.length ≤ 200 ∧ 0 ≤ m ∧ m ≤ 64 ∧ (a.data.toList.length : Int) + m ≤ 64 := by omega
    obtain ⟨n, rfl⟩ : ∃ n : Nat, m = (n : Int) := ⟨m.toNat, by omega⟩
    exact keys_in w _ _ n hT hh.1 (by omega) (by omega)
end Go.Proofs.YtmkdcpnnnlihfaaDoor
