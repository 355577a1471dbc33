/-
  MacIs, of all arguments.
-/
import Derived.Test.YtmkdcpnnnlihfaaDoorIsWalk4
namespace Go.Proofs.YtmkdcpnnnlihfaaDoor
open Go.RowKit

set_option maxHeartbeats 2000000 in
theorem is_out (w : World) (k s : List UInt8) (cut : Int) (hT : Tabs w) (h : 200 < k.length ∨ 200 < s.length) :
    Calls Tryd.prog 3 #[.string ⟨k.toArray⟩, .string ⟨s.toArray⟩, .int .i64 cut] w fun e w' => e = .returned (.bool true) ∧ Below w.heap.size w w' := by
  obtain ⟨SK, hSK⟩ : ∃ S : ByteArray, S = ⟨k.toArray⟩ := ⟨_, rfl⟩
  obtain ⟨SS, hSS⟩ : ∃ S : ByteArray, S = ⟨s.toArray⟩ := ⟨_, rfl⟩
  rw [← hSK, ← hSS]
  have zK : SK.size = k.length := by rw [hSK]; simp [ByteArray.size]
  have zS : SS.size = s.length := by rw [hSS]; simp [ByteArray.size]
  have HT := Lib.hid hT
  clear hSK hSS hT
  go_enter Tryd.func3, Tryd.ntmps3
  go_wp2_with fail
  refine (alive_any w HT.out).mono ?_
  rintro e w1 ⟨rfl, hb1⟩
  have HB1 := Lib.hid hb1
  clear hb1
  by_cases h1 : (200 : Int) < (k.length : Int)
  · go_wp2_with fail
    go_ret
    exact ⟨rfl, HB1.out⟩
  have h2 : (200 : Int) < (s.length : Int) := by omega
  go_wp2_with fail
  go_ret
  exact ⟨rfl, HB1.out⟩

theorem is_all (w : World) (a b : ByteArray) (m : Int) (hT : Tabs w) : Calls Tryd.prog 3 #[.string a, .string b, .int .i64 m] w fun e w' => e = .returned (.bool true) ∧ Below w.heap.size w w' := by
  have ha : a = ⟨a.data.toList.toArray⟩ := by cases a; simp
  have hb : b = ⟨b.data.toList.toArray⟩ := by cases b; simp
  rw [ha, hb]
  generalize a.data.toList = k
  generalize b.data.toList = s
  by_cases h : 200 < k.length ∨ 200 < s.length
  · exact is_out w k s m hT h
  · by_cases h1 : m < 0
    · exact is_in w k s m 0 hT (by omega) (by omega) (by omega) (.inl ⟨h1, rfl⟩)
    · by_cases h2 : (s.length : Int) < m
      · exact is_in w k s m s.length hT (by omega) (by omega) (by omega) (.inr (.inr ⟨h2, rfl⟩))
      · exact is_in w k s m m.toNat hT (by omega) (by omega) (by omega) (.inr (.inl ⟨by omega, by omega, by omega⟩))
end Go.Proofs.YtmkdcpnnnlihfaaDoor
