/-
  BitlistIs: where a text or a row is longer than the law speaks of; and all inputs together.
-/
import Derived.Test.YtllpgpbonmcbjaaIsWalk
namespace Go.Proofs.Ytllpgpbonmcbjaa
open Go.RowKit

set_option maxHeartbeats 1000000 in
theorem is_out (w : World) (s0 : ByteArray) (ao : Option Addr) (n cap : Nat) (s : ByteArray) (most : Int) (h : 100 < s0.size ∨ 500 < n ∨ 100 < s.size) :
    Calls Try.prog 3 #[.string s0, .slice ao n cap, .string s, .int .i64 most] w fun e w' => e = .returned (.bool true) ∧ Below w.heap.size w w' := by
  by_cases c0 : (100 : Int) < (s0.size : Int)
  · go_enter Try.func3, Try.ntmps3
    go_wp2_with fail
    refine (alive_any w).mono ?_
    rintro e w1 ⟨rfl, hb1⟩
    go_wp2
    go_ret
    exact ⟨rfl, hb1⟩
  · by_cases c1 : (500 : Int) < (n : Int)
    · go_enter Try.func3, Try.ntmps3
      go_wp2_with fail
      refine (alive_any w).mono ?_
      rintro e w1 ⟨rfl, hb1⟩
      go_wp2
      go_ret
      exact ⟨rfl, hb1⟩
    · have c2 : (100 : Int) < (s.size : Int) := by omega
      go_enter Try.func3, Try.ntmps3
      go_wp2_with fail
      refine (alive_any w).mono ?_
      rintro e w1 ⟨rfl, hb1⟩
      go_wp2
      go_ret
      exact ⟨rfl, hb1⟩

theorem is_all (w : World) (s0 : ByteArray) (ao : Option Addr) (n cap : Nat) (l : List Bool) (s : ByteArray) (most : Int) (hn : l.length = n) (hu : Row w w.heap.size (.slice ao n cap) l) :
    Calls Try.prog 3 #[.string s0, .slice ao n cap, .string s, .int .i64 most] w fun e w' => e = .returned (.bool true) ∧ Below w.heap.size w w' := by
  by_cases h : 100 < s0.size ∨ 500 < n ∨ 100 < s.size
  · exact is_out w s0 ao n cap s most h
  · exact is_in w s0 ao n cap l s most hn hu (by omega) (by omega) (by omega)

end Go.Proofs.Ytllpgpbonmcbjaa
