/-
  MacPairs, of all arguments.
-/
import Derived.Test.YtmkdcpnnnlihfaaDoorPairsWalk
namespace Go.Proofs.YtmkdcpnnnlihfaaDoor
open Go.RowKit

set_option maxHeartbeats 2000000 in
theorem pairs_out (w : World) (ao bo : Option Addr) (n m cap dap : Nat) (hT : Tabs w) (h : 50 < n ∨ 50 < m) :
    Calls Tryd.prog 6 #[.slice ao n cap, .slice bo m dap] w fun e w' => e = .returned (.bool true) ∧ Below w.heap.size w w' := by
  have HT := Lib.hid hT
  clear hT
  go_enter Tryd.func6, Tryd.ntmps6
  go_wp2_with fail
  refine (alive_any w HT.out).mono ?_
  rintro e w2 ⟨rfl, hb2⟩
  have HB2 := Lib.hid hb2
  clear hb2
  by_cases h1 : (50 : Int) < (n : Int)
  · go_wp2_with fail
    go_ret
    exact ⟨rfl, HB2.out⟩
  have h3 : (50 : Int) < (m : Int) := by omega
  go_wp2_with fail
  go_ret
  exact ⟨rfl, HB2.out⟩

theorem pairs_all (w : World) (ao bo : Option Addr) (n m cap dap b c off pff : Nat) (ta tb : List (List UInt8)) (hT : Tabs w) (has : Tags ta) (hbs : Tags tb) (hn : ta.length = n) (hm : tb.length = m) (hs : Lies w w.heap.size ao b off (tv ta)) (hs2 : Lies w w.heap.size bo c pff (tv tb)) :
    Calls Tryd.prog 6 #[.slice ao n cap, .slice bo m dap] w fun e w' => e = .returned (.bool true) ∧ Below w.heap.size w w' := by
  by_cases h : 50 < n ∨ 50 < m
  · exact pairs_out w ao bo n m cap dap hT h
  · exact pairs_in w ao bo n m cap dap b c off pff ta tb hT has hbs hn hm (by omega) (by omega) hs hs2
end Go.Proofs.YtmkdcpnnnlihfaaDoor
