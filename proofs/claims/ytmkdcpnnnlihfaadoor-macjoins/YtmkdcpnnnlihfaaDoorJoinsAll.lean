/-
  MacJoins, of all arguments.
-/
import Derived.Test.YtmkdcpnnnlihfaaDoorJoinsWalk
namespace Go.Proofs.YtmkdcpnnnlihfaaDoor
open Go.RowKit

set_option maxHeartbeats 2000000 in
theorem joins_out (w : World) (ao : Option Addr) (n cap : Nat) (m : Int) (t : List UInt8) (hT : Tabs w) (h : 100 < n ∨ m < 0 ∨ (n : Int) < m) :
    Calls Tryd.prog 4 #[.slice ao n cap, .int .i64 m, .agg (bv t).toArray] w fun e w' => e = .returned (.bool true) ∧ Below w.heap.size w w' := by
  have hB0 : Below w.heap.size w (w.alloc (.cells (bv t).toArray 24)) := (Below.refl _ _).alloc (Nat.le_refl _) _
  have HB0 := Lib.hid hB0
  have HT := Lib.hid hT
  clear hT hB0
  go_enter Tryd.func4, Tryd.ntmps4
  go_wp2_with fail
  generalize w.alloc (.cells (bv t).toArray 24) = w1 at HB0 ⊢
  refine (alive_any w1 (HT.out.below HB0.out HT.out.size)).mono ?_
  rintro e w2 ⟨rfl, hb2⟩
  have HB2 := Lib.hid (HB0.out.trans (hb2.mono HB0.out.size))
  clear hb2 HB0
  by_cases h1 : (100 : Int) < (n : Int)
  · go_wp2_with fail
    go_ret
    exact ⟨rfl, HB2.out⟩
  by_cases h2 : m < 0
  · go_wp2_with fail
    go_ret
    exact ⟨rfl, HB2.out⟩
  have h3 : (n : Int) < m := by omega
  go_wp2_with fail
  go_ret
  exact ⟨rfl, HB2.out⟩

theorem joins_all (w : World) (ao : Option Addr) (n cap b off : Nat) (m : Int) (ts : List (List UInt8)) (t : List UInt8) (hT : Tabs w) (hts : Tags ts) (hn : ts.length = n) (hcap : n ≤ cap) (htl : t.length = 16) (hs : Lies w w.heap.size ao b off (tv ts)) :
    Calls Tryd.prog 4 #[.slice ao n cap, .int .i64 m, .agg (bv t).toArray] w fun e w' => e = .returned (.bool true) ∧ Below w.heap.size w w' := by
  by_cases h : 100 < n ∨ m < 0 ∨ (n : Int) < m
  · exact joins_out w ao n cap m t hT h
  · obtain ⟨i, rfl⟩ : ∃ i : Nat, m = (i : Int) := ⟨m.toNat, by omega⟩
    exact joins_in w ao n cap b off i ts t hT hts hn (by omega) hcap (by omega) htl hs
end Go.Proofs.YtmkdcpnnnlihfaaDoor
