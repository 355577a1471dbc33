/-
  A digest that came in, opened; what the two listed tables hold.
-/
import Derived.Test.YtnbdpalbompjlaaDoorM6
import Derived.ProofKit
import Derived.LaidMore
import Derived.OpenShut
import Derived.ShutString
import Derived.ChangeOld
import Derived.Stop.Joined
import Derived.Lib.LaidTab
namespace Go.Proofs.YtnbdpalbompjlaaDoor
open Go.ChangeShapes Go.WideShapes Go.ChangeAt Go.RowKit
set_option maxRecDepth 10000

theorem Tryd.own : ownKnob Tryd.prog.godebug = none := by kernel_rfl
theorem Tryd.laidOut : laidOutB Tryd.prog = true := by kernel_rfl
theorem Tryd.cells5 : Tryd.prog.cellsOf 5 = 1 := by kernel_rfl
theorem Tryd.cells92 : Tryd.prog.cellsOf 92 = 1 := by kernel_rfl
theorem Tryd.cells93 : Tryd.prog.cellsOf 93 = 8 := by kernel_rfl
theorem Tryd.cells97 : Tryd.prog.cellsOf 97 = 64 := by kernel_rfl
theorem Tryd.cells26 : Tryd.prog.cellsOf 26 = 32 := by kernel_rfl
theorem Tryd.gFirst : Tryd.prog.globalNamed "toller/sha.first" = some 0 := by kernel_rfl
theorem Tryd.gAdded : Tryd.prog.globalNamed "toller/sha.added" = some 1 := by kernel_rfl
theorem Tryd.tFirst : (Tryd.prog.globals[0]?).map (·.type) = some 93 := by kernel_rfl
theorem Tryd.tAdded : (Tryd.prog.globals[1]?).map (·.type) = some 97 := by kernel_rfl

def laid2 : List (String × DataW Unit) := [("toller/sha.first", Rows.laid_toller_sha_first), ("toller/sha.added", Rows.laid_toller_sha_added)]

theorem tabs_of_laid {W : World} (h : laidMetH Tryd.prog laid2 W) : Tabs W := by
  rw [MakeChecks.laidMetH_plain _ _ _ (by kernel_rfl)] at h
  obtain ⟨ps, ⟨g0, t0, cs0, f0, p0, q0, hg0, ht0, hv0, hd0, ⟨g1, t1, cs1, f1, p1, q1, hg1, ht1, hv1, hd1, _, _⟩, _⟩, _, _⟩ := h
  obtain rfl := Option.some.inj (Tryd.gFirst.symm.trans hg0)
  obtain rfl := Option.some.inj (Tryd.gAdded.symm.trans hg1)
  obtain rfl := Option.some.inj (Tryd.tFirst.symm.trans ht0)
  obtain rfl := Option.some.inj (Tryd.tAdded.symm.trans ht1)
  have e0 := Lib.cells_of_tab (zs := firstL.map fun (x : Nat) => (x : Int)) Tryd.underlying93 Tryd.underlying92 Tryd.cells92 Tryd.cells93 hd0
  have e1 := Lib.cells_of_tab (zs := addedL.map fun (x : Nat) => (x : Int)) Tryd.underlying97 Tryd.underlying92 Tryd.cells92 Tryd.cells97 hd1
  have c0 : ∀ (i x : Nat), firstL[i]? = some x → W.cell? ⟨0, i, none⟩ = some (.int .u32 (x : Int)) := fun i x hx => by
    rw [World.var?_cell hg0 hv0 i, ← Array.getElem?_toList, e0]
    simp [hx]
  have c1 : ∀ (i x : Nat), addedL[i]? = some x → W.cell? ⟨1, i, none⟩ = some (.int .u32 (x : Int)) := fun i x hx => by
    rw [World.var?_cell hg1 hv1 i, ← Array.getElem?_toList, e1]
    simp [hx]
  exact ⟨block_lt_of_cell (c1 0 _ rfl), c0, c1⟩

/-- A digest that came in. -/
theorem open_root {H : Type} {enc : TypeId × Value → H} {W : World} {base : Nat} {sp : Nat → Bool} {hl : Bool} {b0 : Nat} {v : Value} {d : DataW H} {p : List MemPlace}
    (hval : Value.okWide Tryd.prog W .any b0 26 v) (hd : DataW.Trod enc Tryd.prog W base sp hl 26 v d p) : ∃ r : List UInt8, r.length = 32 ∧ v = .agg (bv r).toArray := by
  unfold Value.okWide at hval
  rw [Tryd.underlying26] at hval
  obtain ⟨cs, rfl, _, _⟩ := hval
  obtain ⟨fuel, hf⟩ := hd
  obtain ⟨xs, m, _, _, hlen, hxl, hel⟩ := DataW.trod_array Tryd.underlying26 hf
  rw [Tryd.cells26] at hlen
  have hcs : cs.toList.length = 32 := by simpa [Value.cells] using hlen
  have hat : ∀ i, i < 32 → ∃ n : Int, cs.toList[i]? = some (.int .u8 n) ∧ 0 ≤ n ∧ n ≤ 255 := fun i hi => by
    have h := hel i hi
    obtain ⟨x, hx⟩ : ∃ x, xs[i]? = some x := ⟨_, List.getElem?_eq_getElem (by omega)⟩
    rw [hx, Tryd.cells5, Nat.mul_one] at h
    obtain ⟨n, e1, _, hw⟩ := DataW.trod_int Tryd.underlying5 h
    have h1 := congrArg (·[0]?) e1
    have hb := bounds_u8 hw
    refine ⟨n, ?_, hb.1, hb.2⟩
    simpa [Value.cells, List.getElem?_take, List.getElem?_drop] using h1
  refine ⟨cs.toList.map (fun v => match v with | .int _ n => UInt8.ofNat n.toNat | _ => 0), by rw [List.length_map]; exact hcs, ?_⟩
  have : cs = (bv (cs.toList.map (fun v => match v with | .int _ n => UInt8.ofNat n.toNat | _ => 0))).toArray := by
    apply Array.ext'
    apply List.ext_getElem?
    intro i
    by_cases hi : i < 32
    · obtain ⟨n, e, h0, h1⟩ := hat i hi
      rw [e]
      simp only [bv, List.map_map, List.getElem?_map, e, Option.map_some, Function.comp_apply]
      congr 2
      simp
      omega
    · rw [List.getElem?_eq_none (by omega), List.getElem?_eq_none (by simp [bv]; have := hcs; simp at this; omega)]
  rw [← this]

theorem door_met (os : Os) (args : Array Value) : laidMetH Tryd.prog laid2 ((World.doorLaid Tryd.prog 400 os).forCall (fun _ _ => 0) ⟨#[], args, []⟩).memory :=
  laidMetH_of_parts3 (fuel := 8) (laidMet_of_run' 8 (by kernel_rfl) (by kernel_rfl)) (by kernel_rfl) (by kernel_rfl)
end Go.Proofs.YtnbdpalbompjlaaDoor
