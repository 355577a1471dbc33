/-
  The texts OpenRoot, one behind the other.
-/
import Derived.Test.YtoinigcfcjllcaaCRootMem
import Derived.Deep.Grids
import Derived.Deep.SlicePairs
import Derived.ProofKit
import Derived.OpenShut
import Derived.ShutString
import Derived.ChangeOld
/-
  A name that came in, opened.
-/
namespace Go.Proofs.Ytoinigcfcjllcaa
open Go Go.RowKit Go.ChangeShapes Go.WideShapes Go.ChangeAt Go.Deep
set_option maxRecDepth 10000

theorem Try.cellsInt : Try.prog.cellsOf 3 = 1 := by kernel_rfl
theorem bytes_cells {H : Type} {enc : TypeId × Value → H} {W : World} {base : Nat} {sp : Nat → Bool} {hl : Bool} {k fuel : Nat} {t : TypeId} {cs : List Value} {x : DataW H × List MemPlace}
    (ht : Try.prog.underlying t = some (.array k 5)) (hc : Try.prog.cellsOf t = k) (h : DataW.trod enc Try.prog W base sp hl fuel t cs = some x) : ∃ l : List UInt8, l.length = k ∧ cs = bv l := by
  obtain ⟨xs, m, _, _, hlen, hxl, hel⟩ := DataW.trod_array ht h
  rw [hc] at hlen
  have hat : ∀ i, i < k → ∃ n : Int, cs[i]? = some (.int .u8 n) ∧ 0 ≤ n ∧ n ≤ 255 := fun i hi => by
    have h := hel i hi
    obtain ⟨x, hx⟩ : ∃ x, xs[i]? = some x := ⟨_, List.getElem?_eq_getElem (by omega)⟩
    rw [hx, Try.cellsU8, Nat.mul_one] at h
    obtain ⟨n, e1, _, hw⟩ := DataW.trod_int Try.underlying5 h
    have h1 := congrArg (·[0]?) e1
    have hb := bounds_u8 hw
    refine ⟨n, ?_, hb.1, hb.2⟩
    simpa [List.getElem?_take, List.getElem?_drop] using h1
  refine ⟨cs.map (fun v => match v with | .int _ n => UInt8.ofNat n.toNat | _ => 0), by rw [List.length_map]; exact hlen, ?_⟩
  apply List.ext_getElem?
  intro i
  by_cases hi : i < k
  · obtain ⟨n, e, h0, h1⟩ := hat i hi
    rw [e]
    simp only [bv, List.map_map, List.getElem?_map, e, Option.map_some, Function.comp_apply]
    congr 2
    simp
    omega
  · rw [List.getElem?_eq_none (by omega), List.getElem?_eq_none (by simp [bv]; omega)]

/-- A name that came in. -/
theorem open_rootM {H : Type} {enc : TypeId × Value → H} {W : World} {base : Nat} {sp : Nat → Bool} {hl : Bool} {b0 : Nat} {v : Value} {d : DataW H} {p : List MemPlace}
    (hval : Value.okWide Try.prog W .any b0 27 v) (hd : DataW.Trod enc Try.prog W base sp hl 27 v d p) : ∃ r : List UInt8, r.length = 32 ∧ v = .agg (bv r).toArray := by
  unfold Value.okWide at hval
  rw [Try.underlying27] at hval
  obtain ⟨cs, rfl, _, _⟩ := hval
  obtain ⟨fuel, hf⟩ := hd
  obtain ⟨l, h1, h2⟩ := bytes_cells Try.underlying27 Try.cellsRoot hf
  refine ⟨l, h1, ?_⟩
  rw [← h2]
  rfl
end Go.Proofs.Ytoinigcfcjllcaa
