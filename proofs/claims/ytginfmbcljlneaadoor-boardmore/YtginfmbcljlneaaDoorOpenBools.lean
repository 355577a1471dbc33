/-
  A row of yes and no that came in, opened.
-/
import Derived.Test.YtginfmbcljlneaaDoorPick
import Derived.Deep.Grids
import Derived.ProofKit
import Derived.OpenShut
namespace Go.Proofs.YtginfmbcljlneaaDoor
open Go.RowKit Go.ChangeShapes Go.WideShapes Go.Deep

theorem opened_bools {H : Type} {enc : TypeId × Value → H} {W : World} {ao : Option Addr} {len cap : Nat} {d : DataW H} {p : List MemPlace}
    (h : DataW.Trod enc Tryd.prog W 0 (fun _ => true) true 25 (.slice ao len cap) d p) : ∃ l : List Bool, l.length = len ∧ ∃ b off, Lies W W.heap.size ao b off (ov l) := by
  obtain ⟨fuel, hf⟩ := h
  have hf' : DataW.trod enc Tryd.prog W 0 (fun _ => true) true fuel 25 [.slice ao len cap] = some (d, p) := by simpa [Value.cells] using hf
  rcases open_bools Tryd.underlying25 Tryd.underlying4 (by kernel_rfl) hf' with ⟨hcs, _⟩ | ⟨a, l, c, B, hcs, _, hl, hm, _, hx⟩
  · simp at hcs
    obtain ⟨rfl, rfl, rfl⟩ := hcs
    exact ⟨[], rfl, 0, 0, fun h => absurd h (by simp [ov]), fun h => absurd h (by simp [ov]), fun j x h => by simp [ov] at h⟩
  · simp at hcs
    obtain ⟨rfl, rfl, rfl⟩ := hcs
    obtain ⟨b, off, spot⟩ := a
    have hsp : 0 < len → spot = none := fun h0 => by
      have hc := hx 0 (by omega)
      simpa [Addr.add] using World.cell?_spot hc
    have hlen : ((List.range len).map B).length = len := by simp
    refine ⟨(List.range len).map B, hlen, b, off, fun h0 => ?_, fun h0 => ?_, fun j y hj => ?_⟩
    · rw [ov_length, hlen] at h0; rw [hsp h0]
    · rw [ov_length, hlen] at h0
      have hc := hx 0 (by omega)
      have := World.block_lt_of_cell? W _ hc
      simpa [Addr.add] using this
    · have hjl : j < len := by
        have := (List.getElem?_eq_some_iff.1 hj).1
        rwa [ov_length, hlen] at this
      have hc := hx j (by omega)
      rw [hsp (by omega), Addr.add_lit] at hc
      rw [hc]
      rw [ov, List.getElem?_map, List.getElem?_map, List.getElem?_range hjl] at hj
      simpa using hj
end Go.Proofs.YtginfmbcljlneaaDoor
