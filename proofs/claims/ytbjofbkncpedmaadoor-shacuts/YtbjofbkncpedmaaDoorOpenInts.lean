/-
  A slice of numbers that came in, opened.
-/
import Derived.Test.YtbjofbkncpedmaaDoorCutsWalk
import Derived.ProofKit
import Derived.OpenShut
namespace Go.Proofs.YtbjofbkncpedmaaDoor
open Go.RowKit Go.ChangeShapes Go.WideShapes

theorem opened_ints {H : Type} {enc : TypeId × Value → H} {W : World} {ao : Option Addr} {len cap : Nat} {d : DataW H} {p : List MemPlace}
    (h : DataW.Trod enc Tryd.prog W 0 (fun _ => true) true 30 (.slice ao len cap) d p) : ∃ l : List Int, l.length = len ∧ ∃ b off, IntAt W W.heap.size ao b off l := by
  obtain ⟨fuel, hf⟩ := h
  have hf' : DataW.trod enc Tryd.prog W 0 (fun _ => true) true fuel 30 [.slice ao len cap] = some (d, p) := by simpa [Value.cells] using hf
  rcases open_ints Tryd.underlying30 Tryd.underlying3 (by kernel_rfl) hf' with ⟨hcs, _⟩ | ⟨a, l, c, zs, hcs, _, hl, hm, hzl, _, hx, _⟩
  · simp at hcs
    obtain ⟨rfl, rfl, rfl⟩ := hcs
    exact ⟨[], rfl, 0, 0, fun h => absurd h (by simp), fun h => absurd h (by simp), fun j x h => by simp at h⟩
  · simp at hcs
    obtain ⟨rfl, rfl, rfl⟩ := hcs
    simp only [if_true] at hzl
    obtain ⟨b, off, spot⟩ := a
    have hsp : 0 < len → spot = none := fun h0 => by
      have hc := hx 0 (by omega)
      simpa [Addr.add] using World.cell?_spot hc
    have hlen : (zs.take len).length = len := by rw [List.length_take]; omega
    refine ⟨zs.take len, hlen, b, off, fun h0 => ?_, fun h0 => ?_, fun j y hj => ?_⟩
    · rw [hlen] at h0; rw [hsp h0]
    · rw [hlen] at h0
      have hc := hx 0 (by omega)
      have := World.block_lt_of_cell? W _ hc
      simpa [Addr.add] using this
    · have hjl : j < len := by
        have := (List.getElem?_eq_some_iff.1 hj).1
        rwa [hlen] at this
      have hc := hx j (by omega)
      rw [hsp (by omega), Addr.add_lit] at hc
      rw [hc]
      rw [List.getElem?_take, if_pos hjl] at hj
      simp [hj]
end Go.Proofs.YtbjofbkncpedmaaDoor
