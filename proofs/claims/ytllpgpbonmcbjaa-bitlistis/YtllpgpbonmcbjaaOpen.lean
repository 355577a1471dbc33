/-
  A row of yes and no that came in, opened: what its reading says of memory.
-/
import Derived.Test.YtllpgpbonmcbjaaSlice
import Derived.Test.YtllpgpbonmcbjaaRows
import Derived.Deep.Grids
import Derived.ProofKit
import Derived.OpenShut
namespace Go.Proofs.Ytllpgpbonmcbjaa
open Go.RowKit Go.ChangeShapes Go.WideShapes Go.Deep

theorem opened {H : Type} {enc : TypeId × Value → H} {W : World} {ao : Option Addr} {len cap fuel : Nat} {x : DataW H × List MemPlace}
    (hf : DataW.trod enc Try.prog W 0 (fun _ => true) true fuel 22 [.slice ao len cap] = some x) : ∃ l : List Bool, l.length = len ∧ Row W W.heap.size (.slice ao len cap) l := by
  rcases open_bools Try.underlying22 Try.underlying4 (by kernel_rfl) hf with ⟨hcs, _⟩ | ⟨a, l, c, B, hcs, _, hl, hm, _, hx⟩
  · simp at hcs
    obtain ⟨rfl, rfl, rfl⟩ := hcs
    exact ⟨[], rfl, Row.nil _ _⟩
  · simp at hcs
    obtain ⟨rfl, rfl, rfl⟩ := hcs
    obtain ⟨b, off, spot⟩ := a
    have hsp : 0 < len → spot = none := fun h0 => by
      have hc := hx 0 (by omega)
      simpa [Addr.add] using World.cell?_spot hc
    have hlen : ((List.range len).map B).length = len := by simp
    refine ⟨(List.range len).map B, hlen, some ⟨b, off, spot⟩, cap, b, off, by rw [hlen], by rw [hlen]; exact hl, hm, fun h0 => ?_, fun h0 => ?_, fun j y hj => ?_⟩
    · rw [hlen] at h0; rw [hsp h0]
    · rw [hlen] at h0
      have hc := hx 0 (by omega)
      have := World.block_lt_of_cell? W _ hc
      simpa [Addr.add] using this
    · have hjl : j < len := by
        have := (List.getElem?_eq_some_iff.1 hj).1
        rwa [hlen] at this
      have hc := hx j (by omega)
      rw [hsp (by omega), Addr.add_lit] at hc
      rw [hc]
      rw [List.getElem?_map, List.getElem?_range hjl] at hj
      cases hj
      rfl

end Go.Proofs.Ytllpgpbonmcbjaa
