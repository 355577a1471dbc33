/-
  The texts OpenZ, one behind the other.
-/
import Derived.Test.YtjodhagjfjgbcaaFirstM2
import Derived.Test.YtjodhagjfjgbcaaRows
import Derived.ProofKit
import Derived.OpenShut
import Derived.ChangeOld
import Derived.Deep.SlicePairs
/-
  A slice of numbers that came in, opened: its cells, and that each is one of 64 bits.
-/
namespace Go.Proofs.Ytjodhagjfjgbcaa
open Go.RowKit Go.ChangeShapes Go.WideShapes
set_option maxRecDepth 10000

def Z64 (n : Int) : Prop := -9223372036854775808 ≤ n ∧ n ≤ 9223372036854775807
theorem Z64.of {n : Int} (h : (Lit.int .i64 n).wf = true) : Z64 n := by
  simp only [Lit.wf, Bool.and_eq_true, decide_eq_true_eq] at h
  simpa [Z64, IntKind.min, IntKind.max, IntKind.bits, IntKind.signed] using h

/-- Numbers as cells. -/
def zv (l : List Int) : List Value := l.map (Value.int .i64)
theorem zv_length (l : List Int) : (zv l).length = l.length := by simp [zv]
theorem zv_at {l : List Int} {j : Nat} {n : Int} (h : l[j]? = some n) : (zv l)[j]? = some (.int .i64 n) := by simp [zv, h]
theorem Lies.zv {w w' : World} {ao : Option Addr} {b off j : Nat} {n : Int} {l : List Int} (h : Lies w w.heap.size ao b off (zv l)) (hb : Below w.heap.size w w') (hx : l[j]? = some n) :
    ao = some ⟨b, off, none⟩ ∧ w'.cell? ⟨b, off + j, none⟩ = some (.int .i64 n) := by
  have hl : 0 < (Go.Proofs.Ytjodhagjfjgbcaa.zv l).length := by have := (List.getElem?_eq_some_iff.1 hx).1; rw [zv_length]; omega
  have hlt := h.lt hl
  exact ⟨h.addr hl, (hb.cell (p := ⟨b, off + j, none⟩) hlt).trans (h.cells _ _ (zv_at hx))⟩

/-- A slice of numbers that came in. -/
theorem opened_zs {H : Type} {enc : TypeId × Value → H} {W : World} {ao : Option Addr} {len cap : Nat} {d : DataW H} {p : List MemPlace}
    (h : DataW.Trod enc Try.prog W 0 (fun _ => true) true 42 (.slice ao len cap) d p) : ∃ l : List Int, l.length = len ∧ (∀ n ∈ l, Z64 n) ∧ ∃ b off, Lies W W.heap.size ao b off (zv l) := by
  obtain ⟨fuel, hf⟩ := h
  have hf' : DataW.trod enc Try.prog W 0 (fun _ => true) true fuel 42 [.slice ao len cap] = some (d, p) := by simpa [Value.cells] using hf
  rcases open_ints Try.underlying42 Try.underlying3 (by kernel_rfl) hf' with ⟨hcs, _⟩ | ⟨a, l, c, zs, hcs, _, hl, hm, hzl, _, hx, hwz⟩
  · simp at hcs
    obtain ⟨rfl, rfl, rfl⟩ := hcs
    exact ⟨[], rfl, (fun n h => by cases h), 0, 0, fun h => absurd h (by simp [zv]), fun h => absurd h (by simp [zv]), fun j x h => by simp [zv] at h⟩
  · simp at hcs
    obtain ⟨rfl, rfl, rfl⟩ := hcs
    simp only [if_true] at hzl
    obtain ⟨b, off, spot⟩ := a
    have hsp : 0 < len → spot = none := fun h0 => by
      have hc := hx 0 (by omega)
      simpa [Addr.add] using World.cell?_spot hc
    have hlen : (zs.take len).length = len := by rw [List.length_take]; omega
    refine ⟨zs.take len, hlen, fun n hn => Z64.of (hwz n (List.mem_of_mem_take hn)), b, off, fun h0 => ?_, fun h0 => ?_, fun j y hj => ?_⟩
    · rw [zv_length, hlen] at h0; rw [hsp h0]
    · rw [zv_length, hlen] at h0
      have hc := hx 0 (by omega)
      have := World.block_lt_of_cell? W _ hc
      simpa [Addr.add] using this
    · have hjl : j < len := by
        have := (List.getElem?_eq_some_iff.1 hj).1
        rwa [zv_length, hlen] at this
      have hc := hx j (by omega)
      rw [hsp (by omega), Addr.add_lit] at hc
      rw [hc]
      rw [zv, List.getElem?_map, List.getElem?_take, if_pos hjl] at hj
      obtain ⟨z, hz⟩ : ∃ z, zs[j]? = some z := ⟨_, List.getElem?_eq_getElem (by omega)⟩
      rw [hz] at hj
      simp at hj
      rw [← hj]
      simp [List.getD, hz]

end Go.Proofs.Ytjodhagjfjgbcaa
