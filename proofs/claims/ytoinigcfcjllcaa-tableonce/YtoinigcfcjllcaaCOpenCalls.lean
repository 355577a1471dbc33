/-
  The texts OpenCalls, one behind the other.
-/
import Derived.Test.YtoinigcfcjllcaaOnceM9
import Derived.Test.YtoinigcfcjllcaaCOpenRoot
import Derived.Test.YtoinigcfcjllcaaOnceM6
/-
  Calls that came in, opened.
-/
namespace Go.Proofs.Ytoinigcfcjllcaa
open Go Go.RowKit Go.ChangeShapes Go.WideShapes Go.ChangeAt Go.Deep
set_option maxRecDepth 10000

theorem Try.cellsBool : Try.prog.cellsOf 4 = 1 := by kernel_rfl
theorem Try.cellsCall : Try.prog.cellsOf 41 = 4 := by kernel_rfl
theorem ccls_here {l : List Cl} {q : Nat} {u : Value} (h : (ccls l)[q]? = some u) : ∃ a, l[q / 4]? = some a ∧ (ccl a)[q % 4]? = some u := by
  have hq := (List.getElem?_eq_some_iff.1 h).1
  rw [ccls_length] at hq
  obtain ⟨a, ha⟩ : ∃ a, l[q / 4]? = some a := ⟨_, List.getElem?_eq_getElem (by omega)⟩
  refine ⟨a, ha, ?_⟩
  rw [← ccls_at l (q / 4) (q % 4) a ha (by omega), show q / 4 * 4 + q % 4 = q by omega]
  exact h

/-- Acts that came in. -/
theorem opened_calls {H : Type} {enc : TypeId × Value → H} {W : World} {ao : Option Addr} {len cap : Nat} {d : DataW H} {p : List MemPlace}
    (h : DataW.Trod enc Try.prog W 0 (fun _ => true) true 22 (.slice ao len cap) d p) : ∃ l : List Cl, l.length = len ∧ len ≤ cap ∧ (∀ c ∈ l, I6 c.s) ∧ ∃ b off, Lies W W.heap.size ao b off (ccls l) := by
  obtain ⟨fuel, hf⟩ := h
  have hf' : DataW.trod enc Try.prog W 0 (fun _ => true) true fuel 22 [.slice ao len cap] = some (d, p) := by simpa [Value.cells] using hf
  rcases open_slice Try.underlying22 hf' with ⟨hcs, _⟩ | ⟨a, l, c, m, n, D, Pl, hcs, _, hl, hcm, hm, _, hx⟩
  · simp at hcs
    obtain ⟨rfl, rfl, rfl⟩ := hcs
    exact ⟨[], rfl, Nat.le_refl _, (fun c hc => by cases hc), 0, 0, fun h => absurd h (by simp [ccls]), fun h => absurd h (by simp [ccls]), fun j x h => by simp [ccls] at h⟩
  · simp at hcs
    obtain ⟨rfl, rfl, rfl⟩ := hcs
    have hlm : len ≤ m := by rw [hm]; simpa using hl
    obtain ⟨b, off, spot⟩ := a
    have each : ∀ i, i < len → ∃ a : Cl, I6 a.s ∧ ∀ j v, (ccl a)[j]? = some v → W.cell? (((⟨b, off, spot⟩ : Addr).add (i * 4)).add j) = some v := by
      intro i hi
      obtain ⟨cs', h1, h2⟩ := hx i (by omega)
      rw [Try.cellsCall] at h1
      obtain ⟨_, hlen, hcell⟩ := World.cells?_some h1
      obtain ⟨xs, k, _, _, _, hxl, hg⟩ := DataW.trod_struct Try.underlying41 h2
      match xs, hxl, cs', hlen with
      | [y0, y1, y2, y3], _, [c0, c1, c2, c3], _ =>
        have g0 : DataW.trod enc Try.prog W 0 (fun _ => true) true k 4 (List.take (Try.prog.cellsOf 4) (List.drop 0 [c0, c1, c2, c3])) = some y0 := hg 0 _ rfl
        rw [Try.cellsBool] at g0
        have k0 : DataW.trod enc Try.prog W 0 (fun _ => true) true k 4 [c0] = some y0 := g0
        have g1 : DataW.trod enc Try.prog W 0 (fun _ => true) true k 3 (List.take (Try.prog.cellsOf 3) (List.drop 1 [c0, c1, c2, c3])) = some y1 := hg 1 _ rfl
        rw [Try.cellsInt] at g1
        have k1 : DataW.trod enc Try.prog W 0 (fun _ => true) true k 3 [c1] = some y1 := g1
        have g2 : DataW.trod enc Try.prog W 0 (fun _ => true) true k 3 (List.take (Try.prog.cellsOf 3) (List.drop 2 [c0, c1, c2, c3])) = some y2 := hg 2 _ rfl
        rw [Try.cellsInt] at g2
        have k2 : DataW.trod enc Try.prog W 0 (fun _ => true) true k 3 [c2] = some y2 := g2
        have g3 : DataW.trod enc Try.prog W 0 (fun _ => true) true k 3 (List.take (Try.prog.cellsOf 3) (List.drop 3 [c0, c1, c2, c3])) = some y3 := hg 3 _ rfl
        rw [Try.cellsInt] at g3
        have k3 : DataW.trod enc Try.prog W 0 (fun _ => true) true k 3 [c3] = some y3 := g3
        obtain ⟨n0, e0, _⟩ := DataW.trod_bool Try.underlying4 k0
        obtain rfl : c0 = .bool n0 := by simpa using e0
        obtain ⟨n1, e1, _, _⟩ := DataW.trod_int Try.underlying3 k1
        obtain rfl : c1 = .int .i64 n1 := by simpa using e1
        obtain ⟨n2, e2, _, i2⟩ := DataW.trod_int Try.underlying3 k2
        obtain rfl : c2 = .int .i64 n2 := by simpa using e2
        obtain ⟨n3, e3, _, _⟩ := DataW.trod_int Try.underlying3 k3
        obtain rfl : c3 = .int .i64 n3 := by simpa using e3
        refine ⟨⟨n0, n1, n2, n3⟩, i6_wf.1 i2, fun j v hj => ?_⟩
        have hjl : j < 4 := by have := (List.getElem?_eq_some_iff.1 hj).1; simpa [ccl] using this
        have hc := hcell j (by omega)
        exact hc.trans hj
    have : Inhabited Cl := ⟨cl0⟩
    obtain ⟨q, hq⟩ := choose_lt each
    have hvl : ((List.range len).map q).length = len := by simp
    have hve : ∀ j, j < len → ((List.range len).map q)[j]? = some (q j) := fun j hj => by simp [hj]
    have hsp : 0 < len → spot = none ∧ b < W.heap.size := fun h0 => by
      have hc := (hq 0 (by omega)).2 0 _ rfl
      have hspot : spot = none := by simpa [Addr.add] using World.cell?_spot hc
      exact ⟨hspot, by simpa [Addr.add] using World.block_lt_of_cell? W _ hc⟩
    refine ⟨(List.range len).map q, hvl, hl, (fun c hc => by simp at hc; obtain ⟨i, hi, rfl⟩ := hc; exact (hq i hi).1), b, off, fun h0 => ?_, fun h0 => ?_, fun j u hj => ?_⟩
    · rw [ccls_length, hvl] at h0; rw [(hsp (by omega)).1]
    · rw [ccls_length, hvl] at h0; exact (hsp (by omega)).2
    · have hjl := (List.getElem?_eq_some_iff.1 hj).1
      rw [ccls_length, hvl] at hjl
      obtain ⟨a, ha, hu⟩ := ccls_here hj
      rw [hve _ (by omega)] at ha
      cases ha
      have hc := (hq (j / 4) (by omega)).2 (j % 4) u hu
      rw [(hsp (by omega)).1, Addr.add_lit, Addr.add_lit, Nat.add_assoc, show j / 4 * 4 + j % 4 = j by omega] at hc
      exact hc
end Go.Proofs.Ytoinigcfcjllcaa
