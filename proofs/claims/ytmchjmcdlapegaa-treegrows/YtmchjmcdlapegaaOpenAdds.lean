/-
  Blocks to be added, and a name, that came in, opened.
-/
import Derived.Test.YtmchjmcdlapegaaMade10
import Derived.Deep.Grids
import Derived.Deep.SlicePairs
import Derived.ProofKit
import Derived.OpenShut
import Derived.ShutString
import Derived.ChangeOld
namespace Go.Proofs.Ytmchjmcdlapegaa
open Go Go.RowKit Go.ChangeShapes Go.WideShapes Go.ChangeAt Go.Deep
set_option maxRecDepth 10000

theorem Try.cellsInt : Try.prog.cellsOf 3 = 1 := by kernel_rfl
theorem Try.cellsAdd : Try.prog.cellsOf 42 = 3 := by kernel_rfl

theorem bytes_cells {H : Type} {enc : TypeId × Value → H} {W : World} {base : Nat} {sp : Nat → Bool} {hl : Bool} {k fuel : Nat} {t : TypeId} {cs : List Value} {x : DataW H × List MemPlace}
    (ht : Try.prog.underlying t = some (.array k 5)) (hc : Try.prog.cellsOf t = k) (h : DataW.trod enc Try.prog W base sp hl fuel t cs = some x) : ∃ l : List UInt8, l.length = k ∧ cs = bv l := by
  obtain ⟨xs, m, _, _, hlen, hxl, hel⟩ := DataW.trod_array ht h
  rw [hc] at hlen
  have hat : ∀ i, i < k → ∃ n : Int, cs[i]? = some (.int .u8 n) ∧ 0 ≤ n ∧ n ≤ 255 := fun i hi => by
    have h := hel i hi
    obtain ⟨x, hx⟩ : ∃ x, xs[i]? = some x := ⟨_, List.getElem?_eq_getElem (by omega)⟩
    rw [hx, Try.cellsU8, Nat.mul_one] at h
    obtain ⟨n, e1, _, hw⟩ := DataW.trod_int Try.underlying5 h
    have h1 := congrArg (·[0]?) e1
    have hb := bounds_u8 hw
    refine ⟨n, ?_, hb.1, hb.2⟩
    simpa [List.getElem?_take, List.getElem?_drop] using h1
  refine ⟨cs.map (fun v => match v with | .int _ n => UInt8.ofNat n.toNat | _ => 0), by rw [List.length_map]; exact hlen, ?_⟩
  apply List.ext_getElem?
  intro i
  by_cases hi : i < k
  · obtain ⟨n, e, h0, h1⟩ := hat i hi
    rw [e]
    simp only [bv, List.map_map, List.getElem?_map, e, Option.map_some, Function.comp_apply]
    congr 2
    simp
    omega
  · rw [List.getElem?_eq_none (by omega), List.getElem?_eq_none (by simp [bv]; omega)]

/-- A name that came in. -/
theorem open_rootM {H : Type} {enc : TypeId × Value → H} {W : World} {base : Nat} {sp : Nat → Bool} {hl : Bool} {b0 : Nat} {v : Value} {d : DataW H} {p : List MemPlace}
    (hval : Value.okWide Try.prog W .any b0 23 v) (hd : DataW.Trod enc Try.prog W base sp hl 23 v d p) : ∃ r : List UInt8, r.length = 32 ∧ v = .agg (bv r).toArray := by
  unfold Value.okWide at hval
  rw [Try.underlying23] at hval
  obtain ⟨cs, rfl, _, _⟩ := hval
  obtain ⟨fuel, hf⟩ := hd
  obtain ⟨l, h1, h2⟩ := bytes_cells Try.underlying23 Try.cellsRoot hf
  refine ⟨l, h1, ?_⟩
  rw [← h2]
  rfl

theorem av_here {l : List Ad} {q : Nat} {u : Value} (h : (av l)[q]? = some u) : ∃ a, l[q / 3]? = some a ∧ (adv a)[q % 3]? = some u := by
  have hq := (List.getElem?_eq_some_iff.1 h).1
  rw [av_length] at hq
  obtain ⟨a, ha⟩ : ∃ a, l[q / 3]? = some a := ⟨_, List.getElem?_eq_getElem (by omega)⟩
  refine ⟨a, ha, ?_⟩
  rw [← av_at l (q / 3) (q % 3) a ha (by omega), show q / 3 * 3 + q % 3 = q by omega]
  exact h

/-- Blocks to be added that came in. -/
theorem opened_adds {H : Type} {enc : TypeId × Value → H} {W : World} {ao : Option Addr} {len cap : Nat} {d : DataW H} {p : List MemPlace}
    (h : DataW.Trod enc Try.prog W 0 (fun _ => true) true 24 (.slice ao len cap) d p) : ∃ l : List Ad, l.length = len ∧ len ≤ cap ∧ ∃ b off, Lies W W.heap.size ao b off (av l) := by
  obtain ⟨fuel, hf⟩ := h
  have hf' : DataW.trod enc Try.prog W 0 (fun _ => true) true fuel 24 [.slice ao len cap] = some (d, p) := by simpa [Value.cells] using hf
  rcases open_slice Try.underlying24 hf' with ⟨hcs, _⟩ | ⟨a, l, c, m, n, D, Pl, hcs, _, hl, hcm, hm, _, hx⟩
  · simp at hcs
    obtain ⟨rfl, rfl, rfl⟩ := hcs
    exact ⟨[], rfl, Nat.le_refl _, 0, 0, fun h => absurd h (by simp [av]), fun h => absurd h (by simp [av]), fun j x h => by simp [av] at h⟩
  · simp at hcs
    obtain ⟨rfl, rfl, rfl⟩ := hcs
    have hlm : len ≤ m := by rw [hm]; simpa using hl
    obtain ⟨b, off, spot⟩ := a
    have each : ∀ i, i < len → ∃ a : Ad, ∀ j v, (adv a)[j]? = some v → W.cell? (((⟨b, off, spot⟩ : Addr).add (i * 3)).add j) = some v := by
      intro i hi
      obtain ⟨cs', h1, h2⟩ := hx i (by omega)
      rw [Try.cellsAdd] at h1
      obtain ⟨_, hlen, hcell⟩ := World.cells?_some h1
      obtain ⟨xs, k, _, _, _, hxl, hg⟩ := DataW.trod_struct Try.underlying42 h2
      match xs, hxl, cs', hlen with
      | [y0, y1, y2], _, [c0, c1, c2], _ =>
        have g0 : DataW.trod enc Try.prog W 0 (fun _ => true) true k 3 (List.take (Try.prog.cellsOf 3) (List.drop 0 [c0, c1, c2])) = some y0 := hg 0 _ rfl
        rw [Try.cellsInt] at g0
        have k0 : DataW.trod enc Try.prog W 0 (fun _ => true) true k 3 [c0] = some y0 := g0
        have g1 : DataW.trod enc Try.prog W 0 (fun _ => true) true k 3 (List.take (Try.prog.cellsOf 3) (List.drop 1 [c0, c1, c2])) = some y1 := hg 1 _ rfl
        rw [Try.cellsInt] at g1
        have k1 : DataW.trod enc Try.prog W 0 (fun _ => true) true k 3 [c1] = some y1 := g1
        have g2 : DataW.trod enc Try.prog W 0 (fun _ => true) true k 3 (List.take (Try.prog.cellsOf 3) (List.drop 2 [c0, c1, c2])) = some y2 := hg 2 _ rfl
        rw [Try.cellsInt] at g2
        have k2 : DataW.trod enc Try.prog W 0 (fun _ => true) true k 3 [c2] = some y2 := g2
        obtain ⟨n0, e0, _, _⟩ := DataW.trod_int Try.underlying3 k0
        obtain rfl : c0 = .int .i64 n0 := by simpa using e0
        obtain ⟨n1, e1, _, _⟩ := DataW.trod_int Try.underlying3 k1
        obtain rfl : c1 = .int .i64 n1 := by simpa using e1
        obtain ⟨n2, e2, _, _⟩ := DataW.trod_int Try.underlying3 k2
        obtain rfl : c2 = .int .i64 n2 := by simpa using e2
        refine ⟨(n0, n1, n2), fun j v hj => ?_⟩
        have hjl : j < 3 := by have := (List.getElem?_eq_some_iff.1 hj).1; simpa [adv] using this
        have hc := hcell j (by omega)
        exact hc.trans hj
    obtain ⟨q, hq⟩ := choose_lt each
    have hvl : ((List.range len).map q).length = len := by simp
    have hve : ∀ j, j < len → ((List.range len).map q)[j]? = some (q j) := fun j hj => by simp [hj]
    have hsp : 0 < len → spot = none ∧ b < W.heap.size := fun h0 => by
      have hc := hq 0 (by omega) 0 _ rfl
      have hspot : spot = none := by simpa [Addr.add] using World.cell?_spot hc
      exact ⟨hspot, by simpa [Addr.add] using World.block_lt_of_cell? W _ hc⟩
    refine ⟨(List.range len).map q, hvl, hl, b, off, fun h0 => ?_, fun h0 => ?_, fun j u hj => ?_⟩
    · rw [av_length, hvl] at h0; rw [(hsp (by omega)).1]
    · rw [av_length, hvl] at h0; exact (hsp (by omega)).2
    · have hjl := (List.getElem?_eq_some_iff.1 hj).1
      rw [av_length, hvl] at hjl
      obtain ⟨a, ha, hu⟩ := av_here hj
      rw [hve _ (by omega)] at ha
      cases ha
      have hc := hq (j / 3) (by omega) (j % 3) u hu
      rw [(hsp (by omega)).1, Addr.add_lit, Addr.add_lit, Nat.add_assoc, show j / 3 * 3 + j % 3 = j by omega] at hc
      exact hc
end Go.Proofs.Ytmchjmcdlapegaa
