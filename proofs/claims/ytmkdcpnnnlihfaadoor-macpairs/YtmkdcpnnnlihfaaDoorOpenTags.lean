/-
  Arrays of bytes, and slices of them, that came in, opened.
-/
import Derived.Test.YtmkdcpnnnlihfaaDoorJoin
import Derived.Test.YtmkdcpnnnlihfaaDoorOpen
namespace Go.Proofs.YtmkdcpnnnlihfaaDoor
open Go.ChangeShapes Go.WideShapes Go.ChangeAt Go.RowKit

theorem Tryd.cells24 : Tryd.prog.cellsOf 24 = 16 := by kernel_rfl

theorem arr_cells {H : Type} {enc : TypeId × Value → H} {W : World} {base : Nat} {sp : Nat → Bool} {hl : Bool} {k fuel : Nat} {t : TypeId} {cs : List Value} {x : DataW H × List MemPlace}
    (ht : Tryd.prog.underlying t = some (.array k 5)) (hc : Tryd.prog.cellsOf t = k) (h : DataW.trod enc Tryd.prog W base sp hl fuel t cs = some x) : ∃ l : List UInt8, l.length = k ∧ cs = bv l := by
  obtain ⟨xs, m, _, _, hlen, hxl, hel⟩ := DataW.trod_array ht h
  rw [hc] at hlen
  have hat : ∀ i, i < k → ∃ n : Int, cs[i]? = some (.int .u8 n) ∧ 0 ≤ n ∧ n ≤ 255 := fun i hi => by
    have h := hel i hi
    obtain ⟨x, hx⟩ : ∃ x, xs[i]? = some x := ⟨_, List.getElem?_eq_getElem (by omega)⟩
    rw [hx, Tryd.cells5, Nat.mul_one] at h
    obtain ⟨n, e1, _, hw⟩ := DataW.trod_int Tryd.underlying5 h
    have h1 := congrArg (·[0]?) e1
    have hb := bounds_u8 hw
    refine ⟨n, ?_, hb.1, hb.2⟩
    simpa [List.getElem?_take, List.getElem?_drop] using h1
  refine ⟨cs.map (fun v => match v with | .int _ n => UInt8.ofNat n.toNat | _ => 0), by rw [List.length_map]; exact hlen, ?_⟩
  apply List.ext_getElem?
  intro i
  by_cases hi : i < k
  · obtain ⟨n, e, h0, h1⟩ := hat i hi
    rw [e]
    simp only [bv, List.map_map, List.getElem?_map, e, Option.map_some, Function.comp_apply]
    congr 2
    simp
    omega
  · rw [List.getElem?_eq_none (by omega), List.getElem?_eq_none (by simp [bv]; omega)]

/-- A tag that came in. -/
theorem open_tag {H : Type} {enc : TypeId × Value → H} {W : World} {base : Nat} {sp : Nat → Bool} {hl : Bool} {b0 : Nat} {v : Value} {d : DataW H} {p : List MemPlace}
    (hval : Value.okWide Tryd.prog W .any b0 24 v) (hd : DataW.Trod enc Tryd.prog W base sp hl 24 v d p) : ∃ r : List UInt8, r.length = 16 ∧ v = .agg (bv r).toArray := by
  unfold Value.okWide at hval
  rw [Tryd.underlying24] at hval
  obtain ⟨cs, rfl, _, _⟩ := hval
  obtain ⟨fuel, hf⟩ := hd
  obtain ⟨l, h1, h2⟩ := arr_cells Tryd.underlying24 Tryd.cells24 hf
  refine ⟨l, h1, ?_⟩
  rw [← h2]
  simp [Value.cells]

theorem gather_tags {W : World} {a : Addr} : ∀ (len : Nat), (∀ i, i < len → ∃ t : List UInt8, t.length = 16 ∧ ∀ j, j < 16 → W.cell? ((a.add (i * 16)).add j) = (bv t)[j]?) →
    ∃ ts : List (List UInt8), ts.length = len ∧ Tags ts ∧ ∀ i t, ts[i]? = some t → ∀ j, j < 16 → W.cell? ((a.add (i * 16)).add j) = (bv t)[j]?
  | 0, _ => ⟨[], rfl, (fun t ht => by cases ht), fun i t h => by simp at h⟩
  | k + 1, hat => by
    obtain ⟨ts, h1, h2, h3⟩ := gather_tags k (fun i hi => hat i (by omega))
    obtain ⟨t, ht, hc⟩ := hat k (by omega)
    refine ⟨ts ++ [t], by simp [h1], h2.append (fun x hx => by simp at hx; rw [hx]; exact ht), fun i x hi => ?_⟩
    by_cases hik : i < k
    · rw [List.getElem?_append_left (by omega)] at hi
      exact h3 i x hi
    · rw [List.getElem?_append_right (by omega)] at hi
      have : i = k := by
        have := (List.getElem?_eq_some_iff.1 hi).1
        simp at this
        omega
      subst this
      rw [h1, Nat.sub_self] at hi
      simp at hi
      subst hi
      exact hc

/-- Tags that came in. -/
theorem opened_tags {H : Type} {enc : TypeId × Value → H} {W : World} {ao : Option Addr} {len cap : Nat} {d : DataW H} {p : List MemPlace}
    (h : DataW.Trod enc Tryd.prog W 0 (fun _ => true) true 28 (.slice ao len cap) d p) : ∃ ts : List (List UInt8), ts.length = len ∧ Tags ts ∧ len ≤ cap ∧ ∃ b off, Lies W W.heap.size ao b off (tv ts) := by
  obtain ⟨fuel, hf⟩ := h
  have hf' : DataW.trod enc Tryd.prog W 0 (fun _ => true) true fuel 28 [.slice ao len cap] = some (d, p) := by simpa [Value.cells] using hf
  rcases DataW.trod_slice Tryd.underlying28 hf' with ⟨hcs, _⟩ | ⟨a, l, c, elems, rest, m, _, hcs, _, _, hle, hm, hel, hx, _⟩
  · simp at hcs
    obtain ⟨rfl, rfl, rfl⟩ := hcs
    exact ⟨[], rfl, (fun t ht => by cases ht), Nat.le_refl _, 0, 0, fun h => absurd h (by simp [tv]), fun h => absurd h (by simp [tv]), fun j x h => by simp [tv] at h⟩
  · simp at hcs
    obtain ⟨rfl, rfl, rfl⟩ := hcs
    rw [Tryd.cells24] at hx
    have hat : ∀ i, i < len → ∃ t : List UInt8, t.length = 16 ∧ ∀ j, j < 16 → W.cell? ((a.add (i * 16)).add j) = (bv t)[j]? := fun i hi => by
      have h1 := hx i hi
      obtain ⟨y, hy⟩ : ∃ y, elems[i]? = some y := ⟨_, List.getElem?_eq_getElem (by omega)⟩
      rw [hy, Option.bind_eq_some_iff] at h1
      obtain ⟨cs, hcs, ht⟩ := h1
      obtain ⟨t, ht1, rfl⟩ := arr_cells Tryd.underlying24 Tryd.cells24 ht
      exact ⟨t, ht1, fun j hj => (World.cells?_some hcs).2.2 j hj⟩
    obtain ⟨ts, hts, hT, hcell⟩ := gather_tags len hat
    obtain ⟨b, off, spot⟩ := a
    have hsp : 0 < len → spot = none ∧ b < W.heap.size := fun h0 => by
      obtain ⟨t, ht⟩ : ∃ t, ts[0]? = some t := ⟨_, List.getElem?_eq_getElem (by omega)⟩
      have hc := hcell 0 t ht 0 (by omega)
      have hl : t.length = 16 := hT t (List.mem_of_getElem? ht)
      rw [bv_at (by omega : 0 < t.length)] at hc
      have h1 := World.cell?_spot hc
      have h2 := World.block_lt_of_cell? W _ hc
      exact ⟨by simpa [Addr.add] using h1, by simpa [Addr.add] using h2⟩
    have hlt : (tv ts).length = len * 16 := by rw [tv_length ts hT, hts]
    refine ⟨ts, hts, hT, hle, b, off, fun h0 => ?_, fun h0 => (hsp (by omega)).2, fun q v hq => ?_⟩
    · rw [(hsp (by omega)).1]
    · have hql : q < len * 16 := by have := (List.getElem?_eq_some_iff.1 hq).1; omega
      obtain ⟨t, ht⟩ : ∃ t, ts[q / 16]? = some t := ⟨_, List.getElem?_eq_getElem (by omega)⟩
      have hc := hcell (q / 16) t ht (q % 16) (by omega)
      have h2 := tv_at ts (q / 16) (q % 16) t hT ht (by omega)
      rw [show q / 16 * 16 + q % 16 = q by omega, hq] at h2
      rw [← h2, (hsp (by omega)).1] at hc
      rw [Addr.add_lit, Addr.add_lit, show off + q / 16 * 16 + q % 16 = off + q by omega] at hc
      exact hc
end Go.Proofs.YtmkdcpnnnlihfaaDoor
