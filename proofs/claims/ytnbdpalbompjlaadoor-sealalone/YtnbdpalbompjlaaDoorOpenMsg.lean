/-
  A message, and a tag, that came in, opened.
-/
import Derived.Test.YtnbdpalbompjlaaDoorM8
import Derived.Deep.Grids
import Derived.ProofKit
import Derived.OpenShut
import Derived.ShutString
import Derived.ChangeOld
namespace Go.Proofs.YtnbdpalbompjlaaDoor
open Go.RowKit Go.ChangeShapes Go.WideShapes Go.ChangeAt Go.Deep
set_option maxRecDepth 10000

theorem opened_brow {H : Type} {enc : TypeId × Value → H} {W : World} {v : Value} {fuel : Nat} {x : DataW H × List MemPlace}
    (hf : DataW.trod enc Tryd.prog W 0 (fun _ => true) true fuel 28 [v] = some x) : ∃ l : List Bool, BRow W W.heap.size v l := by
  rcases open_bools Tryd.underlying28 Tryd.underlying4 (by kernel_rfl) hf with ⟨hcs, _⟩ | ⟨a, len, cap, B, hcs, _, hl, hm, _, hx⟩
  · obtain rfl : v = .slice none 0 0 := by simpa using hcs
    exact ⟨[], BRow.nil _ _⟩
  · obtain rfl : v = .slice (some a) len cap := by simpa using hcs
    obtain ⟨b, off, spot⟩ := a
    have hsp : 0 < len → spot = none := fun h0 => by
      have hc := hx 0 (by omega)
      simpa [Addr.add] using World.cell?_spot hc
    have hlen : ((List.range len).map B).length = len := by simp
    refine ⟨(List.range len).map B, some ⟨b, off, spot⟩, cap, b, off, by rw [hlen], by rw [hlen]; exact hl, hm, fun h0 => ?_, fun h0 => ?_, fun j y hj => ?_⟩
    · rw [hlen] at h0; rw [hsp h0]
    · rw [hlen] at h0
      have hc := hx 0 (by omega)
      have := World.block_lt_of_cell? W _ hc
      simpa [Addr.add] using this
    · have hjl : j < len := by
        have := (List.getElem?_eq_some_iff.1 hj).1
        rwa [hlen] at this
      have hc := hx j (by omega)
      rw [hsp (by omega), Addr.add_lit] at hc
      rw [hc]
      rw [List.getElem?_map, List.getElem?_range hjl] at hj
      cases hj
      rfl

theorem Tryd.cellsU8 : Tryd.prog.cellsOf 5 = 1 := by kernel_rfl
theorem Tryd.cellsTag : Tryd.prog.cellsOf 30 = 16 := by kernel_rfl
theorem Tryd.cellsRoot : Tryd.prog.cellsOf 26 = 32 := by kernel_rfl
theorem Tryd.cellsInt : Tryd.prog.cellsOf 3 = 1 := by kernel_rfl
theorem Tryd.cellsU64 : Tryd.prog.cellsOf 27 = 1 := by kernel_rfl
theorem Tryd.cellsBools : Tryd.prog.cellsOf 28 = 1 := by kernel_rfl
theorem Tryd.cellsMsg : Tryd.prog.cellsOf 32 = 53 := by kernel_rfl

theorem bytes_cells {H : Type} {enc : TypeId × Value → H} {W : World} {base : Nat} {sp : Nat → Bool} {hl : Bool} {k fuel : Nat} {t : TypeId} {cs : List Value} {x : DataW H × List MemPlace}
    (ht : Tryd.prog.underlying t = some (.array k 5)) (hc : Tryd.prog.cellsOf t = k) (h : DataW.trod enc Tryd.prog W base sp hl fuel t cs = some x) : ∃ l : List UInt8, l.length = k ∧ cs = bv l := by
  obtain ⟨xs, m, _, _, hlen, hxl, hel⟩ := DataW.trod_array ht h
  rw [hc] at hlen
  have hat : ∀ i, i < k → ∃ n : Int, cs[i]? = some (.int .u8 n) ∧ 0 ≤ n ∧ n ≤ 255 := fun i hi => by
    have h := hel i hi
    obtain ⟨x, hx⟩ : ∃ x, xs[i]? = some x := ⟨_, List.getElem?_eq_getElem (by omega)⟩
    rw [hx, Tryd.cellsU8, Nat.mul_one] at h
    obtain ⟨n, e1, _, hw⟩ := DataW.trod_int Tryd.underlying5 h
    have h1 := congrArg (·[0]?) e1
    have hb := bounds_u8 hw
    refine ⟨n, ?_, hb.1, hb.2⟩
    simpa [List.getElem?_take, List.getElem?_drop] using h1
  refine ⟨cs.map (fun v => match v with | .int _ n => UInt8.ofNat n.toNat | _ => 0), by rw [List.length_map]; exact hlen, ?_⟩
  apply List.ext_getElem?
  intro i
  by_cases hi : i < k
  · obtain ⟨n, e, h0, h1⟩ := hat i hi
    rw [e]
    simp only [bv, List.map_map, List.getElem?_map, e, Option.map_some, Function.comp_apply]
    congr 2
    simp
    omega
  · rw [List.getElem?_eq_none (by omega), List.getElem?_eq_none (by simp [bv]; omega)]

/-- A tag that came in. -/
theorem open_tagM {H : Type} {enc : TypeId × Value → H} {W : World} {base : Nat} {sp : Nat → Bool} {hl : Bool} {b0 : Nat} {v : Value} {d : DataW H} {p : List MemPlace}
    (hval : Value.okWide Tryd.prog W .any b0 30 v) (hd : DataW.Trod enc Tryd.prog W base sp hl 30 v d p) : ∃ r : List UInt8, r.length = 16 ∧ v = .agg (bv r).toArray := by
  unfold Value.okWide at hval
  rw [Tryd.underlying30] at hval
  obtain ⟨cs, rfl, _, _⟩ := hval
  obtain ⟨fuel, hf⟩ := hd
  obtain ⟨l, h1, h2⟩ := bytes_cells Tryd.underlying30 Tryd.cellsTag hf
  refine ⟨l, h1, ?_⟩
  rw [← h2]
  simp [Value.cells]

theorem cut53 (cs : List Value) (h : cs.length = 53) : cs = (cs.drop 0).take 1 ++ ((cs.drop 1).take 1 ++ ((cs.drop 2).take 32 ++ ((cs.drop 34).take 1 ++ ((cs.drop 35).take 1 ++ ((cs.drop 36).take 1 ++ (cs.drop 37).take 16))))) := by
  have e (i n m : Nat) (hm : i + n = m) : (cs.drop i).take n ++ cs.drop m = cs.drop i := by
    rw [← hm, ← List.drop_drop, List.take_append_drop]
  have e6 : (cs.drop 37).take 16 = cs.drop 37 := List.take_of_length_le (by rw [List.length_drop]; omega)
  rw [e6, e 36 1 37 rfl, e 35 1 36 rfl, e 34 1 35 rfl, e 2 32 34 rfl, e 1 1 2 rfl, e 0 1 1 rfl, List.drop_zero]

/-- A message that came in. -/
theorem open_msg {H : Type} {enc : TypeId × Value → H} {W : World} {b0 : Nat} {v : Value} {d : DataW H} {p : List MemPlace}
    (hval : Value.okWide Tryd.prog W .any b0 32 v) (hd : DataW.Trod enc Tryd.prog W 0 (fun _ => true) true 32 v d p) :
    ∃ (M : Msg) (sl : Value), v = .agg (mc M sl).toArray ∧ M.Fits ∧ BRow W W.heap.size sl M.l := by
  obtain ⟨cs, rfl, hsz⟩ := okWide_struct Tryd.underlying32 hval
  obtain ⟨l⟩ := cs
  have hlen : l.length = 53 := by rw [Tryd.cellsMsg] at hsz; simpa using hsz
  obtain ⟨fuel, hf⟩ := hd
  obtain ⟨xs, n, _, hx, _, hxl, hg⟩ := DataW.trod_struct Tryd.underlying32 hf
  match xs, hxl with
  | [y0, y1, y2, y3, y4, y5, y6], _ =>
    have g0 : DataW.trod enc Tryd.prog W 0 (fun _ => true) true n 3 (List.take (Tryd.prog.cellsOf 3) (List.drop 0 l)) = some y0 := hg 0 _ rfl
    have g1 : DataW.trod enc Tryd.prog W 0 (fun _ => true) true n 3 (List.take (Tryd.prog.cellsOf 3) (List.drop 1 l)) = some y1 := hg 1 _ rfl
    have g2 : DataW.trod enc Tryd.prog W 0 (fun _ => true) true n 26 (List.take (Tryd.prog.cellsOf 26) (List.drop 2 l)) = some y2 := hg 2 _ rfl
    have g3 : DataW.trod enc Tryd.prog W 0 (fun _ => true) true n 3 (List.take (Tryd.prog.cellsOf 3) (List.drop 34 l)) = some y3 := hg 3 _ rfl
    have g4 : DataW.trod enc Tryd.prog W 0 (fun _ => true) true n 27 (List.take (Tryd.prog.cellsOf 27) (List.drop 35 l)) = some y4 := hg 4 _ rfl
    have g5 : DataW.trod enc Tryd.prog W 0 (fun _ => true) true n 28 (List.take (Tryd.prog.cellsOf 28) (List.drop 36 l)) = some y5 := hg 5 _ rfl
    have g6 : DataW.trod enc Tryd.prog W 0 (fun _ => true) true n 30 (List.take (Tryd.prog.cellsOf 30) (List.drop 37 l)) = some y6 := hg 6 _ rfl
    rw [Tryd.cellsInt] at g0 g1 g3
    rw [Tryd.cellsRoot] at g2
    rw [Tryd.cellsU64] at g4
    rw [Tryd.cellsBools] at g5
    rw [Tryd.cellsTag] at g6
    obtain ⟨k, e0, _, _⟩ := DataW.trod_int Tryd.underlying3 g0
    obtain ⟨s, e1, _, _⟩ := DataW.trod_int Tryd.underlying3 g1
    obtain ⟨T, hT, e2⟩ := bytes_cells Tryd.underlying26 Tryd.cellsRoot g2
    obtain ⟨m, e3, _, _⟩ := DataW.trod_int Tryd.underlying3 g3
    obtain ⟨b, e4, _, hw4⟩ := DataW.trod_int Tryd.underlying27 g4
    obtain ⟨G, hG, e6⟩ := bytes_cells Tryd.underlying30 Tryd.cellsTag g6
    obtain ⟨sl, e5⟩ : ∃ sl, (l.drop 36).take 1 = [sl] := by
      have : ((l.drop 36).take 1).length = 1 := by rw [List.length_take, List.length_drop]; omega
      match h : (l.drop 36).take 1, this with
      | [x], _ => exact ⟨x, rfl⟩
    rw [e5] at g5
    obtain ⟨r, hr⟩ := opened_brow g5
    have hb : 0 ≤ b ∧ b < 18446744073709551616 := by
      simp only [Lit.wf, Bool.and_eq_true, decide_eq_true_eq] at hw4
      simp [IntKind.min, IntKind.max, IntKind.bits, IntKind.signed] at hw4
      omega
    obtain ⟨B, rfl⟩ : ∃ B : Nat, b = B := ⟨b.toNat, by omega⟩
    refine ⟨⟨k, s, T, m, B, r, G⟩, sl, ?_, ⟨hT, hG, by simp only; omega⟩, hr⟩
    have := cut53 l hlen
    rw [e0, e1, e2, e3, e4, e5, e6] at this
    rw [this]
    simp [mc]
end Go.Proofs.YtnbdpalbompjlaaDoor
