/-
  A configuration that came in, opened.
-/
import Derived.Test.YtnbdpalbompjlaaDoorM9
import Derived.ProofKit
import Derived.OpenShut
import Derived.ShutString
import Derived.ChangeOld
import Derived.Deep.SlicePairs
import Derived.Lib.SmallJoins
namespace Go.Proofs.YtnbdpalbompjlaaDoor
open Go.Joins Go.ChangeShapes Go.WideShapes Go.ChangeAt Go.RowKit Go.Deep
set_option maxRecDepth 10000

theorem Tryd.cells24 : Tryd.prog.cellsOf 24 = 12 := by kernel_rfl
theorem Tryd.cells3 : Tryd.prog.cellsOf 3 = 1 := by kernel_rfl
theorem Tryd.cells22 : Tryd.prog.cellsOf 22 = 1 := by kernel_rfl

/-- An int. -/
def I64 (n : Int) : Prop := -9223372036854775808 ≤ n ∧ n ≤ 9223372036854775807
theorem I64.of {n : Int} (h : (Lit.int .i64 n).wf = true) : I64 n := by
  simp only [Lit.wf, Bool.and_eq_true, decide_eq_true_eq] at h
  simpa [I64, IntKind.min, IntKind.max, IntKind.bits, IntKind.signed] using h

/-- Validators that came in. -/
theorem opened_vals {H : Type} {enc : TypeId × Value → H} {W : World} {ao : Option Addr} {len cap fuel : Nat} {x : DataW H × List MemPlace}
    (hf : DataW.trod enc Tryd.prog W 0 (fun _ => true) true fuel 22 [.slice ao len cap] = some x) :
    ∃ (b off : Nat) (vs : List (Int × ByteArray)), vs.length = len ∧ len ≤ cap ∧ cap ≤ maxLen ∧ Stakes vs ∧ Lies W W.heap.size ao b off (vc vs) := by
  rcases open_slice_pairs Tryd.underlying22 Tryd.underlying59 (by kernel_rfl) rfl rfl (by kernel_rfl) (by kernel_rfl) hf with ⟨hcs, _⟩ | ⟨a, l, c, m, n, V0, V1, D0, D1, P0, P1, hcs, _, hl, hcm, hm, _, hx⟩
  · simp at hcs
    obtain ⟨rfl, rfl, rfl⟩ := hcs
    exact ⟨0, 0, [], rfl, Nat.le_refl _, Nat.zero_le _, (fun v hv => by cases hv), fun h => absurd h (by simp [vc]), fun h => absurd h (by simp [vc]), fun j u h => by simp [vc] at h⟩
  · simp at hcs
    obtain ⟨rfl, rfl, rfl⟩ := hcs
    have hlm : len ≤ m := by rw [hm]; simpa using hl
    obtain ⟨b, off, spot⟩ := a
    have hT : ∀ j, j < len → ∃ t : Int, V0 j = .int .i64 t ∧ I64 t := fun j hj => by
      obtain ⟨t, h1, _, hw⟩ := DataW.trod_int Tryd.underlying3 (hx j (by omega)).2.2.1
      exact ⟨t, by simpa using h1, I64.of hw⟩
    have hN : ∀ j, j < len → ∃ s : ByteArray, V1 j = .string s := fun j hj => by
      obtain ⟨s, h1, _⟩ := DataW.trod_string Tryd.underlying9 (hx j (by omega)).2.2.2
      exact ⟨s, by simpa using h1⟩
    let F : Nat → (Int × ByteArray) := fun j => ((match V0 j with | .int _ t => t | _ => 0), (match V1 j with | .string s => s | _ => ByteArray.empty))
    have hF : ∀ j, j < len → V0 j = .int .i64 (F j).1 ∧ V1 j = .string (F j).2 ∧ I64 (F j).1 := fun j hj => by
      obtain ⟨t, ht, hb⟩ := hT j hj
      obtain ⟨s, hs⟩ := hN j hj
      simp only [F, ht, hs]
      exact ⟨trivial, trivial, hb⟩
    have hsp : 0 < len → spot = none ∧ b < W.heap.size := fun h0 => by
      have hc := (hx 0 (by omega)).1
      have hspot : spot = none := by simpa [Addr.add] using World.cell?_spot hc
      exact ⟨hspot, by simpa [Addr.add] using World.block_lt_of_cell? W _ hc⟩
    have hvl : ((List.range len).map F).length = len := by simp
    have hve : ∀ j, j < len → ((List.range len).map F)[j]? = some (F j) := fun j hj => by simp [hj]
    refine ⟨b, off, (List.range len).map F, hvl, hl, hcm, fun v hv => ?_, fun h0 => ?_, fun h0 => ?_, fun q u hq => ?_⟩
    · obtain ⟨j, hj, rfl⟩ := List.mem_map.1 hv
      exact (hF j (List.mem_range.1 hj)).2.2
    · rw [vc_length, hvl] at h0
      rw [(hsp (by omega)).1]
    · rw [vc_length, hvl] at h0
      exact (hsp (by omega)).2
    · have hql : q < len * 2 := by have := (List.getElem?_eq_some_iff.1 hq).1; rw [vc_length, hvl] at this; exact this
      have hj : q / 2 < len := by omega
      obtain ⟨h1, h2⟩ := vc_at _ (q / 2) _ (hve _ hj)
      obtain ⟨e0, e1, _⟩ := hF _ hj
      have g0 := (hx (q / 2) (by omega)).1
      have g1 := (hx (q / 2) (by omega)).2.1
      rw [(hsp (by omega)).1, Addr.add_lit, e0] at g0
      rw [(hsp (by omega)).1, Addr.add_lit, e1] at g1
      rcases Nat.mod_two_eq_zero_or_one q with hm2 | hm2
      · have hq2 : q / 2 * 2 = q := by omega
        rw [hq2] at h1 g0
        rw [h1] at hq
        cases hq
        exact g0
      · have hq2 : q / 2 * 2 + 1 = q := by omega
        rw [hq2] at h2 g1
        rw [h2] at hq
        cases hq
        exact g1

/-- A configuration that came in. -/
theorem open_cfg {H : Type} {enc : TypeId × Value → H} {W : World} {b0 : Nat} {v : Value} {d : DataW H} {p : List MemPlace}
    (hval : Value.okWide Tryd.prog W .any b0 24 v) (hd : DataW.Trod enc Tryd.prog W 0 (fun _ => true) true 24 v d p) :
    ∃ (nao : Option Addr) (nlen ncap : Nat) (n1 n2 n3 n4 n5 n6 n7 n8 n9 n10 n11 : Int) (b off : Nat) (vs : List (Int × ByteArray)), v = .agg #[.slice nao nlen ncap, .int .i64 n1, .int .i64 n2, .int .i64 n3, .int .i64 n4, .int .i64 n5, .int .i64 n6, .int .i64 n7, .int .i64 n8, .int .i64 n9, .int .i64 n10, .int .i64 n11] ∧ vs.length = nlen ∧ nlen ≤ ncap ∧ ncap ≤ maxLen ∧ Stakes vs ∧ Lies W W.heap.size nao b off (vc vs) ∧ I64 n1 ∧ (I64 n2 ∧ I64 n3 ∧ I64 n4 ∧ I64 n5 ∧ I64 n6 ∧ I64 n7 ∧ I64 n8 ∧ I64 n9 ∧ I64 n10 ∧ I64 n11) := by
  obtain ⟨cs, rfl, hsz⟩ := okWide_struct Tryd.underlying24 hval
  obtain ⟨l⟩ := cs
  match l, hsz.trans Tryd.cells24 with
  | [c0, c1, c2, c3, c4, c5, c6, c7, c8, c9, c10, c11], _ =>
    obtain ⟨fuel, hf⟩ := hd
    obtain ⟨xs, n, _, hx, _, hlen, hg⟩ := DataW.trod_struct Tryd.underlying24 hf
    match xs, hlen with
    | [y0, y1, y2, y3, y4, y5, y6, y7, y8, y9, y10, y11], _ =>
      have g0 : DataW.trod enc Tryd.prog W 0 (fun _ => true) true n 22 (List.take (Tryd.prog.cellsOf 22) (List.drop 0 [c0, c1, c2, c3, c4, c5, c6, c7, c8, c9, c10, c11])) = some y0 := hg 0 _ rfl
      rw [Tryd.cells22] at g0
      have k0 : DataW.trod enc Tryd.prog W 0 (fun _ => true) true n 22 [c0] = some y0 := g0
      have g1 : DataW.trod enc Tryd.prog W 0 (fun _ => true) true n 3 (List.take (Tryd.prog.cellsOf 3) (List.drop 1 [c0, c1, c2, c3, c4, c5, c6, c7, c8, c9, c10, c11])) = some y1 := hg 1 _ rfl
      rw [Tryd.cells3] at g1
      have k1 : DataW.trod enc Tryd.prog W 0 (fun _ => true) true n 3 [c1] = some y1 := g1
      have g2 : DataW.trod enc Tryd.prog W 0 (fun _ => true) true n 3 (List.take (Tryd.prog.cellsOf 3) (List.drop 2 [c0, c1, c2, c3, c4, c5, c6, c7, c8, c9, c10, c11])) = some y2 := hg 2 _ rfl
      rw [Tryd.cells3] at g2
      have k2 : DataW.trod enc Tryd.prog W 0 (fun _ => true) true n 3 [c2] = some y2 := g2
      have g3 : DataW.trod enc Tryd.prog W 0 (fun _ => true) true n 3 (List.take (Tryd.prog.cellsOf 3) (List.drop 3 [c0, c1, c2, c3, c4, c5, c6, c7, c8, c9, c10, c11])) = some y3 := hg 3 _ rfl
      rw [Tryd.cells3] at g3
      have k3 : DataW.trod enc Tryd.prog W 0 (fun _ => true) true n 3 [c3] = some y3 := g3
      have g4 : DataW.trod enc Tryd.prog W 0 (fun _ => true) true n 3 (List.take (Tryd.prog.cellsOf 3) (List.drop 4 [c0, c1, c2, c3, c4, c5, c6, c7, c8, c9, c10, c11])) = some y4 := hg 4 _ rfl
      rw [Tryd.cells3] at g4
      have k4 : DataW.trod enc Tryd.prog W 0 (fun _ => true) true n 3 [c4] = some y4 := g4
      have g5 : DataW.trod enc Tryd.prog W 0 (fun _ => true) true n 3 (List.take (Tryd.prog.cellsOf 3) (List.drop 5 [c0, c1, c2, c3, c4, c5, c6, c7, c8, c9, c10, c11])) = some y5 := hg 5 _ rfl
      rw [Tryd.cells3] at g5
      have k5 : DataW.trod enc Tryd.prog W 0 (fun _ => true) true n 3 [c5] = some y5 := g5
      have g6 : DataW.trod enc Tryd.prog W 0 (fun _ => true) true n 3 (List.take (Tryd.prog.cellsOf 3) (List.drop 6 [c0, c1, c2, c3, c4, c5, c6, c7, c8, c9, c10, c11])) = some y6 := hg 6 _ rfl
      rw [Tryd.cells3] at g6
      have k6 : DataW.trod enc Tryd.prog W 0 (fun _ => true) true n 3 [c6] = some y6 := g6
      have g7 : DataW.trod enc Tryd.prog W 0 (fun _ => true) true n 3 (List.take (Tryd.prog.cellsOf 3) (List.drop 7 [c0, c1, c2, c3, c4, c5, c6, c7, c8, c9, c10, c11])) = some y7 := hg 7 _ rfl
      rw [Tryd.cells3] at g7
      have k7 : DataW.trod enc Tryd.prog W 0 (fun _ => true) true n 3 [c7] = some y7 := g7
      have g8 : DataW.trod enc Tryd.prog W 0 (fun _ => true) true n 3 (List.take (Tryd.prog.cellsOf 3) (List.drop 8 [c0, c1, c2, c3, c4, c5, c6, c7, c8, c9, c10, c11])) = some y8 := hg 8 _ rfl
      rw [Tryd.cells3] at g8
      have k8 : DataW.trod enc Tryd.prog W 0 (fun _ => true) true n 3 [c8] = some y8 := g8
      have g9 : DataW.trod enc Tryd.prog W 0 (fun _ => true) true n 3 (List.take (Tryd.prog.cellsOf 3) (List.drop 9 [c0, c1, c2, c3, c4, c5, c6, c7, c8, c9, c10, c11])) = some y9 := hg 9 _ rfl
      rw [Tryd.cells3] at g9
      have k9 : DataW.trod enc Tryd.prog W 0 (fun _ => true) true n 3 [c9] = some y9 := g9
      have g10 : DataW.trod enc Tryd.prog W 0 (fun _ => true) true n 3 (List.take (Tryd.prog.cellsOf 3) (List.drop 10 [c0, c1, c2, c3, c4, c5, c6, c7, c8, c9, c10, c11])) = some y10 := hg 10 _ rfl
      rw [Tryd.cells3] at g10
      have k10 : DataW.trod enc Tryd.prog W 0 (fun _ => true) true n 3 [c10] = some y10 := g10
      have g11 : DataW.trod enc Tryd.prog W 0 (fun _ => true) true n 3 (List.take (Tryd.prog.cellsOf 3) (List.drop 11 [c0, c1, c2, c3, c4, c5, c6, c7, c8, c9, c10, c11])) = some y11 := hg 11 _ rfl
      rw [Tryd.cells3] at g11
      have k11 : DataW.trod enc Tryd.prog W 0 (fun _ => true) true n 3 [c11] = some y11 := g11
      obtain ⟨n1, e1, _, w1⟩ := DataW.trod_int Tryd.underlying3 k1
      obtain rfl : c1 = .int .i64 n1 := by simpa using e1
      obtain ⟨n2, e2, _, w2⟩ := DataW.trod_int Tryd.underlying3 k2
      obtain rfl : c2 = .int .i64 n2 := by simpa using e2
      obtain ⟨n3, e3, _, w3⟩ := DataW.trod_int Tryd.underlying3 k3
      obtain rfl : c3 = .int .i64 n3 := by simpa using e3
      obtain ⟨n4, e4, _, w4⟩ := DataW.trod_int Tryd.underlying3 k4
      obtain rfl : c4 = .int .i64 n4 := by simpa using e4
      obtain ⟨n5, e5, _, w5⟩ := DataW.trod_int Tryd.underlying3 k5
      obtain rfl : c5 = .int .i64 n5 := by simpa using e5
      obtain ⟨n6, e6, _, w6⟩ := DataW.trod_int Tryd.underlying3 k6
      obtain rfl : c6 = .int .i64 n6 := by simpa using e6
      obtain ⟨n7, e7, _, w7⟩ := DataW.trod_int Tryd.underlying3 k7
      obtain rfl : c7 = .int .i64 n7 := by simpa using e7
      obtain ⟨n8, e8, _, w8⟩ := DataW.trod_int Tryd.underlying3 k8
      obtain rfl : c8 = .int .i64 n8 := by simpa using e8
      obtain ⟨n9, e9, _, w9⟩ := DataW.trod_int Tryd.underlying3 k9
      obtain rfl : c9 = .int .i64 n9 := by simpa using e9
      obtain ⟨n10, e10, _, w10⟩ := DataW.trod_int Tryd.underlying3 k10
      obtain rfl : c10 = .int .i64 n10 := by simpa using e10
      obtain ⟨n11, e11, _, w11⟩ := DataW.trod_int Tryd.underlying3 k11
      obtain rfl : c11 = .int .i64 n11 := by simpa using e11
      have hform : ∃ ao len cap, c0 = .slice ao len cap := by
        rcases DataW.trod_slice Tryd.underlying22 k0 with ⟨hcs, _⟩ | ⟨a, l, c, elems, rest, m, _, hcs, _⟩
        · exact ⟨_, _, _, by simpa using hcs⟩
        · exact ⟨_, _, _, by simpa using hcs⟩
      obtain ⟨ao, len, cap, rfl⟩ := hform
      obtain ⟨b, off, vs, h1, h2, h3, h4, h5⟩ := opened_vals k0
      exact ⟨ao, len, cap, n1, n2, n3, n4, n5, n6, n7, n8, n9, n10, n11, b, off, vs, rfl, h1, h2, h3, h4, h5, I64.of w1, I64.of w2, I64.of w3, I64.of w4, I64.of w5, I64.of w6, I64.of w7, I64.of w8, I64.of w9, I64.of w10, I64.of w11⟩
end Go.Proofs.YtnbdpalbompjlaaDoor
