/-
  The texts RefAdd, RefNew, WideName, RefSame10, RefBelow, one behind the other.
-/
import Derived.Test.YtjodhagjfjgbcaaIsM8
import Derived.Test.YtjodhagjfjgbcaaIsM6
/-
  The document's own tree: its Add.
-/
namespace Go.Proofs.Ytjodhagjfjgbcaa
open Go Go.RowKit
set_option maxRecDepth 10000

theorem slots_at {w : World} {B b off : Nat} {ao : Option Addr} {t : List Nd} (h : Lies w B ao b off (zs t)) {i : Nat} {n : Nd} (hi : t[i]? = some n) : ao = some ⟨b, off, none⟩ ∧ w.cell? ⟨b, off + i, none⟩ = some (.int .i64 n.2.1) :=
  ⟨h.addr (by rw [zs_length]; have := (List.getElem?_eq_some_iff.1 hi).1; omega), h.cells i _ (zs_at hi)⟩
theorem sls_form {w : World} {F : List Nat} {b : Nat} {most : Int} {v1 v2 v3 v1' v2' v3' : Value} {t : List Nd} {r p : List UInt8} {s : Int} {i : Nat} {m : Nd} (G : Good t most) (hi : t[i]? = some m) (hp : m.1 = p)
    (h : Sls w F b 44 ((((refItems v1 v2 v3 t).set 0 (32, v1', rv (rs t) ++ bv r)).set 1 (1, v2', zs t ++ [.int .i64 s])).set 2 (32, v3', rv (pns t) ++ bv p)) [.int .i64 most]) :
    Sls w F b 44 (refItems v1' v2' v3' (t ++ [(r, s, (i : Int))])) [.int .i64 most] := by
  have e : (((refItems v1 v2 v3 t).set 0 (32, v1', rv (rs t) ++ bv r)).set 1 (1, v2', zs t ++ [.int .i64 s])).set 2 (32, v3', rv (pns t) ++ bv p) = refItems v1' v2' v3' (t ++ [(r, s, (i : Int))]) := by
    unfold refItems
    rw [rs_append, rv_append, zs_append, G.pns_snoc hi, rv_append, hp, rv_sole]
    simp [rs, rv, zs]
  rw [← e]
  exact h
theorem plc_name {t : List Nd} {p : List UInt8} {i : Nat} {m : Nd} (h : plc t p = (i : Int)) (hi : t[i]? = some m) : m.1 = p := by
  rcases plc_cases t p with ⟨j, n, hj, hn, hp, _⟩ | ⟨_, hp⟩
  · rw [h] at hp
    have : i = j := by omega
    subst this
    rw [hi] at hj; cases hj; exact hn
  · omega

set_option maxHeartbeats 8000000 in
theorem refadd_any (w : World) (F : List Nat) (b : Nat) (t : List Nd) (most : Int) (r p : List UInt8) (s : Int) (h : Ref w F b t most) (hr : r.length = 32) (hp : p.length = 32) :
    Calls Try.prog 31 #[.pointer (some ⟨b, 0, none⟩), .agg (bv r).toArray, .agg (bv p).toArray, .int .i64 s] w fun e w' => e = .returned (.int .i64 (addT most t r p s).1) ∧ ∃ F', Ref w' F' b (addT most t r p s).2 most ∧ Kept F w w' ∧ NewF w F F' := by
  obtain ⟨i0, hi0, hz0, hz1, hz2⟩ := info_parts Try.infoRootB
  have hzc : (Value.agg (bv zero32).toArray).cells.size = 32 := by simp [Value.cells, bv_length, zero32]
  obtain ⟨j0, ji0, jz0, jz1, jz2⟩ := info_parts Try.info3
  have jzc : (Value.int .i64 0).cells.size = 1 := rfl
  have hb1 : Below w.heap.size w ((w.alloc (.cells (bv r).toArray 24)).alloc (.cells (bv p).toArray 24)) := ((Below.refl _ w).alloc (Nat.le_refl _) _).alloc (by simp) _
  have HB := Lib.hid hb1
  have HX := Lib.hid ((Blk.new w 24 (bv r).toArray).alloc (.cells (bv p).toArray 24))
  have HY := Lib.hid (Blk.newAt (w.alloc (.cells (bv r).toArray 24)) 24 (bv p).toArray (w.heap.size + 1) (by simp))
  have H1 := Lib.hid (h.below hb1)
  have HLow := Lib.hid h.low
  obtain ⟨X, hX⟩ : ∃ X, X = w.heap.size := ⟨_, rfl⟩
  obtain ⟨Y, hY⟩ : ∃ Y, Y = w.heap.size + 1 := ⟨_, rfl⟩
  have HXF := Lib.hid (show ∀ x ∈ F, x ≠ X ∧ x ≠ Y from fun x hx => by have := h.low x hx; omega)
  have HG := Lib.hid h.1
  have g1 := h.1.most256
  have g3 := h.1.room
  clear hb1 h
  go_enter Try.func31, Try.ntmps31
  go_upto_region 1 with fail
  rw [← hY] at HY ⊢
  rw [← hX] at HX ⊢
  generalize (w.alloc (.cells (bv r).toArray 24)).alloc (.cells (bv p).toArray 24) = w1 at HB HX HY H1 ⊢
  clear hX hY
  have HXA := Lib.hid HX.out.rootAll
  rcases addT_cases most t r p s with ⟨h1, h⟩ | ⟨h1, h2, h⟩ | ⟨i, m, h1, h2, hi, h3, h⟩ | ⟨i, m, h1, h2, hi, h3, h4, h⟩ | ⟨i, m, h1, h2, hi, h3, h4, h5, h⟩ | ⟨i, m, h1, h2, hi, h3, h4, h5, h⟩
  · have HA := Lib.hid h
    have HP1 := Lib.hid (refplace_any w1 F b t most r H1.out hr)
    clear h
    go_wp2_with ((with_reducible refine wpList_load_name (.tmp 5) ?_ ?_ X 0 r ?_ hr HXA.out ?_); rfl; rfl; rfl)
    refine HP1.out.mono ?_
    rintro e w2 ⟨rfl, hb2⟩
    have HB2 := Lib.hid (HB.out.trans (hb2.mono HB.out.size))
    have H2 := Lib.hid (H1.out.below hb2)
    clear hb2 HP1 HXA HX HY
    go_wp2_with fail
    go_ret
    rw [HA.out]
    exact ⟨rfl, F, H2.out, Kept.of_below F HB2.out, NewF.refl _ _⟩
  · have HA := Lib.hid h
    have HP1 := Lib.hid (refplace_any w1 F b t most r H1.out hr)
    rw [h1] at HP1
    clear h h1
    go_wp2_with ((with_reducible refine wpList_load_name (.tmp 5) ?_ ?_ X 0 r ?_ hr HXA.out ?_); rfl; rfl; rfl)
    refine HP1.out.mono ?_
    rintro e w2 ⟨rfl, hb2⟩
    have HB2 := Lib.hid (HB.out.trans (hb2.mono HB.out.size))
    have H2 := Lib.hid (H1.out.below hb2)
    have HX2 := Lib.hid (HX.out.below hb2 HX.out.lt)
    have HY2 := Lib.hid (HY.out.below hb2 HY.out.lt)
    have HYA := Lib.hid HY2.out.rootAll
    have HP2 := Lib.hid (refplace_any w2 F b t most p H2.out hp)
    rw [h2] at HP2
    clear hb2 HP1 HXA HX HY h2
    go_wp2_with ((with_reducible refine wpList_load_name (.tmp 6) ?_ ?_ Y 0 p ?_ hp HYA.out ?_); rfl; rfl; rfl)
    refine HP2.out.mono ?_
    rintro e w3 ⟨rfl, hb3⟩
    have HB3 := Lib.hid (HB2.out.trans (hb3.mono HB2.out.size))
    have H3 := Lib.hid (H2.out.below hb3)
    clear hb3 HP2 HYA H2 HX2 HY2 HB2
    go_wp2_with fail
    go_ret
    rw [HA.out]
    exact ⟨rfl, F, H3.out, Kept.of_below F HB3.out, NewF.refl _ _⟩
  · have HA := Lib.hid h
    have HP1 := Lib.hid (refplace_any w1 F b t most r H1.out hr)
    rw [h1] at HP1
    clear h h1
    go_wp2_with ((with_reducible refine wpList_load_name (.tmp 5) ?_ ?_ X 0 r ?_ hr HXA.out ?_); rfl; rfl; rfl)
    refine HP1.out.mono ?_
    rintro e w2 ⟨rfl, hb2⟩
    have HB2 := Lib.hid (HB.out.trans (hb2.mono HB.out.size))
    have H2 := Lib.hid (H1.out.below hb2)
    have HX2 := Lib.hid (HX.out.below hb2 HX.out.lt)
    have HY2 := Lib.hid (HY.out.below hb2 HY.out.lt)
    have HYA := Lib.hid HY2.out.rootAll
    have HP2 := Lib.hid (refplace_any w2 F b t most p H2.out hp)
    rw [h2] at HP2
    clear hb2 HP1 HXA HX HY h2
    go_wp2_with ((with_reducible refine wpList_load_name (.tmp 6) ?_ ?_ Y 0 p ?_ hp HYA.out ?_); rfl; rfl; rfl)
    refine HP2.out.mono ?_
    rintro e w3 ⟨rfl, hb3⟩
    have HB3 := Lib.hid (HB2.out.trans (hb3.mono HB2.out.size))
    have H3 := Lib.hid (H2.out.below hb3)
    have HX3 := Lib.hid (HX2.out.below hb3 HX2.out.lt)
    have HY3 := Lib.hid (HY2.out.below hb3 HY2.out.lt)
    clear hb3 HP2 HYA H2 HX2 HY2 HB2
    obtain ⟨a1, a2, a3, k1, k2, k3, g1', g2', g3', o1, o2, o3, hS⟩ := H3.out.open
    obtain ⟨ha2, cS⟩ := slots_at hS.l2 hi
    subst ha2
    have c0 := hS.cell0
    have c1 := hS.cell1
    have c3 := hS.cell3
    have hil : i < t.length := (List.getElem?_eq_some_iff.1 hi).1
    have HI := Lib.hid hi
    have HS := Lib.hid hS
    clear hi hS
    go_wp2_with fail
    go_ret
    rw [HA.out]
    exact ⟨rfl, F, H3.out, Kept.of_below F HB3.out, NewF.refl _ _⟩
  · have HA := Lib.hid h
    have HP1 := Lib.hid (refplace_any w1 F b t most r H1.out hr)
    rw [h1] at HP1
    clear h h1
    go_wp2_with ((with_reducible refine wpList_load_name (.tmp 5) ?_ ?_ X 0 r ?_ hr HXA.out ?_); rfl; rfl; rfl)
    refine HP1.out.mono ?_
    rintro e w2 ⟨rfl, hb2⟩
    have HB2 := Lib.hid (HB.out.trans (hb2.mono HB.out.size))
    have H2 := Lib.hid (H1.out.below hb2)
    have HX2 := Lib.hid (HX.out.below hb2 HX.out.lt)
    have HY2 := Lib.hid (HY.out.below hb2 HY.out.lt)
    have HYA := Lib.hid HY2.out.rootAll
    have HP2 := Lib.hid (refplace_any w2 F b t most p H2.out hp)
    rw [h2] at HP2
    clear hb2 HP1 HXA HX HY h2
    go_wp2_with ((with_reducible refine wpList_load_name (.tmp 6) ?_ ?_ Y 0 p ?_ hp HYA.out ?_); rfl; rfl; rfl)
    refine HP2.out.mono ?_
    rintro e w3 ⟨rfl, hb3⟩
    have HB3 := Lib.hid (HB2.out.trans (hb3.mono HB2.out.size))
    have H3 := Lib.hid (H2.out.below hb3)
    have HX3 := Lib.hid (HX2.out.below hb3 HX2.out.lt)
    have HY3 := Lib.hid (HY2.out.below hb3 HY2.out.lt)
    clear hb3 HP2 HYA H2 HX2 HY2 HB2
    obtain ⟨a1, a2, a3, k1, k2, k3, g1', g2', g3', o1, o2, o3, hS⟩ := H3.out.open
    obtain ⟨ha2, cS⟩ := slots_at hS.l2 hi
    subst ha2
    have c0 := hS.cell0
    have c1 := hS.cell1
    have c3 := hS.cell3
    have hil : i < t.length := (List.getElem?_eq_some_iff.1 hi).1
    have HI := Lib.hid hi
    have HS := Lib.hid hS
    clear hi hS
    have d2 : ¬ (s ≤ m.2.1) := by omega
    go_wp2_with fail
    go_ret
    rw [HA.out]
    exact ⟨rfl, F, H3.out, Kept.of_below F HB3.out, NewF.refl _ _⟩
  · have HA := Lib.hid h
    have HP1 := Lib.hid (refplace_any w1 F b t most r H1.out hr)
    rw [h1] at HP1
    clear h h1
    go_wp2_with ((with_reducible refine wpList_load_name (.tmp 5) ?_ ?_ X 0 r ?_ hr HXA.out ?_); rfl; rfl; rfl)
    refine HP1.out.mono ?_
    rintro e w2 ⟨rfl, hb2⟩
    have HB2 := Lib.hid (HB.out.trans (hb2.mono HB.out.size))
    have H2 := Lib.hid (H1.out.below hb2)
    have HX2 := Lib.hid (HX.out.below hb2 HX.out.lt)
    have HY2 := Lib.hid (HY.out.below hb2 HY.out.lt)
    have HYA := Lib.hid HY2.out.rootAll
    have HP2 := Lib.hid (refplace_any w2 F b t most p H2.out hp)
    rw [h2] at HP2
    clear hb2 HP1 HXA HX HY h2
    go_wp2_with ((with_reducible refine wpList_load_name (.tmp 6) ?_ ?_ Y 0 p ?_ hp HYA.out ?_); rfl; rfl; rfl)
    refine HP2.out.mono ?_
    rintro e w3 ⟨rfl, hb3⟩
    have HB3 := Lib.hid (HB2.out.trans (hb3.mono HB2.out.size))
    have H3 := Lib.hid (H2.out.below hb3)
    have HX3 := Lib.hid (HX2.out.below hb3 HX2.out.lt)
    have HY3 := Lib.hid (HY2.out.below hb3 HY2.out.lt)
    clear hb3 HP2 HYA H2 HX2 HY2 HB2
    obtain ⟨a1, a2, a3, k1, k2, k3, g1', g2', g3', o1, o2, o3, hS⟩ := H3.out.open
    obtain ⟨ha2, cS⟩ := slots_at hS.l2 hi
    subst ha2
    have c0 := hS.cell0
    have c1 := hS.cell1
    have c3 := hS.cell3
    have hil : i < t.length := (List.getElem?_eq_some_iff.1 hi).1
    have HI := Lib.hid hi
    have HS := Lib.hid hS
    clear hi hS
    have d2 : ¬ (s ≤ m.2.1) := by omega
    have d3 : ¬ ((1073741824 : Int) < s) := by omega
    have d5 : most ≤ (t.length : Int) := h5
    go_wp2_with fail
    go_quiet (fail)
    go_wp2_with fail
    go_ret
    rw [HA.out]
    exact ⟨rfl, F, H3.out.below (below_dN (Below.refl _ _) _), Kept.of_below F (below_dN HB3.out _), NewF.refl _ _⟩
  · have HA := Lib.hid h
    have HP1 := Lib.hid (refplace_any w1 F b t most r H1.out hr)
    rw [h1] at HP1
    have HPR := Lib.hid h1
    clear h h1
    go_wp2_with ((with_reducible refine wpList_load_name (.tmp 5) ?_ ?_ X 0 r ?_ hr HXA.out ?_); rfl; rfl; rfl)
    refine HP1.out.mono ?_
    rintro e w2 ⟨rfl, hb2⟩
    have HB2 := Lib.hid (HB.out.trans (hb2.mono HB.out.size))
    have H2 := Lib.hid (H1.out.below hb2)
    have HX2 := Lib.hid (HX.out.below hb2 HX.out.lt)
    have HY2 := Lib.hid (HY.out.below hb2 HY.out.lt)
    have HYA := Lib.hid HY2.out.rootAll
    have HP2 := Lib.hid (refplace_any w2 F b t most p H2.out hp)
    rw [h2] at HP2
    have HPN := Lib.hid (plc_name h2 hi)
    clear hb2 HP1 HXA HX HY h2
    go_wp2_with ((with_reducible refine wpList_load_name (.tmp 6) ?_ ?_ Y 0 p ?_ hp HYA.out ?_); rfl; rfl; rfl)
    refine HP2.out.mono ?_
    rintro e w3 ⟨rfl, hb3⟩
    have HB3 := Lib.hid (HB2.out.trans (hb3.mono HB2.out.size))
    have H3 := Lib.hid (H2.out.below hb3)
    have HX3 := Lib.hid (HX2.out.below hb3 HX2.out.lt)
    have HY3 := Lib.hid (HY2.out.below hb3 HY2.out.lt)
    clear hb3 HP2 HYA H2 HX2 HY2 HB2
    obtain ⟨a1, a2, a3, k1, k2, k3, g1', g2', g3', o1, o2, o3, hS⟩ := H3.out.open
    obtain ⟨ha2, cS⟩ := slots_at hS.l2 hi
    subst ha2
    have c0 := hS.cell0
    have c1 := hS.cell1
    have c3 := hS.cell3
    have hil : i < t.length := (List.getElem?_eq_some_iff.1 hi).1
    have HI := Lib.hid hi
    have HS := Lib.hid hS
    clear hi hS
    have d2 : ¬ (s ≤ m.2.1) := by omega
    have d3 : ¬ ((1073741824 : Int) < s) := by omega
    have d5 : ¬ (most ≤ (t.length : Int)) := by omega
    go_wp2_with fail
    go_quiet (fail)
    have H4 := Lib.hid (HS.out.below (below_dN (Below.refl _ _) nq))
    have HK4 := Lib.hid (Kept.of_below F (below_dN HB3.out nq))
    have HX4 := Lib.hid (HX3.out.drewN nq)
    have HY4 := Lib.hid (HY3.out.drewN nq)
    generalize w3.drewN nq = w4 at H4 HK4 HX4 HY4 ⊢
    clear c0 c1 c3 cS HS H3 HB3 HX3 HY3
    have HS4 := Lib.hid H4.out.sls
    clear H4
    go_upto_region 8 with fail
    have HBLK := Lib.hid HS4.out.blk
    have HCE := Lib.hid (show ((refItems (.slice a1 t.length k1) (.slice (some ⟨g2', o2, none⟩) t.length k2) (.slice a3 t.length k3) t).map (·.2.1) ++ [.int .i64 most])[0]? = some (.slice a1 t.length k1) from rfl)
    have HWD := Lib.hid (HS4.out.wide (32, .slice a1 t.length k1, rv (rs t)) (by simp [refItems]))
    have HNB := Lib.hid (show b ∉ ownL (.slice a1 t.length k1) from fun hx => HS4.out.nb (32, .slice a1 t.length k1, rv (rs t)) (by simp [refItems]) (mem_ownL.1 hx))
    have HXO := Lib.hid (show X ∉ ownL (.slice a1 t.length k1) from fun hx => (HXF.out X (HS4.out.inv (32, .slice a1 t.length k1, rv (rs t)) (by simp [refItems]) X (mem_ownL.1 hx))).1 rfl)
    have HBF := Lib.hid HS4.out.inb
    have HI2 := Lib.hid (show ∀ q, (Value.slice (some ⟨g2', o2, none⟩) t.length k2).ownBlock = some q → q ∈ F from fun q hq => HS4.out.inv (1, .slice (some ⟨g2', o2, none⟩) t.length k2, zs t) (by simp [refItems]) q hq)
    have HI3 := Lib.hid (show ∀ q, (Value.slice a3 t.length k3).ownBlock = some q → q ∈ F from fun q hq => HS4.out.inv (32, .slice a3 t.length k3, rv (pns t)) (by simp [refItems]) q hq)
    have HL1 := Lib.hid (show (rv (rs t)).length = t.length * 32 by rw [rv_length _ HG.out.rts, rs_length])
    have HL3 := Lib.hid (show (rv (pns t)).length = t.length * 32 by rw [rv_length _ HG.out.pns_len, pns_length])
    refine wp_region_freeK (P := Try.prog) 10 (fun w' => Kept (ownL (.slice a1 t.length k1)) w4 w' ∧ Wide 32 w' 0 (.slice a1 t.length k1) (rv (rs t))) (fun oq v w' => match oq with
        | 0 => v = .pointer (some ⟨b, 0, none⟩)
        | 1 => v = .pointer (some ⟨b, 0, none⟩)
        | 2 => v = .pointer (some ⟨b, 0, none⟩)
        | 3 => v = .pointer (some ⟨b, 0, none⟩)
        | 4 => v = .slice a1 t.length k1
        | 5 => v = .agg (bv r).toArray
        | 6 => ∃ g, v = .slice (some ⟨g, 0, none⟩) 1 1 ∧ Lies w' w'.heap.size (some ⟨g, 0, none⟩) g 0 (bv r)
        | 7 => Wide 32 w' 0 v (rv (rs t) ++ bv r) ∧ (v.ownBlock = Value.ownBlock (.slice a1 t.length k1) ∨ ∃ j, v.ownBlock = some j ∧ w4.heap.size ≤ j)
        | 8 => v = .pointer (some ⟨b, 0, none⟩)
        | 9 => v = .pointer (some ⟨b, 0, none⟩)
        | _ => True) (fun hh oq => match oq with
        | 6 => hh 7
        | _ => false) [] (by kernel_rfl) (by kernel_rfl) (by kernel_rfl) ⟨(Kept.refl _ _).drew, HWD.out.below (Below.refl _ _).drew⟩ ?gb ?vb ?db ?steps ?fin
    case gb => exact fun a b h1 h2 => ⟨h1.1.then h2, h1.2.below h2⟩
    case vb =>
      intro oq v a b h hb
      match oq with
      | 0 => exact h
      | 1 => exact h
      | 2 => exact h
      | 3 => exact h
      | 4 => exact h
      | 5 => exact h
      | 6 => (obtain ⟨g, h1, h2⟩ := h; exact ⟨g, h1, h2.below hb⟩)
      | 7 => exact ⟨h.1.below hb, h.2⟩
      | 8 => exact h
      | 9 => exact h
      | _ + 10 => trivial
    case db =>
      intro hh i oq h
      split at h
      · exact turnOn_of h
      · cases h
    case steps =>
      intro vals
      simp only [List.take_succ_cons, List.take_zero, freeStepsK, Act.put, List.setIfInBounds_toArray, List.set_cons_zero, List.set_cons_succ, Nat.reduceAdd]
      refine ⟨fun hh w8 hi hK hG hW hV => ?_, fun hh w8 hi hK hG hW hV => ?_, fun hh w8 hi hK hG hW hV => ?_, fun hh w8 hi hK hG hW hV => ?_, fun hh w8 hi hK hG hW hV => ?_, fun hh w8 hi hK hG hW hV => ?_, fun hh w8 hi hK hG hW hV => ?_, fun hh w8 hi hK hG hW hV => ?_, fun hh w8 hi hK hG hW hV => ?_, fun hh w8 hi hK hG hW hV => ?_, trivial⟩
      · clear hW hV hK hi
        refine stepAt_value rfl rfl rfl (.pointer (some ⟨b, 0, none⟩)) w8 ?_ ⟨rfl, .inl (Below.refl _ _)⟩
        go_simp
      · clear hW hV hK hi
        refine stepAt_value rfl rfl rfl (.pointer (some ⟨b, 0, none⟩)) w8 ?_ ⟨rfl, .inl (Below.refl _ _)⟩
        go_simp
      · have q1 := hV 1 (hW 1 (by decide)) rfl
        simp only at q1
        rw [q1]
        clear hW hV hK hi
        refine stepAt_value rfl rfl rfl (.pointer (some ⟨b, 0, none⟩)) w8 ?_ ⟨rfl, .inl (Below.refl _ _)⟩
        go_simp
      · have q2 := hV 2 (hW 2 (by decide)) rfl
        simp only at q2
        rw [q2]
        clear hW hV hK hi
        refine stepAt_value rfl rfl rfl (.pointer (some ⟨b, 0, none⟩)) w8 ?_ ⟨rfl, .inl (Below.refl _ _)⟩
        go_simp
      · have q3 := hV 3 (hW 3 (by decide)) rfl
        simp only at q3
        rw [q3]
        clear hW hV hK hi
        have c := ((HBLK.out.kept hG.1 HNB.out).cell 0).trans HCE.out
        refine stepAt_value rfl rfl rfl (.slice a1 t.length k1) w8 ?_ ⟨rfl, .inl (Below.refl _ _)⟩
        go_simp
      · clear hW hV hK hi
        refine stepAt_load_run rfl rfl rfl _ _ rfl _ _ rfl (run_load_root hr (HX4.out.kept hG.1 HXO.out).rootAll) ⟨rfl, .inl (Below.refl _ _)⟩
      · have q5 := hV 5 (hW 5 (by decide)) rfl
        simp only at q5
        rw [q5]
        clear hW hV hK hi
        refine stepAt_build_rows rfl rfl rfl 37 24 1 _ rfl i0 (.agg (bv zero32).toArray) (s := 32) (by omega) [bv r] (fun rr hrr => by simp at hrr; rw [hrr]; exact (by rw [bv_length, hr])) Try.underlying37 hi0 hz0 hz1 rfl (by omega) (by omega) rfl ⟨⟨w8.heap.size, rfl, ?_⟩, .inl ((Below.refl _ _).alloc (Nat.le_refl _) _)⟩
        rw [show ([bv r] : List (List Value)).flatten = bv r by simp]
        exact ⟨fun _ => rfl, fun _ => by simp, fun j u hj => by rw [Nat.zero_add]; exact ((Blk.new w8 24 (bv r).toArray).cell j).trans hj⟩
      · have q4 := hV 4 (hW 4 (by decide)) rfl
        simp only at q4
        obtain ⟨g, q6, hl6⟩ := hV 6 (hW 6 (by decide)) hi
        rw [q4, q6]
        refine stepAt_append_wide2 rfl rfl rfl _ _ 37 37 rfl rfl hG.2 (by omega) 24 i0 (.agg (bv zero32).toArray) 32 Try.underlying37 hi0 hz0 hz1 hz2 hzc _ rfl 1 (bv r) (hl6.src 1 37 24 Try.underlying37 ((by rw [bv_length, hr])) (bv_one r) (by omega)) ?_ ?_ (Nat.zero_le _) fun v' w' h1 h2 h3 => ⟨⟨h1, ?_⟩, .inr ⟨⟨hG.1.trans (Kept.of_grown _ h2.grown (fun j hj => mem_ownL.2 hj)) (NewF.refl _ _), h3⟩, fun j hj hd => ?_⟩⟩
        · rw [HL1.out]; unfold maxLen; omega
        · rw [HL1.out]; omega
        · rcases h2.own with h | ⟨j, h, hj⟩
          · exact .inl h
          · exact .inr ⟨j, h, Nat.le_trans hG.1.size hj⟩
        · match j, hj, hd with
          | 0, hj, _ => exact hV 0 hj rfl
          | 1, hj, _ => exact hV 1 hj rfl
          | 2, hj, _ => exact hV 2 hj rfl
          | 3, hj, _ => exact hV 3 hj rfl
          | 4, hj, _ => exact hV 4 hj rfl
          | 5, hj, _ => exact hV 5 hj rfl
          | 6, _, hd => simp only [turnOn_self] at hd; cases hd
          | 7, hj, _ => rw [hi] at hj; cases hj
          | 8, hj, _ => exact hV 8 hj rfl
          | 9, hj, _ => exact hV 9 hj rfl
          | _ + 10, _, _ => trivial
      · have q0 := hV 0 (hW 0 (by decide)) rfl
        simp only at q0
        rw [q0]
        clear hW hV hK hi
        refine stepAt_value rfl rfl rfl (.pointer (some ⟨b, 0, none⟩)) w8 ?_ ⟨rfl, .inl (Below.refl _ _)⟩
        go_simp
      · have q8 := hV 8 (hW 8 (by decide)) rfl
        simp only at q8
        rw [q8]
        clear hW hV hK hi
        refine stepAt_value rfl rfl rfl (.pointer (some ⟨b, 0, none⟩)) w8 ?_ ⟨rfl, .inl (Below.refl _ _)⟩
        go_simp
    case fin =>
      intro hh vals w10 hall hG hV
      have q7 := hV 7 (hall 7 (by omega)) rfl
      have q9 := hV 9 (hall 9 (by omega)) rfl
      simp only at q7 q9
      simp only [List.take_succ_cons, List.take_zero, List.drop_succ_cons, List.drop_zero, putAll, Act.put, List.setIfInBounds_toArray, List.set_cons_zero, List.set_cons_succ, Nat.reduceAdd]
      rw [q9]
      have HG8 := Lib.hid hG.1
      have HW7 := Lib.hid q7.1
      have HO7 := Lib.hid q7.2
      clear hV q7 q9 hG hall
      generalize vals 0 = x0
      generalize vals 1 = x1
      generalize vals 2 = x2
      generalize vals 3 = x3
      generalize vals 4 = x4
      generalize vals 5 = x5
      generalize vals 6 = x6
      generalize vals 8 = x8
      obtain ⟨v7, hv7⟩ : ∃ v7, vals 7 = v7 := ⟨_, rfl⟩
      rw [hv7] at HW7 HO7 ⊢
      clear hv7
      obtain ⟨ao7, n7, cap7, b7, off7, e7, _, _⟩ := HW7.out.lies
      subst e7
      have c9 := (HBLK.out.kept HG8.out HNB.out).cell 0
      have f9 := (HBLK.out.kept HG8.out HNB.out).free 0
      obtain ⟨r1, r2, r3⟩ := HS4.out.stored (i := 0) rfl HG8.out HW7.out (by rw [List.length_append, HL1.out, bv_length, hr]; omega) HO7.out
      have HS5 := Lib.hid r1
      have HK5 := Lib.hid (HK4.out.trans r2 (NewF.refl _ _))
      have HN5 := Lib.hid (show NewF w F (ownL (.slice ao7 n7 cap7) ++ F) from fun x hx => (r3 x hx).imp id (Nat.le_trans HK4.out.size))
      have HY5 := Lib.hid (HY4.out.kept r2 (fun hm => (HXF.out Y hm).2 rfl))
      clear r1 r2 r3 HXO HNB HWD HCE HBLK HG8 HW7 HO7 HX4 HY4 HS4 HK4
      go_upto_region 9 with fail
      clear c9 f9
      generalize w10.setCell ⟨b, 0, none⟩ (.slice ao7 n7 cap7) = w5 at HS5 HK5 HN5 HY5 ⊢
      skip
      have c1 := HS5.out.cell (i := 1) (x := (1, .slice (some ⟨g2', o2, none⟩) t.length k2, zs t)) rfl
      have hw2 := HS5.out.wide (1, .slice (some ⟨g2', o2, none⟩) t.length k2, zs t) (by simp [refItems])
      have HW2 := Lib.hid (hw2.alloc (.cells #[.int .i64 s] 3))
      have HSrc := Lib.hid (src_rowT w5 1 (by omega) 42 3 Try.underlying42 [.int .i64 s] rfl (fun u hu => by simp at hu; rw [hu]; rfl) (P := Try.prog))
      have HP1 := Lib.hid (show 0 < 1 by omega)
      have HZL := Lib.hid (show (zs t).length = t.length from zs_length t)
      clear hw2
      go_upto_region 10 with (at_builtin; refine wpList_append_wide rfl _ _ 42 42 rfl rfl HW2.out HP1.out 3 j0 (.int .i64 0) 8 Try.underlying42 ji0 jz0 jz1 jz2 jzc _ rfl 1 [.int .i64 s] HSrc.out (by rw [HZL.out]; unfold maxLen; omega) (by rw [HZL.out]; omega) (Nat.zero_le _) ?_; intro v2' w6 hh hg; obtain ⟨ao2', n2', cap2', b2', off2', e2', _, _⟩ := hh.lies; subst e2'; have HW6 := Lib.hid hh; have HK6 := Lib.hid (show Kept (ownL (.slice (some ⟨g2', o2, none⟩) t.length k2)) w5 w6 from (Kept.of_below _ ((Below.refl _ w5).alloc (Nat.le_refl _) _)).trans (Kept.of_grown _ hg.grown (fun j hj => mem_ownL.2 hj)) (NewF.refl _ _)); have HO6 := Lib.hid (show (Value.slice ao2' n2' cap2').ownBlock = (Value.slice (some ⟨g2', o2, none⟩) t.length k2).ownBlock ∨ ∃ j, (Value.slice ao2' n2' cap2').ownBlock = some j ∧ w5.heap.size ≤ j from hg.own.imp id (fun ⟨j, h1, h2⟩ => ⟨j, h1, Nat.le_trans (by simp) h2⟩)); have hnb6 : b ∉ ownL (.slice (some ⟨g2', o2, none⟩) t.length k2) := (fun hx => HS5.out.nb (1, .slice (some ⟨g2', o2, none⟩) t.length k2, zs t) (by simp [refItems]) (mem_ownL.1 hx)); have f6 := (HS5.out.blk.kept HK6.out hnb6).free 1; have c6 := (HS5.out.blk.kept HK6.out hnb6).cell 1; clear hh hg)
      obtain ⟨r1, r2, r3⟩ := HS5.out.stored (i := 1) rfl HK6.out HW6.out (by simp) HO6.out
      have HS7 := Lib.hid r1
      have HK7 := Lib.hid (HK5.out.trans r2 HN5.out)
      have HN7 := Lib.hid (HN5.out.trans r3 HK5.out.size)
      have HY7 := Lib.hid ((HY5.out.kept HK6.out (fun hm => (HXF.out Y (HI2.out Y (mem_ownL.1 hm))).2 rfl)).other ⟨b, 1, none⟩ (.slice ao2' n2' cap2') (fun e => (HXF.out b HBF.out).2 e.symm))
      clear r1 r2 r3 HW6 HK6 HO6 HS5 HK5 HN5 HY5 hnb6 f6 c6 c1 HSrc HW2
      generalize w6.setCell ⟨b, 1, none⟩ (.slice ao2' n2' cap2') = w7 at HS7 HK7 HN7 HY7 ⊢
      have HBLK := Lib.hid HS7.out.blk
      have HCE := Lib.hid (HS7.out.blk.cell 2)
      have HCE := Lib.hid (show ((((refItems (.slice a1 t.length k1) (.slice (some ⟨g2', o2, none⟩) t.length k2) (.slice a3 t.length k3) t).set 0 (32, .slice ao7 n7 cap7, rv (rs t) ++ bv r)).set 1 (1, .slice ao2' n2' cap2', zs t ++ [.int .i64 s])).map (·.2.1) ++ [.int .i64 most])[2]? = some (.slice a3 t.length k3) from rfl)
      have HWD := Lib.hid (HS7.out.wide (32, .slice a3 t.length k3, rv (pns t)) (by simp [refItems]))
      have HNB := Lib.hid (show b ∉ ownL (.slice a3 t.length k3) from fun hx => HS7.out.nb (32, .slice a3 t.length k3, rv (pns t)) (by simp [refItems]) (mem_ownL.1 hx))
      have HXO := Lib.hid (show Y ∉ ownL (.slice a3 t.length k3) from fun hx => (HXF.out Y (HI3.out Y (mem_ownL.1 hx))).2 rfl)
      refine wp_region_freeK (P := Try.prog) 10 (fun w' => Kept (ownL (.slice a3 t.length k3)) w7 w' ∧ Wide 32 w' 0 (.slice a3 t.length k3) (rv (pns t))) (fun oq v w' => match oq with
          | 0 => v = .pointer (some ⟨b, 0, none⟩)
          | 1 => v = .pointer (some ⟨b, 0, none⟩)
          | 2 => v = .pointer (some ⟨b, 0, none⟩)
          | 3 => v = .pointer (some ⟨b, 2, none⟩)
          | 4 => v = .slice a3 t.length k3
          | 5 => v = .agg (bv p).toArray
          | 6 => ∃ g, v = .slice (some ⟨g, 0, none⟩) 1 1 ∧ Lies w' w'.heap.size (some ⟨g, 0, none⟩) g 0 (bv p)
          | 7 => Wide 32 w' 0 v (rv (pns t) ++ bv p) ∧ (v.ownBlock = Value.ownBlock (.slice a3 t.length k3) ∨ ∃ j, v.ownBlock = some j ∧ w7.heap.size ≤ j)
          | 8 => v = .pointer (some ⟨b, 0, none⟩)
          | 9 => v = .pointer (some ⟨b, 2, none⟩)
          | _ => True) (fun hh oq => match oq with
          | 6 => hh 7
          | _ => false) [] (by kernel_rfl) (by kernel_rfl) (by kernel_rfl) ⟨(Kept.refl _ _).drew, HWD.out.below (Below.refl _ _).drew⟩ ?gb ?vb ?db ?steps ?fin
      case gb => exact fun a b h1 h2 => ⟨h1.1.then h2, h1.2.below h2⟩
      case vb =>
        intro oq v a b h hb
        match oq with
        | 0 => exact h
        | 1 => exact h
        | 2 => exact h
        | 3 => exact h
        | 4 => exact h
        | 5 => exact h
        | 6 => (obtain ⟨g, h1, h2⟩ := h; exact ⟨g, h1, h2.below hb⟩)
        | 7 => exact ⟨h.1.below hb, h.2⟩
        | 8 => exact h
        | 9 => exact h
        | _ + 10 => trivial
      case db =>
        intro hh i oq h
        split at h
        · exact turnOn_of h
        · cases h
      case steps =>
        intro vals
        simp only [List.take_succ_cons, List.take_zero, freeStepsK, Act.put, List.setIfInBounds_toArray, List.set_cons_zero, List.set_cons_succ, Nat.reduceAdd]
        refine ⟨fun hh w8 hi hK hG hW hV => ?_, fun hh w8 hi hK hG hW hV => ?_, fun hh w8 hi hK hG hW hV => ?_, fun hh w8 hi hK hG hW hV => ?_, fun hh w8 hi hK hG hW hV => ?_, fun hh w8 hi hK hG hW hV => ?_, fun hh w8 hi hK hG hW hV => ?_, fun hh w8 hi hK hG hW hV => ?_, fun hh w8 hi hK hG hW hV => ?_, fun hh w8 hi hK hG hW hV => ?_, trivial⟩
        · clear hW hV hK hi
          refine stepAt_value rfl rfl rfl (.pointer (some ⟨b, 0, none⟩)) w8 ?_ ⟨rfl, .inl (Below.refl _ _)⟩
          go_simp
        · clear hW hV hK hi
          refine stepAt_value rfl rfl rfl (.pointer (some ⟨b, 0, none⟩)) w8 ?_ ⟨rfl, .inl (Below.refl _ _)⟩
          go_simp
        · have q1 := hV 1 (hW 1 (by decide)) rfl
          simp only at q1
          rw [q1]
          clear hW hV hK hi
          refine stepAt_value rfl rfl rfl (.pointer (some ⟨b, 0, none⟩)) w8 ?_ ⟨rfl, .inl (Below.refl _ _)⟩
          go_simp
        · have q2 := hV 2 (hW 2 (by decide)) rfl
          simp only at q2
          rw [q2]
          clear hW hV hK hi
          refine stepAt_value rfl rfl rfl (.pointer (some ⟨b, 2, none⟩)) w8 ?_ ⟨rfl, .inl (Below.refl _ _)⟩
          go_simp
        · have q3 := hV 3 (hW 3 (by decide)) rfl
          simp only at q3
          rw [q3]
          clear hW hV hK hi
          have c := ((HBLK.out.kept hG.1 HNB.out).cell 2).trans HCE.out
          refine stepAt_value rfl rfl rfl (.slice a3 t.length k3) w8 ?_ ⟨rfl, .inl (Below.refl _ _)⟩
          go_simp
        · clear hW hV hK hi
          refine stepAt_load_run rfl rfl rfl _ _ rfl _ _ rfl (run_load_root hp (HY7.out.kept hG.1 HXO.out).rootAll) ⟨rfl, .inl (Below.refl _ _)⟩
        · have q5 := hV 5 (hW 5 (by decide)) rfl
          simp only at q5
          rw [q5]
          clear hW hV hK hi
          refine stepAt_build_rows rfl rfl rfl 37 24 1 _ rfl i0 (.agg (bv zero32).toArray) (s := 32) (by omega) [bv p] (fun rr hrr => by simp at hrr; rw [hrr]; exact (by rw [bv_length, hp])) Try.underlying37 hi0 hz0 hz1 rfl (by omega) (by omega) rfl ⟨⟨w8.heap.size, rfl, ?_⟩, .inl ((Below.refl _ _).alloc (Nat.le_refl _) _)⟩
          rw [show ([bv p] : List (List Value)).flatten = bv p by simp]
          exact ⟨fun _ => rfl, fun _ => by simp, fun j u hj => by rw [Nat.zero_add]; exact ((Blk.new w8 24 (bv p).toArray).cell j).trans hj⟩
        · have q4 := hV 4 (hW 4 (by decide)) rfl
          simp only at q4
          obtain ⟨g, q6, hl6⟩ := hV 6 (hW 6 (by decide)) hi
          rw [q4, q6]
          refine stepAt_append_wide2 rfl rfl rfl _ _ 37 37 rfl rfl hG.2 (by omega) 24 i0 (.agg (bv zero32).toArray) 32 Try.underlying37 hi0 hz0 hz1 hz2 hzc _ rfl 1 (bv p) (hl6.src 1 37 24 Try.underlying37 ((by rw [bv_length, hp])) (bv_one p) (by omega)) ?_ ?_ (Nat.zero_le _) fun v' w' h1 h2 h3 => ⟨⟨h1, ?_⟩, .inr ⟨⟨hG.1.trans (Kept.of_grown _ h2.grown (fun j hj => mem_ownL.2 hj)) (NewF.refl _ _), h3⟩, fun j hj hd => ?_⟩⟩
          · rw [HL3.out]; unfold maxLen; omega
          · rw [HL3.out]; omega
          · rcases h2.own with h | ⟨j, h, hj⟩
            · exact .inl h
            · exact .inr ⟨j, h, Nat.le_trans hG.1.size hj⟩
          · match j, hj, hd with
            | 0, hj, _ => exact hV 0 hj rfl
            | 1, hj, _ => exact hV 1 hj rfl
            | 2, hj, _ => exact hV 2 hj rfl
            | 3, hj, _ => exact hV 3 hj rfl
            | 4, hj, _ => exact hV 4 hj rfl
            | 5, hj, _ => exact hV 5 hj rfl
            | 6, _, hd => simp only [turnOn_self] at hd; cases hd
            | 7, hj, _ => rw [hi] at hj; cases hj
            | 8, hj, _ => exact hV 8 hj rfl
            | 9, hj, _ => exact hV 9 hj rfl
            | _ + 10, _, _ => trivial
        · have q0 := hV 0 (hW 0 (by decide)) rfl
          simp only at q0
          rw [q0]
          clear hW hV hK hi
          refine stepAt_value rfl rfl rfl (.pointer (some ⟨b, 0, none⟩)) w8 ?_ ⟨rfl, .inl (Below.refl _ _)⟩
          go_simp
        · have q8 := hV 8 (hW 8 (by decide)) rfl
          simp only at q8
          rw [q8]
          clear hW hV hK hi
          refine stepAt_value rfl rfl rfl (.pointer (some ⟨b, 2, none⟩)) w8 ?_ ⟨rfl, .inl (Below.refl _ _)⟩
          go_simp
      case fin =>
        intro hh vals w11 hall hG hV
        have q7 := hV 7 (hall 7 (by omega)) rfl
        have q9 := hV 9 (hall 9 (by omega)) rfl
        simp only at q7 q9
        simp only [List.take_succ_cons, List.take_zero, List.drop_succ_cons, List.drop_zero, putAll, Act.put, List.setIfInBounds_toArray, List.set_cons_zero, List.set_cons_succ, Nat.reduceAdd]
        rw [q9]
        have HG9 := Lib.hid hG.1
        have HW8 := Lib.hid q7.1
        have HO8 := Lib.hid q7.2
        clear hV q7 q9 hG hall
        generalize vals 0 = x0
        generalize vals 1 = x1
        generalize vals 2 = x2
        generalize vals 3 = x3
        generalize vals 4 = x4
        generalize vals 5 = x5
        generalize vals 6 = x6
        generalize vals 8 = x8
        obtain ⟨vv8, hvv8⟩ : ∃ vv8, vals 7 = vv8 := ⟨_, rfl⟩
        rw [hvv8] at HW8 HO8 ⊢
        clear hvv8
        obtain ⟨ao8, n8, cap8, b7, off7, e7, _, _⟩ := HW8.out.lies
        subst e7
        have c9 := (HBLK.out.kept HG9.out HNB.out).cell 2
        have f9 := (HBLK.out.kept HG9.out HNB.out).free 2
        obtain ⟨r1, r2, r3⟩ := HS7.out.stored (i := 2) rfl HG9.out HW8.out (by rw [List.length_append, HL3.out, bv_length, hp]; omega) HO8.out
        have HSf := Lib.hid (sls_form HG.out HI.out HPN.out r1)
        have HKf := Lib.hid (HK7.out.trans r2 HN7.out)
        have HNf := Lib.hid (HN7.out.trans r3 HK7.out.size)
        have HGA := Lib.hid (HG.out.add hr HPR.out HI.out h3 h4 h5)
        clear r1 r2 r3 HXO HNB HWD HCE HBLK HG9 HW8 HO8
        go_wp2_with fail
        go_ret
        rw [HA.out]
        exact ⟨rfl, _, ⟨HGA.out, _, _, _, HSf.out⟩, HKf.out, HNf.out⟩
end Go.Proofs.Ytjodhagjfjgbcaa

/-
  The document's own tree: its New, Below, Kids.
-/
namespace Go.Proofs.Ytjodhagjfjgbcaa
open Go Go.RowKit
set_option maxRecDepth 10000

theorem wpList_build_row {P : Program} {ops : Array Oper} {rest : List Oper} {o : Oper} {a : Act} {w : World} {Q : Exit → Act → World → Prop} (hgd : Region.wanted o (yielded ops a.tmps) = true) (t e : TypeId) (x : Operand) (ho : o.op = .buildSlice t 1 #[(0, x)]) (r : List Value) (hx : a.eval x = .agg r.toArray)
    (ie : TypeInfo) (z : Value) {s : Nat} (hs : 0 < s) (hr : r.length = s) (hu : P.underlying t = some (.slice e)) (hie : P.info? e = some ie) (hz : ie.zero = some z) (hsz : ie.size = s) (hsmall : 1 * s ≤ 2 ^ 24)
    (h : wpList P ops Q rest (a.put o.dst (.slice (some ⟨w.heap.size, 0, none⟩) 1 1)) (w.alloc (.cells r.toArray e))) : wpList P ops Q (o :: rest) a w := by
  have := run_build_rows (P := P) w t e 1 #[(0, .agg r.toArray)] ie z hs [r] (fun y hy => by simp at hy; rw [hy]; exact hr) hu hie hz hsz rfl (by omega) hsmall rfl
  rw [show ([r] : List (List Value)).flatten = r by simp] at this
  refine wpList_step fun K hK => ?_
  rw [if_pos hgd]
  unfold Oper.wp execOp
  simp only [ho, List.map_toArray, List.map_cons, List.map_nil, hx, Sem.run_bind, this, Result.andThen_ok]
  exact hK _ _ h

theorem ref_start (w : World) (r : List UInt8) (s most : Int) (hr : r.length = 32) (A B C D : Nat) (hA : A = w.heap.size) (hB : B = w.heap.size + 1) (hC : C = w.heap.size + 2) (hD : D = w.heap.size + 3) :
    Sls ((((w.alloc (.cells (bv r).toArray 24)).alloc (.cells #[.int .i64 s] 3)).alloc (.cells (bv zero32).toArray 24)).alloc (.cells #[.slice (some ⟨A, 0, none⟩) 1 1, .slice (some ⟨B, 0, none⟩) 1 1, .slice (some ⟨C, 0, none⟩) 1 1, .int .i64 most] 44)) [A, B, C, D] D 44 (refItems (.slice (some ⟨A, 0, none⟩) 1 1) (.slice (some ⟨B, 0, none⟩) 1 1) (.slice (some ⟨C, 0, none⟩) 1 1) [(r, s, -1)]) [.int .i64 most] := by
  have e1 : rv (rs [(r, s, (-1 : Int))]) = bv r := by simp [rs, rv]
  have e2 : zs [(r, s, (-1 : Int))] = [.int .i64 s] := rfl
  have e3 : rv (pns [(r, s, (-1 : Int))]) = bv zero32 := by rw [pns_one]; simp [rv]
  have s1 : (w.alloc (.cells (bv r).toArray 24)).heap.size = w.heap.size + 1 := by simp
  have s2 : ((w.alloc (.cells (bv r).toArray 24)).alloc (.cells #[.int .i64 s] 3)).heap.size = w.heap.size + 2 := by simp
  have s3 : (((w.alloc (.cells (bv r).toArray 24)).alloc (.cells #[.int .i64 s] 3)).alloc (.cells (bv zero32).toArray 24)).heap.size = w.heap.size + 3 := by simp
  have w1 := (((wide_new 32 1 w 24 (bv r) (by rw [bv_length, hr]) (by unfold maxLen; omega)).alloc (.cells #[.int .i64 s] 3)).alloc (.cells (bv zero32).toArray 24)).alloc (.cells #[.slice (some ⟨A, 0, none⟩) 1 1, .slice (some ⟨B, 0, none⟩) 1 1, .slice (some ⟨C, 0, none⟩) 1 1, .int .i64 most] 44)
  have w2 := ((wide_new 1 1 (w.alloc (.cells (bv r).toArray 24)) 3 [.int .i64 s] rfl (by unfold maxLen; omega)).alloc (.cells (bv zero32).toArray 24)).alloc (.cells #[.slice (some ⟨A, 0, none⟩) 1 1, .slice (some ⟨B, 0, none⟩) 1 1, .slice (some ⟨C, 0, none⟩) 1 1, .int .i64 most] 44)
  have w3 := (wide_new 32 1 ((w.alloc (.cells (bv r).toArray 24)).alloc (.cells #[.int .i64 s] 3)) 24 (bv zero32) (by rw [bv_length, zero32_len]) (by unfold maxLen; omega)).alloc (.cells #[.slice (some ⟨A, 0, none⟩) 1 1, .slice (some ⟨B, 0, none⟩) 1 1, .slice (some ⟨C, 0, none⟩) 1 1, .int .i64 most] 44)
  rw [s1, ← hB] at w2
  rw [s2, ← hC] at w3
  rw [← hA] at w1
  refine ⟨?_, fun x hx => ?_, fun x hx => ?_, ?_, by simp, fun x hx k hk => ?_, fun x hx => ?_⟩
  · exact Blk.newAt (((w.alloc (.cells (bv r).toArray 24)).alloc (.cells #[.int .i64 s] 3)).alloc (.cells (bv zero32).toArray 24)) 44 #[.slice (some ⟨A, 0, none⟩) 1 1, .slice (some ⟨B, 0, none⟩) 1 1, .slice (some ⟨C, 0, none⟩) 1 1, .int .i64 most] D (by rw [s3]; exact hD)
  · simp only [refItems, List.mem_cons, List.not_mem_nil, or_false] at hx
    rcases hx with rfl | rfl | rfl
    · simp only [e1]; exact w1.mono (Nat.zero_le _)
    · exact w2.mono (Nat.zero_le _)
    · simp only [e3]; exact w3.mono (Nat.zero_le _)
  · simp only [refItems, List.mem_cons, List.not_mem_nil, or_false] at hx
    rcases hx with rfl | rfl | rfl <;> simp [Value.ownBlock] <;> omega
  · intro i j x y hij hx hy k hk
    have hxl := (List.getElem?_eq_some_iff.1 hx).1
    have hyl := (List.getElem?_eq_some_iff.1 hy).1
    simp [refItems] at hxl hyl
    have hi : i = 0 ∨ i = 1 ∨ i = 2 := by omega
    have hj : j = 0 ∨ j = 1 ∨ j = 2 := by omega
    rcases hi with rfl | rfl | rfl <;> rcases hj with rfl | rfl | rfl <;> simp [refItems] at hx hy <;> subst hx <;> subst hy <;> simp [Value.ownBlock] at hk ⊢ <;> omega
  · simp only [refItems, List.mem_cons, List.not_mem_nil, or_false] at hx
    rcases hx with rfl | rfl | rfl <;> simp [Value.ownBlock] at hk <;> simp [hk]
  · simp at hx
    simp
    omega

set_option maxHeartbeats 4000000 in
theorem refnew_ok (w : World) (r : List UInt8) (s most : Int) (hr : r.length = 32) (h1 : 1 ≤ most) (h2 : most ≤ 256) (h3 : 0 ≤ s) (h4 : s ≤ 1073741824) :
    Calls Try.prog 29 #[.agg (bv r).toArray, .int .i64 s, .int .i64 most] w fun e w' => ∃ F b, e = .returned (.tuple #[.pointer (some ⟨b, 0, none⟩), .bool true]) ∧ Ref w' F b [(r, s, -1)] most ∧ High w.heap.size F ∧ Below w.heap.size w w' := by
  obtain ⟨i0, hi0, hz0, hz1, hz2⟩ := info_parts Try.infoRootB
  have HX := Lib.hid (Blk.new w 24 (bv r).toArray)
  obtain ⟨X, hX⟩ : ∃ X, X = w.heap.size := ⟨_, rfl⟩
  have HB := Lib.hid (show Below w.heap.size w (w.alloc (.cells (bv r).toArray 24)) from (Below.refl _ w).alloc (Nat.le_refl _) _)
  have d1 : ¬ (most < (1 : Int)) := by omega
  have d2 : ¬ ((256 : Int) < most) := by omega
  have d3 : ¬ (s < (0 : Int)) := by omega
  have d4 : ¬ ((1073741824 : Int) < s) := by omega
  go_enter Try.func29, Try.ntmps29
  go_upto_region 3 with fail
  rw [← hX] at HX ⊢
  generalize w.alloc (.cells (bv r).toArray 24) = w1 at HX HB ⊢
  clear hX
  have HXA := Lib.hid HX.out.rootAll
  have HR32 := Lib.hid (show (bv r).length = 32 by rw [bv_length, hr])
  have HZ32 := Lib.hid (show (bv zero32).length = 32 by rw [bv_length, zero32_len])
  have HP32 := Lib.hid (show 0 < 32 by omega)
  have HP24 := Lib.hid (show 1 * 32 ≤ 2 ^ 24 by omega)
  have HS := Lib.hid (ref_start w1 r s most hr w1.heap.size (w1.heap.size + 1) (w1.heap.size + 2) (w1.heap.size + 3) rfl rfl rfl rfl)
  have HG := Lib.hid (Good.one hr h3 h4 h1 h2)
  have HF := Lib.hid (show High w.heap.size [w1.heap.size, w1.heap.size + 1, w1.heap.size + 2, w1.heap.size + 3] from fun x hx => by have := HB.out.size; simp at hx; omega)
  have HB4 := Lib.hid (show Below w.heap.size w ((((w1.alloc (.cells (bv r).toArray 24)).alloc (.cells #[.int .i64 s] 3)).alloc (.cells (bv zero32).toArray 24)).alloc (.cells #[.slice (some ⟨w1.heap.size, 0, none⟩) 1 1, .slice (some ⟨w1.heap.size + 1, 0, none⟩) 1 1, .slice (some ⟨w1.heap.size + 2, 0, none⟩) 1 1, .int .i64 most] 44)) from (((HB.out.alloc HB.out.size _).alloc (by have := HB.out.size; simp; omega) _).alloc (by have := HB.out.size; simp; omega) _).alloc (by have := HB.out.size; simp; omega) _)
  go_wp2_with (first
    | ((with_reducible refine wpList_load_name (.tmp 3) ?_ ?_ X 0 r ?_ hr HXA.out ?_); rfl; rfl; rfl)
    | ((with_reducible refine wpList_build_row ?_ 37 24 (.tmp 22) ?_ (bv r) ?_ i0 (.agg (bv zero32).toArray) (s := 32) HP32.out HR32.out Try.underlying37 hi0 hz0 hz1 HP24.out ?_); rfl; rfl; rfl)
    | ((with_reducible refine wpList_build_row ?_ 37 24 (.tmp 26) ?_ (bv zero32) ?_ i0 (.agg (bv zero32).toArray) (s := 32) HP32.out HZ32.out Try.underlying37 hi0 hz0 hz1 HP24.out ?_); rfl; rfl; rfl))
  try simp only [Nat.add_assoc, Nat.reduceAdd]
  go_ret2
  exact ⟨_, _, rfl, ⟨HG.out, _, _, _, HS.out⟩, HF.out, HB4.out⟩

theorem refnew_bad (w : World) (r : List UInt8) (s most : Int) (h : ¬ (1 ≤ most ∧ most ≤ 256 ∧ 0 ≤ s ∧ s ≤ 1073741824)) :
    Calls Try.prog 29 #[.agg (bv r).toArray, .int .i64 s, .int .i64 most] w fun e w' => e = .returned (.tuple #[.pointer none, .bool false]) ∧ Below w.heap.size w w' := by
  have HB := Lib.hid (show Below w.heap.size w (w.alloc (.cells (bv r).toArray 24)) from (Below.refl _ w).alloc (Nat.le_refl _) _)
  go_enter Try.func29, Try.ntmps29
  by_cases h1 : most < 1
  · clear h
    go_wp2_with fail
    go_ret2
    exact ⟨rfl, HB.out⟩
  · by_cases h2 : 256 < most
    · clear h
      go_wp2_with fail
      go_ret2
      exact ⟨rfl, HB.out⟩
    · by_cases h3 : s < 0
      · clear h
        go_wp2_with fail
        go_ret2
        exact ⟨rfl, HB.out⟩
      · have h4 : (1073741824 : Int) < s := by omega
        clear h
        go_wp2_with fail
        go_ret2
        exact ⟨rfl, HB.out⟩
end Go.Proofs.Ytjodhagjfjgbcaa

/-
  Rows of names that were made, as slices.
-/
namespace Go.Proofs.Ytjodhagjfjgbcaa
open Go Go.RowKit
set_option maxRecDepth 10000

theorem wide_names {w : World} {base : Nat} {v : Value} {K : List (List UInt8)} (h : Wide 32 w base v (rv K)) (hK : Rts K) : ∃ ao cap g off, v = .slice ao K.length cap ∧ Lies w w.heap.size ao g off (rv K) := by
  obtain ⟨ao, n, cap, b, off, e, hn, hl⟩ := h.lies
  rw [rv_length K hK] at hn
  obtain rfl : K.length = n := by omega
  exact ⟨ao, cap, b, off, e, hl⟩
theorem Good.kids_rts {t : List Nd} {most : Int} (G : Good t most) (r : List UInt8) : Rts (kidsT t r) := fun x hx => by
  unfold kidsT at hx
  split at hx
  · rw [rs] at hx
    obtain ⟨n, hn, rfl⟩ := List.mem_map.1 hx
    exact G.nds n (List.mem_filter.1 hn).1
  · cases hx
end Go.Proofs.Ytjodhagjfjgbcaa

/-
  The document's Same (tollerref10).
-/
namespace Go.Proofs.Ytjodhagjfjgbcaa
open Go Go.RowKit
set_option maxRecDepth 10000

/-- Are two rows of names the same? -/
def sameR (a b : List (List UInt8)) : Bool := a == b
set_option maxHeartbeats 4000000 in
theorem rsame_any (w : World) (a1 a2 : Option Addr) (k1 k2 g1 g2 o1 o2 : Nat) (x y : List (List UInt8)) (hx : Rts x) (hy : Rts y) (h1 : Lies w w.heap.size a1 g1 o1 (rv x)) (h2 : Lies w w.heap.size a2 g2 o2 (rv y)) (hl : x.length ≤ 1000) :
    Calls Try.prog 14 #[.slice a1 x.length k1, .slice a2 y.length k2] w fun e w' => e = .returned (.bool (sameR x y)) ∧ ∃ n, w' = w.drewN n := by
  have H1 := Lib.hid h1
  have H2 := Lib.hid h2
  clear h1 h2
  obtain ⟨N, hN⟩ : ∃ N, N = x.length := ⟨_, rfl⟩
  have HN := Lib.hid hN
  by_cases hne : x.length = y.length
  · have HE := Lib.hid hne
    rw [← hne, ← hN]
    have hl2 : N ≤ 1000 := by omega
    clear hne hN hl
    go_enter Try.func14, Try.ntmps14
    go_wp2_with fail
    go_loopw [13] (fun i wr => ∃ k : Nat, k ≤ N ∧ i = .int .i64 k ∧ Hid (x.take k = y.take k) ∧ Hid (∃ n, wr = w.drewN n)) (fun i _ => N - (intOf i).toNat)
    case atStart => exact ⟨0, Nat.zero_le _, rfl, Lib.hid rfl, Lib.hid ⟨0, rfl⟩⟩
    case round =>
      obtain ⟨k, hk, rfl, HQ, HD⟩ := hrel
      obtain ⟨nq0, rfl⟩ := HD.out
      by_cases hlt : k < N
      · obtain ⟨r, hr⟩ : ∃ r, x[k]? = some r := ⟨_, List.getElem?_eq_getElem (by rw [← HN.out]; exact hlt)⟩
        obtain ⟨s, hs⟩ : ∃ s, y[k]? = some s := ⟨_, List.getElem?_eq_getElem (by rw [← HE.out, ← HN.out]; exact hlt)⟩
        obtain ⟨ha1, hc1⟩ := H1.out.name hx hr
        obtain ⟨ha2, hc2⟩ := H2.out.name hy hs
        subst ha1 ha2
        have HRL := Lib.hid (hx r (List.mem_of_getElem? hr))
        have HSL := Lib.hid (hy s (List.mem_of_getElem? hs))
        have HC1 := Lib.hid (show ∀ w', (∃ nq, w' = (w.drewN nq0).drewN nq) → ∀ j v, (bv r)[j]? = some v → w'.cell? ⟨g1, o1 + k * 32 + j, none⟩ = some v by rintro w' ⟨nq, rfl⟩; exact hc1)
        have HC2 := Lib.hid (show ∀ w', (∃ nq, w' = (w.drewN nq0).drewN nq) → ∀ j v, (bv s)[j]? = some v → w'.cell? ⟨g2, o2 + k * 32 + j, none⟩ = some v by rintro w' ⟨nq, rfl⟩; exact hc2)
        obtain ⟨q, hqe⟩ : ∃ q, (r == s) = q := ⟨_, rfl⟩
        have HQE := Lib.hid hqe
        have hq : ∀ W, (Op.equalIn 10000 24 (.agg (bv r).toArray) (.agg (bv s).toArray)).run Try.prog W = .ok q W := fun W => by rw [← hqe]; exact root_eqW W r s HRL.out HSL.out
        have HTR := Lib.hid hr
        have HTS := Lib.hid hs
        clear hqe hr hs hc1 hc2
        go_wp2_with fail
        refine wp_region_quiet_lit (by kernel_rfl) (by kernel_rfl) ?_
        repeat (first | ((with_reducible refine wpQuiet_load_name (.tmp 18) ?_ ?_ g1 (o1 + k * 32) r ?_ HRL.out HC1.out ?_); rfl; rfl; rfl; simp only [Act.put, List.setIfInBounds_toArray, List.set_cons_zero, List.set_cons_succ]) | ((with_reducible refine wpQuiet_load_name (.tmp 22) ?_ ?_ g2 (o2 + k * 32) s ?_ HSL.out HC2.out ?_); rfl; rfl; rfl; simp only [Act.put, List.setIfInBounds_toArray, List.set_cons_zero, List.set_cons_succ]) | go_big_quiet_step (fail))
        refine wpQuiet_nil ?_
        rintro _ ⟨nq, rfl⟩
        have HDD := Lib.hid (show ∃ n, ((w.drewN nq0).drewN nq) = w.drewN n from ⟨_, World.drewN_drewN _ _ _⟩)
        generalize (w.drewN nq0).drewN nq = w3 at HDD ⊢
        cases q with
        | true =>
          have HW := Lib.hid (show wrap64 ((k : Int) + 1) = (k : Int) + 1 by unfold wrap64; omega)
          have HT := Lib.hid (show x.take (k + 1) = y.take (k + 1) by rw [List.take_add_one, List.take_add_one, HQ.out, HTR.out, HTS.out, eq_of_beq HQE.out])
          go_wp2_with fail
          refine ⟨⟨k + 1, by omega, by go_num, HT, HDD⟩, ?_⟩
          exact meas N k _ (by first | rfl | omega | (rw [HW.out]; omega)) hlt
        | false =>
          have HA := Lib.hid (show sameR x y = false by
            rw [sameR, beq_eq_false_iff_ne]
            intro e
            rw [e, HTS.out] at HTR
            have := Option.some.inj HTR.out
            have h5 := HQE.out
            rw [this] at h5
            simp at h5)
          go_wp2_with fail
          go_ret
          exact ⟨by rw [HA.out]; rfl, HDD.out⟩
      · obtain rfl : k = N := by omega
        have HA := Lib.hid (show sameR x y = true by
          rw [sameR, beq_iff_eq]
          have := HQ.out
          rwa [List.take_of_length_le (by rw [HN.out]; exact Nat.le_refl _), List.take_of_length_le (by rw [← HE.out, HN.out]; exact Nat.le_refl _)] at this)
        go_wp2_with fail
        go_ret
        exact ⟨by rw [HA.out]; rfl, nq0, rfl⟩
  · have HA := Lib.hid (show sameR x y = false by
      rw [sameR, beq_eq_false_iff_ne]
      intro e
      exact hne (by rw [e]))
    have d1 : ¬ ((x.length : Int) = (y.length : Int)) := by omega
    clear hne hN
    go_enter Try.func14, Try.ntmps14
    go_wp2_with fail
    go_ret
    exact ⟨by rw [HA.out]; rfl, 0, rfl⟩
end Go.Proofs.Ytjodhagjfjgbcaa

/-
  The document's own tree: its Below.
-/
namespace Go.Proofs.Ytjodhagjfjgbcaa
open Go Go.RowKit
set_option maxRecDepth 10000

/-- How far down a place is: for a loop that goes up. -/
def downM (v : Value) : Nat := (intOf v + 1).toNat
theorem downM_lt {i j : Int} (h : j < i) (hi : 0 ≤ i) : downM (.int .i64 j) < downM (.int .i64 i) := by
  show (j + 1).toNat < (i + 1).toNat
  omega
theorem below_none {t : List Nd} {x y : List UInt8} (hx : plc t x = -1) : belowT t x y = false := by
  unfold belowT
  refine List.any_eq_false.2 fun n hn => ?_
  have hm : n ∈ t := by
    have : ∀ (k : Nat) (i : Int), n ∈ upN t k i → n ∈ t := by
      intro k
      induction k with
      | zero => intro i h; cases h
      | succ k ih =>
        intro i h
        simp only [upN] at h
        cases hc : nodeAt t i with
        | none => rw [hc] at h; cases h
        | some m =>
          rw [hc] at h
          rcases List.mem_cons.1 h with rfl | h
          · obtain ⟨j, _, hj⟩ := nodeAt_some hc
            exact List.mem_of_getElem? hj
          · exact ih _ h
    exact this _ _ hn
  have h1 := not_mem_of_plc hx
  intro e
  exact h1 (by rw [← eq_of_beq e]; exact List.mem_map.2 ⟨n, hm, rfl⟩)

set_option maxHeartbeats 4000000 in
theorem refbelow_any (w : World) (F : List Nat) (b : Nat) (t : List Nd) (most : Int) (x y : List UInt8) (h : Ref w F b t most) (hx : x.length = 32) (hy : y.length = 32) :
    Calls Try.prog 39 #[.pointer (some ⟨b, 0, none⟩), .agg (bv x).toArray, .agg (bv y).toArray] w fun e w' => e = .returned (.bool (belowT t x y)) ∧ Below w.heap.size w w' := by
  have hb1 : Below w.heap.size w ((w.alloc (.cells (bv x).toArray 24)).alloc (.cells (bv y).toArray 24)) := ((Below.refl _ w).alloc (Nat.le_refl _) _).alloc (by simp) _
  have HB := Lib.hid hb1
  have HX := Lib.hid ((Blk.new w 24 (bv x).toArray).alloc (.cells (bv y).toArray 24))
  have HY := Lib.hid (Blk.newAt (w.alloc (.cells (bv x).toArray 24)) 24 (bv y).toArray (w.heap.size + 1) (by simp))
  have H1 := Lib.hid (h.below hb1)
  obtain ⟨X, hX⟩ : ∃ X, X = w.heap.size := ⟨_, rfl⟩
  obtain ⟨Y, hY⟩ : ∃ Y, Y = w.heap.size + 1 := ⟨_, rfl⟩
  have HG := Lib.hid h.1
  clear hb1 h
  go_enter Try.func39, Try.ntmps39
  go_upto_region 1 with fail
  rw [← hY] at HY ⊢
  rw [← hX] at HX ⊢
  generalize (w.alloc (.cells (bv x).toArray 24)).alloc (.cells (bv y).toArray 24) = w1 at HB HX HY H1 ⊢
  clear hX hY
  have HXA := Lib.hid HX.out.rootAll
  have HP1 := Lib.hid (refplace_any w1 F b t most x H1.out hx)
  go_wp2_with ((with_reducible refine wpList_load_name (.tmp 4) ?_ ?_ X 0 x ?_ hx HXA.out ?_); rfl; rfl; rfl)
  refine HP1.out.mono ?_
  rintro e w2 ⟨rfl, hb2⟩
  have HB2 := Lib.hid (HB.out.trans (hb2.mono HB.out.size))
  have H2 := Lib.hid (H1.out.below hb2)
  have HX2 := Lib.hid (HX.out.below hb2 HX.out.lt)
  have HYA := Lib.hid (HY.out.below hb2 HY.out.lt).rootAll
  clear hb2 HP1 HXA HX HY H1 HB
  by_cases hneg : plc t x = -1
  · have HA := Lib.hid (show belowT t x y = false from below_none hneg)
    rw [hneg]
    clear hneg
    go_wp2_with fail
    go_ret
    exact ⟨by rw [HA.out]; rfl, HB2.out⟩
  have hge : ¬ (plc t x < 0) := by have := plc_ge t x; omega
  obtain ⟨px, hpx⟩ : ∃ px, plc t x = px := ⟨_, rfl⟩
  rw [hpx] at hge
  have HP2 := Lib.hid (refplace_any w2 F b t most y H2.out hy)
  have HNE := Lib.hid hneg
  rw [hpx]
  clear hneg hpx
  go_wp2_with ((with_reducible refine wpList_load_name (.tmp 5) ?_ ?_ Y 0 y ?_ hy HYA.out ?_); rfl; rfl; rfl)
  refine HP2.out.mono ?_
  rintro e w3 ⟨rfl, hb3⟩
  have HB3 := Lib.hid (HB2.out.trans (hb3.mono HB2.out.size))
  have H3 := Lib.hid (H2.out.below hb3)
  have HX3 := Lib.hid (HX2.out.below hb3 HX2.out.lt)
  clear hb3 HP2 HYA H2 HX2 HB2 HNE
  obtain ⟨a1, a2, a3, k1, k2, k3, g1, g2, g3, o1, o2, o3, hS⟩ := H3.out.open
  have HS := Lib.hid hS
  clear hS
  obtain ⟨py, hpy⟩ : ∃ py, plc t y = py := ⟨_, rfl⟩
  have HPY := Lib.hid hpy
  have HPL := Lib.hid (show -1 ≤ py ∧ py < t.length by rw [← hpy]; exact ⟨plc_ge t y, plc_lt t y⟩)
  rw [hpy]
  clear hpy
  go_wp2_with fail
  go_loopw [7] (fun v wr => ∃ i : Int, v = .int .i64 i ∧ Hid (-1 ≤ i ∧ i < t.length) ∧ Hid (belowT t x y = (chn t i).any fun n => n.1 == x) ∧ Hid (Below w3.heap.size w3 wr)) (fun v _ => downM v)
  case atStart => exact ⟨py, rfl, HPL, Lib.hid (by unfold belowT; rw [HPY.out]), Lib.hid (Below.refl _ _)⟩
  case round =>
    obtain ⟨i, rfl, HI, HQ, HR⟩ := hrel
    by_cases hi : 0 ≤ i
    · obtain ⟨k, rfl⟩ : ∃ k : Nat, i = (k : Int) := ⟨i.toNat, by omega⟩
      obtain ⟨n, hn⟩ : ∃ n, t[k]? = some n := ⟨_, List.getElem?_eq_getElem (by have := HI.out.2; omega)⟩
      have hkl : k < t.length := (List.getElem?_eq_some_iff.1 hn).1
      have hS2 := HS.out.below HR.out
      obtain ⟨ha, hc⟩ := hS2.l1.name HG.out.rts (rs_at hn)
      have hnl : n.1.length = 32 := HG.out.nds n (List.mem_of_getElem? hn)
      have c0 := hS2.cell0
      subst ha
      have HC1 := Lib.hid (show ∀ w', (∃ nq, w' = wr.drewN nq) → ∀ j v, (bv n.1)[j]? = some v → w'.cell? ⟨g1, o1 + k * 32 + j, none⟩ = some v by rintro w' ⟨nq, rfl⟩; exact hc)
      have hxw := HX3.out.below HR.out HX3.out.lt
      have HC2 := Lib.hid (show ∀ w', (∃ nq, w' = wr.drewN nq) → ∀ j v, (bv x)[j]? = some v → w'.cell? ⟨X, 0 + j, none⟩ = some v by rintro w' ⟨nq, rfl⟩; exact (hxw.drewN nq).rootAll)
      obtain ⟨q, hqe⟩ : ∃ q, (n.1 == x) = q := ⟨_, rfl⟩
      have HQE := Lib.hid hqe
      have hq : ∀ W, (Op.equalIn 10000 24 (.agg (bv n.1).toArray) (.agg (bv x).toArray)).run Try.prog W = .ok q W := fun W => by rw [← hqe]; exact root_eqW W n.1 x hnl hx
      have HCH := Lib.hid (HG.out.chn_some hn)
      have HNO := Lib.hid (show nodeOr t (k : Int) = n by rw [nodeOr, nodeAt_nat, hn]; rfl)
      have HPT := Lib.hid (HG.out.parent_lt hn)
      have HTN := Lib.hid hn
      have HRS := Lib.hid hS2.ref
      clear hqe hn hc hxw hS2
      go_wp2_with fail
      refine wp_region_quiet_lit (by kernel_rfl) (by kernel_rfl) ?_
      repeat (first | ((with_reducible refine wpQuiet_load_name (.tmp 25) ?_ ?_ g1 (o1 + k * 32) n.1 ?_ hnl HC1.out ?_); rfl; rfl; rfl; simp only [Act.put, List.setIfInBounds_toArray, List.set_cons_zero, List.set_cons_succ]) | ((with_reducible refine wpQuiet_load_name (.tmp 4) ?_ ?_ X 0 x ?_ hx HC2.out ?_); rfl; rfl; rfl; simp only [Act.put, List.setIfInBounds_toArray, List.set_cons_zero, List.set_cons_succ]) | go_big_quiet_step (fail))
      refine wpQuiet_nil ?_
      rintro _ ⟨nq, rfl⟩
      have HR4 := Lib.hid (below_dN HR.out nq)
      have H4 := Lib.hid (HRS.out.below (below_dN (Below.refl _ _) nq))
      generalize wr.drewN nq = w4 at HR4 H4 ⊢
      clear c0 HC1 HC2 hq
      cases q with
      | true =>
        go_wp2_with fail
        go_ret
        exact ⟨by rw [HQ.out, HCH.out, List.any_cons, HQE.out]; rfl, HB3.out.trans (HR4.out.mono HB3.out.size)⟩
      | false =>
        have HU := Lib.hid (refup_any w4 F b t most (k : Int) H4.out)
        rw [HNO.out] at HU
        go_wp2_with fail
        refine HU.out.mono ?_
        rintro e w5 ⟨rfl, hb5⟩
        have HR5 := Lib.hid (HR4.out.trans (hb5.mono HR4.out.size))
        have HQ5 := Lib.hid (show belowT t x y = (chn t n.2.2).any fun n => n.1 == x by rw [HQ.out, HCH.out, List.any_cons, HQE.out]; rfl)
        have HI5 := Lib.hid (show -1 ≤ n.2.2 ∧ n.2.2 < t.length from ⟨by
          cases k with
          | zero => rw [HG.out.fst n HTN.out]; decide
          | succ j => obtain ⟨p, m, e, _⟩ := HG.out.par j n HTN.out; rw [e]; omega, by have := HPT.out; omega⟩)
        clear hb5 HU
        go_wp2_with fail
        exact ⟨⟨_, rfl, HI5, HQ5, HR5⟩, downM_lt HPT.out hi⟩
    · have HA := Lib.hid (show belowT t x y = false by rw [HQ.out, chn_neg (by omega)]; rfl)
      go_wp2_with fail
      go_ret
      exact ⟨by rw [HA.out]; rfl, HB3.out.trans (HR.out.mono HB3.out.size)⟩

end Go.Proofs.Ytjodhagjfjgbcaa
