/-
  The document's own tree (tollerref10): in memory; its Name, Place, Up, Same.
-/
import Derived.Test.YtmchjmcdlapegaaSls
import Derived.Test.YtmchjmcdlapegaaTRows
namespace Go.Proofs.Ytmchjmcdlapegaa
open Go Go.RowKit
set_option maxRecDepth 10000

def zs (t : List Nd) : List Value := t.map fun n => .int .i64 n.2.1
theorem zs_length (t : List Nd) : (zs t).length = t.length := by simp [zs]
theorem zs_at {t : List Nd} {i : Nat} {n : Nd} (h : t[i]? = some n) : (zs t)[i]? = some (.int .i64 n.2.1) := by simp [zs, h]
theorem zs_append (a b : List Nd) : zs (a ++ b) = zs a ++ zs b := by simp [zs]
theorem zs_one (t : List Nd) : ∀ v ∈ zs t, v.oneCell' = true := by intro v hv; simp [zs] at hv; obtain ⟨a, x, c, _, rfl⟩ := hv; rfl
def refItems (v1 v2 v3 : Value) (t : List Nd) : List (Nat × Value × List Value) := [(32, v1, rv (rs t)), (1, v2, zs t), (32, v3, rv (pns t))]
/-- The document's tree at block b is this one; F: the blocks that are its own. -/
def Ref (w : World) (F : List Nat) (b : Nat) (t : List Nd) (most : Int) : Prop := Good t most ∧ ∃ v1 v2 v3, Sls w F b 69 (refItems v1 v2 v3 t) [.int .i64 most]
theorem Ref.keep {w w' : World} {F G : List Nat} {b : Nat} {t : List Nd} {most : Int} (h : Ref w F b t most) (hk : Kept G w w') (hF : Away F G) : Ref w' F b t most := by
  obtain ⟨G0, v1, v2, v3, h⟩ := h
  exact ⟨G0, v1, v2, v3, h.keep hk hF⟩
theorem Ref.below {w w' : World} {F : List Nat} {b : Nat} {t : List Nd} {most : Int} (h : Ref w F b t most) (hb : Below w.heap.size w w') : Ref w' F b t most := h.keep (Kept.of_below [] hb) (fun _ _ hx => by cases hx)
theorem Ref.low {w : World} {F : List Nat} {b : Nat} {t : List Nd} {most : Int} (h : Ref w F b t most) : Low w F := by
  obtain ⟨_, v1, v2, v3, h⟩ := h
  exact h.low
/-- Its three slices. -/
structure RefS (w : World) (F : List Nat) (b : Nat) (t : List Nd) (most : Int) (a1 a2 a3 : Option Addr) (c1 c2 c3 g1 g2 g3 o1 o2 o3 : Nat) : Prop where
  good : Good t most
  sls : Sls w F b 69 (refItems (.slice a1 t.length c1) (.slice a2 t.length c2) (.slice a3 t.length c3) t) [.int .i64 most]
  l1 : Lies w w.heap.size a1 g1 o1 (rv (rs t))
  l2 : Lies w w.heap.size a2 g2 o2 (zs t)
  l3 : Lies w w.heap.size a3 g3 o3 (rv (pns t))
theorem Ref.open {w : World} {F : List Nat} {b : Nat} {t : List Nd} {most : Int} (h : Ref w F b t most) : ∃ a1 a2 a3 c1 c2 c3 g1 g2 g3 o1 o2 o3, RefS w F b t most a1 a2 a3 c1 c2 c3 g1 g2 g3 o1 o2 o3 := by
  obtain ⟨G, v1, v2, v3, h⟩ := h
  have w1 := h.wide (32, v1, rv (rs t)) (by simp [refItems])
  have w2 := h.wide (1, v2, zs t) (by simp [refItems])
  have w3 := h.wide (32, v3, rv (pns t)) (by simp [refItems])
  obtain ⟨a1, n1, c1, g1, o1, rfl, e1, l1⟩ := w1.lies
  obtain ⟨a2, n2, c2, g2, o2, rfl, e2, l2⟩ := w2.lies
  obtain ⟨a3, n3, c3, g3, o3, rfl, e3, l3⟩ := w3.lies
  rw [rv_length _ G.rts, rs_length] at e1
  rw [zs_length] at e2
  rw [rv_length _ G.pns_len, pns_length] at e3
  obtain rfl : n1 = t.length := by omega
  obtain rfl : n2 = t.length := by omega
  obtain rfl : n3 = t.length := by omega
  exact ⟨a1, a2, a3, c1, c2, c3, g1, g2, g3, o1, o2, o3, G, h, l1, l2, l3⟩
theorem RefS.ref {w : World} {F : List Nat} {b : Nat} {t : List Nd} {most : Int} {a1 a2 a3 : Option Addr} {c1 c2 c3 g1 g2 g3 o1 o2 o3 : Nat} (h : RefS w F b t most a1 a2 a3 c1 c2 c3 g1 g2 g3 o1 o2 o3) : Ref w F b t most := ⟨h.good, _, _, _, h.sls⟩
theorem RefS.below {w w' : World} {F : List Nat} {b : Nat} {t : List Nd} {most : Int} {a1 a2 a3 : Option Addr} {c1 c2 c3 g1 g2 g3 o1 o2 o3 : Nat} (h : RefS w F b t most a1 a2 a3 c1 c2 c3 g1 g2 g3 o1 o2 o3) (hb : Below w.heap.size w w') : RefS w' F b t most a1 a2 a3 c1 c2 c3 g1 g2 g3 o1 o2 o3 :=
  ⟨h.good, h.sls.below hb, h.l1.below hb, h.l2.below hb, h.l3.below hb⟩
section
variable {w : World} {F : List Nat} {b : Nat} {t : List Nd} {most : Int} {a1 a2 a3 : Option Addr} {c1 c2 c3 g1 g2 g3 o1 o2 o3 : Nat}
theorem RefS.cell0 (h : RefS w F b t most a1 a2 a3 c1 c2 c3 g1 g2 g3 o1 o2 o3) : w.cell? ⟨b, 0, none⟩ = some (.slice a1 t.length c1) := h.sls.blk.cell 0
theorem RefS.cell1 (h : RefS w F b t most a1 a2 a3 c1 c2 c3 g1 g2 g3 o1 o2 o3) : w.cell? ⟨b, 1, none⟩ = some (.slice a2 t.length c2) := h.sls.blk.cell 1
theorem RefS.cell2 (h : RefS w F b t most a1 a2 a3 c1 c2 c3 g1 g2 g3 o1 o2 o3) : w.cell? ⟨b, 2, none⟩ = some (.slice a3 t.length c3) := h.sls.blk.cell 2
theorem RefS.cell3 (h : RefS w F b t most a1 a2 a3 c1 c2 c3 g1 g2 g3 o1 o2 o3) : w.cell? ⟨b, 3, none⟩ = some (.int .i64 most) := h.sls.blk.cell 3
end

theorem blk_zeroR (w : World) : Blk (w.alloc (.cells #[.int .u8 0, .int .u8 0, .int .u8 0, .int .u8 0, .int .u8 0, .int .u8 0, .int .u8 0, .int .u8 0, .int .u8 0, .int .u8 0, .int .u8 0, .int .u8 0, .int .u8 0, .int .u8 0, .int .u8 0, .int .u8 0, .int .u8 0, .int .u8 0, .int .u8 0, .int .u8 0, .int .u8 0, .int .u8 0, .int .u8 0, .int .u8 0, .int .u8 0, .int .u8 0, .int .u8 0, .int .u8 0, .int .u8 0, .int .u8 0, .int .u8 0, .int .u8 0] 23)) w.heap.size 23 (bv zero32) := Blk.new w _ (bv zero32).toArray
theorem zero32_len : zero32.length = 32 := by simp [zero32]

set_option maxHeartbeats 4000000 in
theorem refplace_any (w : World) (F : List Nat) (b : Nat) (t : List Nd) (most : Int) (r : List UInt8) (h : Ref w F b t most) (hr : r.length = 32) :
    Calls Try.prog 31 #[.pointer (some ⟨b, 0, none⟩), .agg (bv r).toArray] w fun e w' => e = .returned (.int .i64 (plc t r)) ∧ Below w.heap.size w w' := by
  obtain ⟨a1, a2, a3, k1, k2, k3, g1, g2, g3, o1, o2, o3, h⟩ := h.open
  have hb1 : Below w.heap.size w (w.alloc (.cells (bv r).toArray 23)) := (Below.refl _ w).alloc (Nat.le_refl _) _
  have HB := Lib.hid hb1
  have HX := Lib.hid (Blk.new w 23 (bv r).toArray)
  have H1 := Lib.hid (h.below hb1)
  obtain ⟨X, hX⟩ : ∃ X, X = w.heap.size := ⟨_, rfl⟩
  have HG := Lib.hid h.good
  have HNN := Lib.hid (show t.length ≤ 256 by have h1 := h.good.room; have h2 := h.good.most256; omega)
  obtain ⟨N, hN⟩ : ∃ N, N = t.length := ⟨_, rfl⟩
  have HN := Lib.hid hN
  clear hb1 h
  go_enter Try.func31, Try.ntmps31
  go_upto_region 1 with fail
  rw [← hX] at HX ⊢
  generalize w.alloc (.cells (bv r).toArray 23) = w1 at HB HX H1 ⊢
  clear hX
  have c0 := H1.out.cell0
  rw [← hN] at c0
  clear hN
  go_wp2_with fail
  go_loopw [12] (fun i wr => ∃ k : Nat, k ≤ N ∧ i = .int .i64 k ∧ Hid (∀ j n, j < k → t[j]? = some n → (n.1 == r) = false) ∧ Hid (Below w1.heap.size w1 wr)) (fun i _ => N - (intOf i).toNat)
  case atStart => exact ⟨0, Nat.zero_le _, rfl, Lib.hid (fun j n hj => absurd hj (Nat.not_lt_zero j)), Lib.hid (Below.refl _ _)⟩
  case round =>
    obtain ⟨k, hk, rfl, HQ, HR⟩ := hrel
    by_cases hlt : k < N
    · obtain ⟨n, hn⟩ : ∃ n, t[k]? = some n := ⟨_, List.getElem?_eq_getElem (by rw [← HN.out]; exact hlt)⟩
      obtain ⟨ha, hc⟩ := (H1.out.l1.below HR.out).name HG.out.rts (rs_at hn)
      subst ha
      have hnl : n.1.length = 32 := HG.out.nds n (List.mem_of_getElem? hn)
      have HNL := Lib.hid hnl
      have HC := Lib.hid (show ∀ j v, (bv n.1)[j]? = some v → (wr.alloc (.cells #[.int .u8 0, .int .u8 0, .int .u8 0, .int .u8 0, .int .u8 0, .int .u8 0, .int .u8 0, .int .u8 0, .int .u8 0, .int .u8 0, .int .u8 0, .int .u8 0, .int .u8 0, .int .u8 0, .int .u8 0, .int .u8 0, .int .u8 0, .int .u8 0, .int .u8 0, .int .u8 0, .int .u8 0, .int .u8 0, .int .u8 0, .int .u8 0, .int .u8 0, .int .u8 0, .int .u8 0, .int .u8 0, .int .u8 0, .int .u8 0, .int .u8 0, .int .u8 0] 23)).cell? ⟨g1, o1 + k * 32 + j, none⟩ = some v from fun j v hj => by
        have h5 := hc j v hj
        rw [← h5]
        exact Below.cell (B := wr.heap.size) ((Below.refl _ _).alloc (Nat.le_refl _) _) (World.block_lt_of_cell? wr _ h5))
      have HC0 := Lib.hid hc
      have HZ := Lib.hid (blk_zeroR wr)
      have HZL := Lib.hid zero32_len
      have HV := Lib.hid (HZ.out.setRow (bv n.1)).rootAll
      have hb5 : Below w1.heap.size w1 ((wr.alloc (.cells #[.int .u8 0, .int .u8 0, .int .u8 0, .int .u8 0, .int .u8 0, .int .u8 0, .int .u8 0, .int .u8 0, .int .u8 0, .int .u8 0, .int .u8 0, .int .u8 0, .int .u8 0, .int .u8 0, .int .u8 0, .int .u8 0, .int .u8 0, .int .u8 0, .int .u8 0, .int .u8 0, .int .u8 0, .int .u8 0, .int .u8 0, .int .u8 0, .int .u8 0, .int .u8 0, .int .u8 0, .int .u8 0, .int .u8 0, .int .u8 0, .int .u8 0, .int .u8 0] 23)).setRow wr.heap.size (bv n.1).toArray) := below_row (HR.out.alloc HR.out.size _) HR.out.size _
      have HB5 := Lib.hid hb5
      have HXA := Lib.hid (HX.out.below hb5 HX.out.lt).rootAll
      have hq := root_eqW ((wr.alloc (.cells #[.int .u8 0, .int .u8 0, .int .u8 0, .int .u8 0, .int .u8 0, .int .u8 0, .int .u8 0, .int .u8 0, .int .u8 0, .int .u8 0, .int .u8 0, .int .u8 0, .int .u8 0, .int .u8 0, .int .u8 0, .int .u8 0, .int .u8 0, .int .u8 0, .int .u8 0, .int .u8 0, .int .u8 0, .int .u8 0, .int .u8 0, .int .u8 0, .int .u8 0, .int .u8 0, .int .u8 0, .int .u8 0, .int .u8 0, .int .u8 0, .int .u8 0, .int .u8 0] 23)).setRow wr.heap.size (bv n.1).toArray) n.1 r hnl hr
      obtain ⟨q, hqe⟩ : ∃ q, (n.1 == r) = q := ⟨_, rfl⟩
      have HQE := Lib.hid hqe
      have HTN := Lib.hid hn
      rw [hqe] at hq
      clear hqe hn hb5 hc
      cases q with
      | true =>
        go_wp2_with (first
          | ((with_reducible refine wpList_load_name (.tmp 15) ?_ ?_ g1 (o1 + k * 32) n.1 ?_ hnl HC0.out ?_); rfl; rfl; rfl)
          | ((with_reducible refine wpList_load_name (.tmp 15) ?_ ?_ g1 (o1 + k * 32) n.1 ?_ hnl HC.out ?_); rfl; rfl; rfl)
          | ((with_reducible refine wpList_store_name (.tmp 6) (.tmp 16) ?_ ?_ wr.heap.size zero32 n.1 ?_ ?_ HZ.out HZL.out hnl ?_); rfl; rfl; rfl; rfl)
          | ((with_reducible refine wpList_load_name (.tmp 6) ?_ ?_ wr.heap.size 0 n.1 ?_ hnl HV.out ?_); rfl; rfl; rfl)
          | ((with_reducible refine wpList_load_name (.tmp 3) ?_ ?_ X 0 r ?_ hr HXA.out ?_); rfl; rfl; rfl))
        go_ret
        exact ⟨by rw [← eq_of_beq HQE.out, HG.out.plc_at HTN.out]; rfl, HB.out.trans (HB5.out.mono HB.out.size)⟩
      | false =>
        have HW := Lib.hid (show wrap64 ((k : Int) + 1) = (k : Int) + 1 by have := HNN.out; have := HN.out; unfold wrap64; omega)
        have HQ2 := Lib.hid (show ∀ j m, j < k + 1 → t[j]? = some m → (m.1 == r) = false from fun j m hj hm => by
          by_cases hjk : j < k
          · exact HQ.out j m hjk hm
          · obtain rfl : j = k := by omega
            rw [HTN.out] at hm; cases hm; exact HQE.out)
        have hl256 := HNN.out
        rw [← HN.out] at hl256
        go_wp2_with (first
          | ((with_reducible refine wpList_load_name (.tmp 15) ?_ ?_ g1 (o1 + k * 32) n.1 ?_ hnl HC0.out ?_); rfl; rfl; rfl)
          | ((with_reducible refine wpList_load_name (.tmp 15) ?_ ?_ g1 (o1 + k * 32) n.1 ?_ hnl HC.out ?_); rfl; rfl; rfl)
          | ((with_reducible refine wpList_store_name (.tmp 6) (.tmp 16) ?_ ?_ wr.heap.size zero32 n.1 ?_ ?_ HZ.out HZL.out hnl ?_); rfl; rfl; rfl; rfl)
          | ((with_reducible refine wpList_load_name (.tmp 6) ?_ ?_ wr.heap.size 0 n.1 ?_ hnl HV.out ?_); rfl; rfl; rfl)
          | ((with_reducible refine wpList_load_name (.tmp 3) ?_ ?_ X 0 r ?_ hr HXA.out ?_); rfl; rfl; rfl))
        refine ⟨⟨k + 1, by omega, by go_num, HQ2, HB5⟩, ?_⟩
        exact meas N k _ (by first | rfl | omega | (rw [HW.out]; omega)) hlt
    · obtain rfl : k = N := by omega
      have HP := Lib.hid (show plc t r = -1 from plc_none fun hm => by
        obtain ⟨m, hm1, hm2⟩ := List.mem_map.1 hm
        obtain ⟨j, hj⟩ := List.getElem?_of_mem hm1
        have := HQ.out j m (by rw [HN.out]; exact (List.getElem?_eq_some_iff.1 hj).1) hj
        rw [hm2] at this
        simp at this)
      go_wp2_with fail
      go_ret
      exact ⟨by rw [HP.out]; rfl, HB.out.trans (HR.out.mono HB.out.size)⟩
end Go.Proofs.Ytmchjmcdlapegaa
