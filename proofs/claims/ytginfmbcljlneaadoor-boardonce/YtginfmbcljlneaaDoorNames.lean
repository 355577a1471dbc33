/-
  What board.names answers: whose the lots are.
-/
import Derived.Test.YtginfmbcljlneaaDoorLotOrder
import Derived.Test.YtginfmbcljlneaaDoorInts
namespace Go.Proofs.YtginfmbcljlneaaDoor
open Go.RowKit
set_option maxRecDepth 10000

theorem Lies.lot {w w' : World} {ao : Option Addr} {b off i : Nat} {l : List Lot} {x : Lot} (h : Lies w w.heap.size ao b off (lc l)) (hb : Below w.heap.size w w') (hx : l[i]? = some x) :
    ao = some ⟨b, off, none⟩ ∧ ∀ j v, (encL x)[j]? = some v → w'.cell? ⟨b, off + i * 33 + j, none⟩ = some v := by
  have hl : 0 < (lc l).length := by have := (List.getElem?_eq_some_iff.1 hx).1; rw [lc_length]; omega
  have hlt := h.lt hl
  refine ⟨h.addr hl, fun j v hj => ?_⟩
  have hj33 : j < 33 := by have := (List.getElem?_eq_some_iff.1 hj).1; rw [encL_length] at this; exact this
  rw [Nat.add_assoc]
  exact (hb.cell (p := ⟨b, off + (i * 33 + j), none⟩) hlt).trans (h.cells _ _ ((lc_at l i j x hx hj33).trans hj))

set_option maxHeartbeats 4000000 in
theorem names_any (w : World) (ao : Option Addr) (len cap b off : Nat) (L : List Lot) (hl : L.length = len) (hn : len ≤ 1000) (hs : Lies w w.heap.size ao b off (lc L)) :
    Calls Tryd.prog 27 #[.slice ao len cap] w fun e w' => ∃ v, e = .returned v ∧ Held w' w.heap.size v (iv (L.map (·.n))) ∧ Below w.heap.size w w' := by
  obtain ⟨i0, hi0, hz0, hz1, hz2⟩ := info_parts Tryd.info3
  have hmk := run_makeSlice (P := Tryd.prog) w 28 3 i0 (.int .i64 0) Tryd.underlying28 hi0 hz0 .i64 .i64 0 (len : Int) (by omega) (by omega) (by rw [hz1]; simp; omega) (by rw [hz2]; omega) (by omega)
  simp only [Int.toNat_natCast, Int.toNat_zero, hz1, Nat.mul_one] at hmk
  have hh := held_room w (Value.int .i64 0).cells len 3 (by unfold maxLen; omega)
  have hbel : Below w.heap.size w (w.alloc (.cells (madeCells (Value.int .i64 0).cells len) 3)) := (Below.refl _ _).alloc (Nat.le_refl _) _
  generalize w.alloc (.cells (madeCells (Value.int .i64 0).cells len) 3) = w1 at hmk hh hbel
  generalize Value.slice (some ⟨w.heap.size, 0, none⟩) 0 len = v1 at hmk hh
  have HH := Lib.hid hh
  have HB := Lib.hid hbel
  have HS := Lib.hid hs
  have HL := Lib.hid hl
  obtain ⟨N, hN⟩ : ∃ N, N = L.map (·.n) := ⟨_, rfl⟩
  have HNL := Lib.hid (show N.length = len by rw [hN, List.length_map]; exact hl)
  have HN := Lib.hid hN
  rw [← hN]
  clear hh hbel hs hl hN
  go_enter Tryd.func27, Tryd.ntmps27
  go_wp2_with fail
  go_loopw [3, 11] (fun v i wr => ∃ (j : Nat), j ≤ len ∧ i = .int .i64 j ∧ Hid (Held wr w.heap.size v (iv (N.take j))) ∧ Hid (Below w.heap.size w wr)) (fun _ i _ => len - (intOf i).toNat)
  case atStart => exact ⟨0, Nat.zero_le _, rfl, Lib.hid (by simpa [iv] using HH.out), HB⟩
  case round =>
    obtain ⟨j, hj, rfl, HV, HBel⟩ := hrel
    clear hmk
    by_cases hlt : j < len
    · obtain ⟨x, hx⟩ : ∃ x, L[j]? = some x := ⟨_, List.getElem?_eq_getElem (by rw [HL.out]; exact hlt)⟩
      obtain ⟨ha, hc⟩ := HS.out.lot HBel.out hx
      subst ha
      have HC := Lib.hid hc
      have HX := Lib.hid (show N[j]? = some x.n by rw [HN.out, List.getElem?_map, hx]; rfl)
      have HSZ := Lib.hid (show (Tryd.prog.info? 56).map (·.size) = some (encL x).length by rw [encL_length]; exact Tryd.size56)
      have HLE := Lib.hid (show 0 + (encL x).length ≤ zlot.length by rw [encL_length]; decide)
      have HSP := Lib.hid (splice_all zlot (encL x) (by rw [encL_length]; rfl))
      have HO := Lib.hid (encL_one x)
      have HK := Lib.hid (show Blk (wr.alloc (.cells #[.int .u8 0, .int .u8 0, .int .u8 0, .int .u8 0, .int .u8 0, .int .u8 0, .int .u8 0, .int .u8 0, .int .u8 0, .int .u8 0, .int .u8 0, .int .u8 0, .int .u8 0, .int .u8 0, .int .u8 0, .int .u8 0, .int .u8 0, .int .u8 0, .int .u8 0, .int .u8 0, .int .u8 0, .int .u8 0, .int .u8 0, .int .u8 0, .int .u8 0, .int .u8 0, .int .u8 0, .int .u8 0, .int .u8 0, .int .u8 0, .int .u8 0, .int .u8 0, .int .i64 0] 56)) wr.heap.size 56 zlot from Blk.new wr 56 zlot.toArray)
      have hk2 := HK.out.setRow (encL x)
      have hb2 := below_setRow (((Below.refl wr.heap.size wr).alloc (Nat.le_refl _) (.cells #[.int .u8 0, .int .u8 0, .int .u8 0, .int .u8 0, .int .u8 0, .int .u8 0, .int .u8 0, .int .u8 0, .int .u8 0, .int .u8 0, .int .u8 0, .int .u8 0, .int .u8 0, .int .u8 0, .int .u8 0, .int .u8 0, .int .u8 0, .int .u8 0, .int .u8 0, .int .u8 0, .int .u8 0, .int .u8 0, .int .u8 0, .int .u8 0, .int .u8 0, .int .u8 0, .int .u8 0, .int .u8 0, .int .u8 0, .int .u8 0, .int .u8 0, .int .u8 0, .int .i64 0] 56))) (Nat.le_refl wr.heap.size) (encL x).toArray
      have c32 := hk2.lot.2
      have HV2 := Lib.hid ((HV.out.below hb2).alloc (.cells #[.int .i64 (x.n : Int)] 3))
      have HSrc := Lib.hid (src_intAt ((wr.alloc (.cells #[.int .u8 0, .int .u8 0, .int .u8 0, .int .u8 0, .int .u8 0, .int .u8 0, .int .u8 0, .int .u8 0, .int .u8 0, .int .u8 0, .int .u8 0, .int .u8 0, .int .u8 0, .int .u8 0, .int .u8 0, .int .u8 0, .int .u8 0, .int .u8 0, .int .u8 0, .int .u8 0, .int .u8 0, .int .u8 0, .int .u8 0, .int .u8 0, .int .u8 0, .int .u8 0, .int .u8 0, .int .u8 0, .int .u8 0, .int .u8 0, .int .u8 0, .int .u8 0, .int .i64 0] 56)).setRow wr.heap.size (encL x).toArray) 28 Tryd.underlying28 x.n (wr.heap.size + 1) (by simp [World.setRow]) (P := Tryd.prog))
      have HB2 := Lib.hid (HBel.out.trans ((hb2.mono HBel.out.size).alloc (Nat.le_trans HBel.out.size hb2.size) (.cells #[.int .i64 (x.n : Int)] 3)))
      have HVL := Lib.hid (show (iv (N.take j)).length ≤ 1000 by rw [iv_length, List.length_take]; omega)
      clear hc hx hk2 hb2
      go_wp2_with (first
        | ((with_reducible refine wpList_load_agg ?_ 56 (.tmp 13) ?_ b (off + j * 33) (encL x) ?_ HC.out Tryd.isAgg56 HSZ.out ?_); rfl; rfl; rfl)
        | ((with_reducible refine wpList_store_part ?_ 56 (.tmp 5) (.tmp 14) ?_ wr.heap.size 0 (encL x) ?_ ?_ 56 _ HK.out HSZ.out HLE.out HO.out ?_); rfl; rfl; rfl; rfl; rw [HSP.out])
        | (at_builtin; refine wpList_append_held rfl _ _ 28 28 rfl rfl HV2.out 3 i0 (.int .i64 0) 8 Tryd.underlying28 hi0 hz0 hz1 hz2 rfl _ rfl 1 (iv [x.n]) HSrc.out ?e2 ?e3 ?e4 ?_))
      case e2 => have := HVL.out; unfold maxLen; omega
      case e3 => have := HVL.out; omega
      case e4 => have := HBel.out.size; omega
      intro v2 w2 hh hg
      have HB3 := Lib.hid (HB2.out.trans (hg.below HV2.out HB2.out.size))
      have HH3 := Lib.hid (show Held w2 w.heap.size v2 (iv (N.take (j + 1))) by
        rw [List.take_add_one, HX.out, iv_append]; exact hh)
      clear hh hg HSrc HV2 HB2 HK HC HSZ HLE HSP HO c32
      go_wp2_with fail
      go_roundw
      case rel => exact ⟨j + 1, by omega, by go_num, HH3, HB3⟩
      case measure => simp [intOf]; omega
    · have hjn : j = len := by omega
      have HF := Lib.hid (show Held wr w.heap.size u3 (iv N) by
        have h := HV.out
        rw [hjn, ← HNL.out, List.take_length] at h
        exact h)
      clear hjn
      go_wp2_with fail
      go_ret
      exact ⟨_, rfl, HF.out, HBel.out⟩
end Go.Proofs.YtginfmbcljlneaaDoor
