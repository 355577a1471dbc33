/-
  The texts LotOrder, Names, one behind the other.
-/
import Derived.Test.YtnbdpalbompjlaaDoorM14
import Derived.Shelf.SlSortCmp.InsertionK
import Derived.Test.YtnbdpalbompjlaaDoorM7
/-
  What board.order answers: which of two lots comes ahead; it leaves memory as it was, but for what it makes.
-/
namespace Go.Proofs.YtnbdpalbompjlaaDoor
open Go.Shelf Go.RowKit Go.Lib Go.Sort
set_option maxRecDepth 10000

/-- Behind a world: draws, and blocks of one's own, and nothing else. -/
def Grown (w w' : World) : Prop := ∃ q os, w' = grow (w.drewN q) os
theorem Grown.refl (w : World) : Grown w w := ⟨0, #[], by rw [grow_empty]; rfl⟩
theorem Grown.trans {a b c : World} (h1 : Grown a b) (h2 : Grown b c) : Grown a c := by
  obtain ⟨q, os, rfl⟩ := h1
  obtain ⟨p, os', rfl⟩ := h2
  refine ⟨q + p, os ++ os', ?_⟩
  rw [← grow_grow]
  show grow { (grow (a.drewN q) os) with drawn := _ } os' = _
  simp [grow, World.drewN, Nat.add_assoc]
theorem Grown.alloc {a b : World} (h : Grown a b) (o : Obj) : Grown a (b.alloc o) := h.trans ⟨0, #[o], by rw [alloc_eq_grow]; rfl⟩
theorem Grown.drewN {a b : World} (h : Grown a b) (k : Nat) : Grown a (b.drewN k) := h.trans ⟨k, #[], by rw [grow_empty]⟩
theorem Grown.below {a b : World} (h : Grown a b) : Below a.heap.size a b := by
  obtain ⟨q, os, rfl⟩ := h
  exact ⟨rfl, rfl, rfl, by simp [grow, World.drewN], fun k hk => by
    show (a.heap ++ os)[k]? = a.heap[k]?
    rw [Array.getElem?_append_left hk]⟩

set_option maxHeartbeats 1000000 in
theorem less_grown (w : World) (r s : List UInt8) (hr : r.length = 32) (hs : s.length = 32) :
    Calls Tryd.prog 76 #[.agg (bv r).toArray, .agg (bv s).toArray] w fun e w' => e = .returned (.bool (lessB r s)) ∧ Grown w w' := by
  have h1 := (Blk.new w 26 (bv r).toArray).alloc (.cells (bv s).toArray 26)
  have h2 := Blk.new (w.alloc (.cells (bv r).toArray 26)) 26 (bv s).toArray
  have hb : Grown w ((w.alloc (.cells (bv r).toArray 26)).alloc (.cells (bv s).toArray 26)) := ((Grown.refl _).alloc _).alloc _
  simp only [World.size_alloc] at h2
  have H1 := Lib.hid h1
  have H2 := Lib.hid h2
  have HB := Lib.hid hb
  clear h1 h2 hb
  go_enter Tryd.func76, Tryd.ntmps76
  go_wp2_with fail
  generalize (w.alloc (.cells (bv r).toArray 26)).alloc (.cells (bv s).toArray 26) = w1 at H1 H2 HB ⊢
  go_quiet ((go_at_call 93; refine Calls.quiet_of_same (compare_any _ _ _ 26 26 r s (H1.out.drewN _) (H2.out.drewN _) hr hs)))
  go_wp2_with fail
  go_ret
  exact ⟨rfl, HB.out.drewN nq⟩

theorem isNaN_any (w : World) (x : Int) : Calls Tryd.prog 94 #[.int .i64 x] w fun e w' => e = .returned (.bool false) ∧ w' = w := by
  go_enter Tryd.func94, Tryd.ntmps94
  go_wp2
  go_ret
  exact ⟨by simp, rfl⟩

set_option maxHeartbeats 1000000 in
theorem compareInt_any (w : World) (x y : Int) : Calls Tryd.prog 77 #[.int .i64 x, .int .i64 y] w fun e w' => e = .returned (.int .i64 (Lib.compareInt x y)) ∧ w' = w := by
  go_enter Tryd.func77, Tryd.ntmps77
  go_wp2_with (go_at_call 94; refine (isNaN_any _ _).mono ?_; rintro e w' ⟨rfl, hw⟩; rw [hw])
  all_goals (go_ret; refine ⟨?_, rfl⟩; unfold Lib.compareInt; (repeat' split) <;> first | rfl | (exfalso; omega))

/-- A lot's parts in its box. -/
theorem Blk.lot {w : World} {g : Nat} {t : TypeId} {x : Lot} (h : Blk w g t (encL x)) : (∀ j v, (bv x.d)[j]? = some v → w.cell? ⟨g, 0 + j, none⟩ = some v) ∧ w.cell? ⟨g, 32, none⟩ = some (.int .i64 x.n) := by
  have hl : (bv x.d).length = 32 := by rw [bv_length, x.h]
  constructor
  · intro j v hj
    rw [Nat.zero_add, h.cell, encL, List.getElem?_append_left (List.getElem?_eq_some_iff.1 hj).1]
    exact hj
  · rw [h.cell, encL, List.getElem?_append_right (by omega), hl]
    rfl

set_option maxHeartbeats 2000000 in
theorem order_any (w : World) (x y : Lot) : Calls Tryd.prog 64 #[.agg (encL x).toArray, .agg (encL y).toArray] w fun e w' => e = .returned (.int .i64 (lotCmp x y)) ∧ Grown w w' := by
  have h1 := (Blk.new w 104 (encL x).toArray).alloc (.cells (encL y).toArray 104)
  have h2 := Blk.newAt (w.alloc (.cells (encL x).toArray 104)) 104 (encL y).toArray (w.heap.size + 1) (by simp)
  have hb : Grown w ((w.alloc (.cells (encL x).toArray 104)).alloc (.cells (encL y).toArray 104)) := ((Grown.refl _).alloc _).alloc _
  have H1 := Lib.hid h1
  have H2 := Lib.hid h2
  have HB := Lib.hid hb
  have HX := Lib.hid (show (Tryd.prog.info? 26).map (·.size) = some (bv x.d).length by rw [bv_length, x.h]; exact Tryd.size26)
  have HY := Lib.hid (show (Tryd.prog.info? 26).map (·.size) = some (bv y.d).length by rw [bv_length, y.h]; exact Tryd.size26)
  clear h1 h2 hb
  go_enter Tryd.func64, Tryd.ntmps64
  have HC1 := Lib.hid H1.out.lot.1
  have HC2 := Lib.hid H2.out.lot.1
  go_wp2_with (first
    | ((with_reducible refine wpList_load_cells ?_ 26 (.tmp 6) ?_ w.heap.size 0 (bv x.d) ?_ 32 5 HC1.out Tryd.underlying26 HX.out ?_); rfl; rfl; rfl)
    | ((with_reducible refine wpList_load_cells ?_ 26 (.tmp 8) ?_ (w.heap.size + 1) 0 (bv y.d) ?_ 32 5 HC2.out Tryd.underlying26 HY.out ?_); rfl; rfl; rfl))
  generalize (w.alloc (.cells (encL x).toArray 104)).alloc (.cells (encL y).toArray 104) = w1 at H1 H2 HB ⊢
  clear HC1 HC2
  refine (less_grown w1 x.d y.d x.h y.h).mono ?_
  rintro e w2 ⟨rfl, hb2⟩
  have HB2 := Lib.hid (HB.out.trans hb2)
  have HK1 := Lib.hid (H1.out.below hb2.below H1.out.lt)
  have HK2 := Lib.hid (H2.out.below hb2.below H2.out.lt)
  clear hb2 H1 H2 HB
  cases h1 : lessB x.d y.d with
  | true =>
    have HC := Lib.hid (show lotCmp x y = -1 by rw [lotCmp, if_pos h1])
    clear h1
    go_wp2_with fail
    go_ret
    rw [HC.out]
    exact ⟨rfl, HB2.out⟩
  | false =>
    have HL1 := Lib.hid h1
    clear h1
    have HC1 := Lib.hid HK1.out.lot.1
    have HC2 := Lib.hid HK2.out.lot.1
    go_wp2_with (first
      | ((with_reducible refine wpList_load_cells ?_ 26 (.tmp 14) ?_ w.heap.size 0 (bv x.d) ?_ 32 5 HC1.out Tryd.underlying26 HX.out ?_); rfl; rfl; rfl)
      | ((with_reducible refine wpList_load_cells ?_ 26 (.tmp 12) ?_ (w.heap.size + 1) 0 (bv y.d) ?_ 32 5 HC2.out Tryd.underlying26 HY.out ?_); rfl; rfl; rfl))
    clear HC1 HC2
    refine (less_grown w2 y.d x.d y.h x.h).mono ?_
    rintro e w3 ⟨rfl, hb3⟩
    have HB3 := Lib.hid (HB2.out.trans hb3)
    have HK3 := HK1.out.below hb3.below HK1.out.lt
    have HK4 := HK2.out.below hb3.below HK2.out.lt
    have c1 := HK3.lot.2
    have c2 := HK4.lot.2
    clear hb3 HK1 HK2 HK3 HK4
    cases h2 : lessB y.d x.d with
    | true =>
      have HC := Lib.hid (show lotCmp x y = 1 by rw [lotCmp, if_neg (by rw [HL1.out]; simp), if_pos h2])
      clear h2 c1 c2
      go_wp2_with fail
      go_ret
      rw [HC.out]
      exact ⟨rfl, HB3.out⟩
    | false =>
      have HC := Lib.hid (show lotCmp x y = Lib.compareInt x.n y.n by rw [lotCmp, if_neg (by rw [HL1.out]; simp), if_neg (by rw [h2]; simp)])
      clear h2
      go_wp2_with fail
      refine (compareInt_any w3 x.n y.n).mono ?_
      rintro e w4 ⟨rfl, hw4⟩
      rw [hw4]
      clear hw4
      rw [← HC.out]
      go_wp2_with fail
      go_ret
      exact ⟨rfl, HB3.out⟩

/-- What is asked of a comparison that slices.SortFunc is given. -/
theorem order_lays (blk off size : Nat) (w : World) : CmpLays Tryd.prog 64 #[] encL 33 lotCmp blk off size w :=
  fun _ _ _ _ x y => order_any _ x y
end Go.Proofs.YtnbdpalbompjlaaDoor

/-
  What board.names answers: whose the lots are.
-/
namespace Go.Proofs.YtnbdpalbompjlaaDoor
open Go.RowKit
set_option maxRecDepth 10000

theorem Lies.lot {w w' : World} {ao : Option Addr} {b off i : Nat} {l : List Lot} {x : Lot} (h : Lies w w.heap.size ao b off (lc l)) (hb : Below w.heap.size w w') (hx : l[i]? = some x) :
    ao = some ⟨b, off, none⟩ ∧ ∀ j v, (encL x)[j]? = some v → w'.cell? ⟨b, off + i * 33 + j, none⟩ = some v := by
  have hl : 0 < (lc l).length := by have := (List.getElem?_eq_some_iff.1 hx).1; rw [lc_length]; omega
  have hlt := h.lt hl
  refine ⟨h.addr hl, fun j v hj => ?_⟩
  have hj33 : j < 33 := by have := (List.getElem?_eq_some_iff.1 hj).1; rw [encL_length] at this; exact this
  rw [Nat.add_assoc]
  exact (hb.cell (p := ⟨b, off + (i * 33 + j), none⟩) hlt).trans (h.cells _ _ ((lc_at l i j x hx hj33).trans hj))

set_option maxHeartbeats 4000000 in
theorem names_any (w : World) (ao : Option Addr) (len cap b off : Nat) (L : List Lot) (hl : L.length = len) (hn : len ≤ 1000) (hs : Lies w w.heap.size ao b off (lc L)) :
    Calls Tryd.prog 65 #[.slice ao len cap] w fun e w' => ∃ v, e = .returned v ∧ Held w' w.heap.size v (iv (L.map (·.n))) ∧ Below w.heap.size w w' := by
  obtain ⟨i0, hi0, hz0, hz1, hz2⟩ := info_parts Tryd.info3
  have hmk := run_makeSlice (P := Tryd.prog) w 35 3 i0 (.int .i64 0) Tryd.underlying35 hi0 hz0 .i64 .i64 0 (len : Int) (by omega) (by omega) (by rw [hz1]; simp; omega) (by rw [hz2]; omega) (by omega)
  simp only [Int.toNat_natCast, Int.toNat_zero, hz1, Nat.mul_one] at hmk
  have hh := held_room w (Value.int .i64 0).cells len 3 (by unfold maxLen; omega)
  have hbel : Below w.heap.size w (w.alloc (.cells (madeCells (Value.int .i64 0).cells len) 3)) := (Below.refl _ _).alloc (Nat.le_refl _) _
  generalize w.alloc (.cells (madeCells (Value.int .i64 0).cells len) 3) = w1 at hmk hh hbel
  generalize Value.slice (some ⟨w.heap.size, 0, none⟩) 0 len = v1 at hmk hh
  have HH := Lib.hid hh
  have HB := Lib.hid hbel
  have HS := Lib.hid hs
  have HL := Lib.hid hl
  obtain ⟨N, hN⟩ : ∃ N, N = L.map (·.n) := ⟨_, rfl⟩
  have HNL := Lib.hid (show N.length = len by rw [hN, List.length_map]; exact hl)
  have HN := Lib.hid hN
  rw [← hN]
  clear hh hbel hs hl hN
  go_enter Tryd.func65, Tryd.ntmps65
  go_wp2_with fail
  go_loopw [3, 11] (fun v i wr => ∃ (j : Nat), j ≤ len ∧ i = .int .i64 j ∧ Hid (Held wr w.heap.size v (iv (N.take j))) ∧ Hid (Below w.heap.size w wr)) (fun _ i _ => len - (intOf i).toNat)
  case atStart => exact ⟨0, Nat.zero_le _, rfl, Lib.hid (by simpa [iv] using HH.out), HB⟩
  case round =>
    obtain ⟨j, hj, rfl, HV, HBel⟩ := hrel
    clear hmk
    by_cases hlt : j < len
    · obtain ⟨x, hx⟩ : ∃ x, L[j]? = some x := ⟨_, List.getElem?_eq_getElem (by rw [HL.out]; exact hlt)⟩
      obtain ⟨ha, hc⟩ := HS.out.lot HBel.out hx
      subst ha
      have HC := Lib.hid hc
      have HX := Lib.hid (show N[j]? = some x.n by rw [HN.out, List.getElem?_map, hx]; rfl)
      have HSZ := Lib.hid (show (Tryd.prog.info? 104).map (·.size) = some (encL x).length by rw [encL_length]; exact Tryd.size104)
      have HLE := Lib.hid (show 0 + (encL x).length ≤ zlot.length by rw [encL_length]; decide)
      have HSP := Lib.hid (splice_all zlot (encL x) (by rw [encL_length]; rfl))
      have HO := Lib.hid (encL_one x)
      have HK := Lib.hid (show Blk (wr.alloc (.cells #[.int .u8 0, .int .u8 0, .int .u8 0, .int .u8 0, .int .u8 0, .int .u8 0, .int .u8 0, .int .u8 0, .int .u8 0, .int .u8 0, .int .u8 0, .int .u8 0, .int .u8 0, .int .u8 0, .int .u8 0, .int .u8 0, .int .u8 0, .int .u8 0, .int .u8 0, .int .u8 0, .int .u8 0, .int .u8 0, .int .u8 0, .int .u8 0, .int .u8 0, .int .u8 0, .int .u8 0, .int .u8 0, .int .u8 0, .int .u8 0, .int .u8 0, .int .u8 0, .int .i64 0] 104)) wr.heap.size 104 zlot from Blk.new wr 104 zlot.toArray)
      have hk2 := HK.out.setRow (encL x)
      have hb2 := below_setRow (((Below.refl wr.heap.size wr).alloc (Nat.le_refl _) (.cells #[.int .u8 0, .int .u8 0, .int .u8 0, .int .u8 0, .int .u8 0, .int .u8 0, .int .u8 0, .int .u8 0, .int .u8 0, .int .u8 0, .int .u8 0, .int .u8 0, .int .u8 0, .int .u8 0, .int .u8 0, .int .u8 0, .int .u8 0, .int .u8 0, .int .u8 0, .int .u8 0, .int .u8 0, .int .u8 0, .int .u8 0, .int .u8 0, .int .u8 0, .int .u8 0, .int .u8 0, .int .u8 0, .int .u8 0, .int .u8 0, .int .u8 0, .int .u8 0, .int .i64 0] 104))) (Nat.le_refl wr.heap.size) (encL x).toArray
      have c32 := hk2.lot.2
      have HV2 := Lib.hid ((HV.out.below hb2).alloc (.cells #[.int .i64 (x.n : Int)] 3))
      have HSrc := Lib.hid (src_intAt ((wr.alloc (.cells #[.int .u8 0, .int .u8 0, .int .u8 0, .int .u8 0, .int .u8 0, .int .u8 0, .int .u8 0, .int .u8 0, .int .u8 0, .int .u8 0, .int .u8 0, .int .u8 0, .int .u8 0, .int .u8 0, .int .u8 0, .int .u8 0, .int .u8 0, .int .u8 0, .int .u8 0, .int .u8 0, .int .u8 0, .int .u8 0, .int .u8 0, .int .u8 0, .int .u8 0, .int .u8 0, .int .u8 0, .int .u8 0, .int .u8 0, .int .u8 0, .int .u8 0, .int .u8 0, .int .i64 0] 104)).setRow wr.heap.size (encL x).toArray) 35 Tryd.underlying35 x.n (wr.heap.size + 1) (by simp [World.setRow]) (P := Tryd.prog))
      have HB2 := Lib.hid (HBel.out.trans ((hb2.mono HBel.out.size).alloc (Nat.le_trans HBel.out.size hb2.size) (.cells #[.int .i64 (x.n : Int)] 3)))
      have HVL := Lib.hid (show (iv (N.take j)).length ≤ 1000 by rw [iv_length, List.length_take]; omega)
      clear hc hx hk2 hb2
      go_wp2_with (first
        | ((with_reducible refine wpList_load_agg ?_ 104 (.tmp 13) ?_ b (off + j * 33) (encL x) ?_ HC.out Tryd.isAgg104 HSZ.out ?_); rfl; rfl; rfl)
        | ((with_reducible refine wpList_store_part ?_ 104 (.tmp 5) (.tmp 14) ?_ wr.heap.size 0 (encL x) ?_ ?_ 104 _ HK.out HSZ.out HLE.out HO.out ?_); rfl; rfl; rfl; rfl; rw [HSP.out])
        | (at_builtin; refine wpList_append_held rfl _ _ 35 35 rfl rfl HV2.out 3 i0 (.int .i64 0) 8 Tryd.underlying35 hi0 hz0 hz1 hz2 rfl _ rfl 1 (iv [x.n]) HSrc.out ?e2 ?e3 ?e4 ?_))
      case e2 => have := HVL.out; unfold maxLen; omega
      case e3 => have := HVL.out; omega
      case e4 => have := HBel.out.size; omega
      intro v2 w2 hh hg
      have HB3 := Lib.hid (HB2.out.trans (hg.below HV2.out HB2.out.size))
      have HH3 := Lib.hid (show Held w2 w.heap.size v2 (iv (N.take (j + 1))) by
        rw [List.take_add_one, HX.out, iv_append]; exact hh)
      clear hh hg HSrc HV2 HB2 HK HC HSZ HLE HSP HO c32
      go_wp2_with fail
      go_roundw
      case rel => exact ⟨j + 1, by omega, by go_num, HH3, HB3⟩
      case measure => simp [intOf]; omega
    · have hjn : j = len := by omega
      have HF := Lib.hid (show Held wr w.heap.size u3 (iv N) by
        have h := HV.out
        rw [hjn, ← HNL.out, List.take_length] at h
        exact h)
      clear hjn
      go_wp2_with fail
      go_ret
      exact ⟨_, rfl, HF.out, HBel.out⟩
end Go.Proofs.YtnbdpalbompjlaaDoor
