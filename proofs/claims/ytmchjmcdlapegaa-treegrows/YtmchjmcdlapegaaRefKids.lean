/-
  The document's own tree: its Below and Kids.
-/
import Derived.Test.YtmchjmcdlapegaaRefNew
namespace Go.Proofs.Ytmchjmcdlapegaa
open Go Go.RowKit
set_option maxRecDepth 10000

/-- How far down a place is: for a loop that goes up. -/
def downM (v : Value) : Nat := (intOf v + 1).toNat
theorem downM_lt {i j : Int} (h : j < i) (hi : 0 ≤ i) : downM (.int .i64 j) < downM (.int .i64 i) := by
  show (j + 1).toNat < (i + 1).toNat
  omega
theorem below_none {t : List Nd} {x y : List UInt8} (hx : plc t x = -1) : belowT t x y = false := by
  unfold belowT
  refine List.any_eq_false.2 fun n hn => ?_
  have hm : n ∈ t := by
    have : ∀ (k : Nat) (i : Int), n ∈ upN t k i → n ∈ t := by
      intro k
      induction k with
      | zero => intro i h; cases h
      | succ k ih =>
        intro i h
        simp only [upN] at h
        cases hc : nodeAt t i with
        | none => rw [hc] at h; cases h
        | some m =>
          rw [hc] at h
          rcases List.mem_cons.1 h with rfl | h
          · obtain ⟨j, _, hj⟩ := nodeAt_some hc
            exact List.mem_of_getElem? hj
          · exact ih _ h
    exact this _ _ hn
  have h1 := not_mem_of_plc hx
  intro e
  exact h1 (by rw [← eq_of_beq e]; exact List.mem_map.2 ⟨n, hm, rfl⟩)

set_option maxHeartbeats 4000000 in
theorem refbelow_any (w : World) (F : List Nat) (b : Nat) (t : List Nd) (most : Int) (x y : List UInt8) (h : Ref w F b t most) (hx : x.length = 32) (hy : y.length = 32) :
    Calls Try.prog 23 #[.pointer (some ⟨b, 0, none⟩), .agg (bv x).toArray, .agg (bv y).toArray] w fun e w' => e = .returned (.bool (belowT t x y)) ∧ Below w.heap.size w w' := by
  have hb1 : Below w.heap.size w ((w.alloc (.cells (bv x).toArray 23)).alloc (.cells (bv y).toArray 23)) := ((Below.refl _ w).alloc (Nat.le_refl _) _).alloc (by simp) _
  have HB := Lib.hid hb1
  have HX := Lib.hid ((Blk.new w 23 (bv x).toArray).alloc (.cells (bv y).toArray 23))
  have HY := Lib.hid (Blk.newAt (w.alloc (.cells (bv x).toArray 23)) 23 (bv y).toArray (w.heap.size + 1) (by simp))
  have H1 := Lib.hid (h.below hb1)
  obtain ⟨X, hX⟩ : ∃ X, X = w.heap.size := ⟨_, rfl⟩
  obtain ⟨Y, hY⟩ : ∃ Y, Y = w.heap.size + 1 := ⟨_, rfl⟩
  have HG := Lib.hid h.1
  clear hb1 h
  go_enter Try.func23, Try.ntmps23
  go_upto_region 1 with fail
  rw [← hY] at HY ⊢
  rw [← hX] at HX ⊢
  generalize (w.alloc (.cells (bv x).toArray 23)).alloc (.cells (bv y).toArray 23) = w1 at HB HX HY H1 ⊢
  clear hX hY
  have HXA := Lib.hid HX.out.rootAll
  have HP1 := Lib.hid (refplace_any w1 F b t most x H1.out hx)
  go_wp2_with ((with_reducible refine wpList_load_name (.tmp 4) ?_ ?_ X 0 x ?_ hx HXA.out ?_); rfl; rfl; rfl)
  refine HP1.out.mono ?_
  rintro e w2 ⟨rfl, hb2⟩
  have HB2 := Lib.hid (HB.out.trans (hb2.mono HB.out.size))
  have H2 := Lib.hid (H1.out.below hb2)
  have HX2 := Lib.hid (HX.out.below hb2 HX.out.lt)
  have HYA := Lib.hid (HY.out.below hb2 HY.out.lt).rootAll
  clear hb2 HP1 HXA HX HY H1 HB
  by_cases hneg : plc t x = -1
  · have HA := Lib.hid (show belowT t x y = false from below_none hneg)
    rw [hneg]
    clear hneg
    go_wp2_with fail
    go_ret
    exact ⟨by rw [HA.out]; rfl, HB2.out⟩
  have hge : ¬ (plc t x < 0) := by have := plc_ge t x; omega
  obtain ⟨px, hpx⟩ : ∃ px, plc t x = px := ⟨_, rfl⟩
  rw [hpx] at hge
  have HP2 := Lib.hid (refplace_any w2 F b t most y H2.out hy)
  have HNE := Lib.hid hneg
  rw [hpx]
  clear hneg hpx
  go_wp2_with ((with_reducible refine wpList_load_name (.tmp 5) ?_ ?_ Y 0 y ?_ hy HYA.out ?_); rfl; rfl; rfl)
  refine HP2.out.mono ?_
  rintro e w3 ⟨rfl, hb3⟩
  have HB3 := Lib.hid (HB2.out.trans (hb3.mono HB2.out.size))
  have H3 := Lib.hid (H2.out.below hb3)
  have HX3 := Lib.hid (HX2.out.below hb3 HX2.out.lt)
  clear hb3 HP2 HYA H2 HX2 HB2 HNE
  obtain ⟨a1, a2, a3, k1, k2, k3, g1, g2, g3, o1, o2, o3, hS⟩ := H3.out.open
  have HS := Lib.hid hS
  clear hS
  obtain ⟨py, hpy⟩ : ∃ py, plc t y = py := ⟨_, rfl⟩
  have HPY := Lib.hid hpy
  have HPL := Lib.hid (show -1 ≤ py ∧ py < t.length by rw [← hpy]; exact ⟨plc_ge t y, plc_lt t y⟩)
  rw [hpy]
  clear hpy
  go_wp2_with fail
  go_loopw [7] (fun v wr => ∃ i : Int, v = .int .i64 i ∧ Hid (-1 ≤ i ∧ i < t.length) ∧ Hid (belowT t x y = (chn t i).any fun n => n.1 == x) ∧ Hid (Below w3.heap.size w3 wr)) (fun v _ => downM v)
  case atStart => exact ⟨py, rfl, HPL, Lib.hid (by unfold belowT; rw [HPY.out]), Lib.hid (Below.refl _ _)⟩
  case round =>
    obtain ⟨i, rfl, HI, HQ, HR⟩ := hrel
    by_cases hi : 0 ≤ i
    · obtain ⟨k, rfl⟩ : ∃ k : Nat, i = (k : Int) := ⟨i.toNat, by omega⟩
      obtain ⟨n, hn⟩ : ∃ n, t[k]? = some n := ⟨_, List.getElem?_eq_getElem (by have := HI.out.2; omega)⟩
      have hkl : k < t.length := (List.getElem?_eq_some_iff.1 hn).1
      have hS2 := HS.out.below HR.out
      obtain ⟨ha, hc⟩ := hS2.l1.name HG.out.rts (rs_at hn)
      have hnl : n.1.length = 32 := HG.out.nds n (List.mem_of_getElem? hn)
      have c0 := hS2.cell0
      subst ha
      have HC1 := Lib.hid (show ∀ w', (∃ nq, w' = wr.drewN nq) → ∀ j v, (bv n.1)[j]? = some v → w'.cell? ⟨g1, o1 + k * 32 + j, none⟩ = some v by rintro w' ⟨nq, rfl⟩; exact hc)
      have hxw := HX3.out.below HR.out HX3.out.lt
      have HC2 := Lib.hid (show ∀ w', (∃ nq, w' = wr.drewN nq) → ∀ j v, (bv x)[j]? = some v → w'.cell? ⟨X, 0 + j, none⟩ = some v by rintro w' ⟨nq, rfl⟩; exact (hxw.drewN nq).rootAll)
      obtain ⟨q, hqe⟩ : ∃ q, (n.1 == x) = q := ⟨_, rfl⟩
      have HQE := Lib.hid hqe
      have hq : ∀ W, (Op.equalIn 10000 23 (.agg (bv n.1).toArray) (.agg (bv x).toArray)).run Try.prog W = .ok q W := fun W => by rw [← hqe]; exact root_eqW W n.1 x hnl hx
      have HCH := Lib.hid (HG.out.chn_some hn)
      have HNO := Lib.hid (show nodeOr t (k : Int) = n by rw [nodeOr, nodeAt_nat, hn]; rfl)
      have HPT := Lib.hid (HG.out.parent_lt hn)
      have HTN := Lib.hid hn
      have HRS := Lib.hid hS2.ref
      clear hqe hn hc hxw hS2
      go_wp2_with fail
      refine wp_region_quiet_lit (by kernel_rfl) (by kernel_rfl) ?_
      repeat (first | ((with_reducible refine wpQuiet_load_name (.tmp 25) ?_ ?_ g1 (o1 + k * 32) n.1 ?_ hnl HC1.out ?_); rfl; rfl; rfl; simp only [Act.put, List.setIfInBounds_toArray, List.set_cons_zero, List.set_cons_succ]) | ((with_reducible refine wpQuiet_load_name (.tmp 4) ?_ ?_ X 0 x ?_ hx HC2.out ?_); rfl; rfl; rfl; simp only [Act.put, List.setIfInBounds_toArray, List.set_cons_zero, List.set_cons_succ]) | go_big_quiet_step (fail))
      refine wpQuiet_nil ?_
      rintro _ ⟨nq, rfl⟩
      have HR4 := Lib.hid (below_dN HR.out nq)
      have H4 := Lib.hid (HRS.out.below (below_dN (Below.refl _ _) nq))
      generalize wr.drewN nq = w4 at HR4 H4 ⊢
      clear c0 HC1 HC2 hq
      cases q with
      | true =>
        go_wp2_with fail
        go_ret
        exact ⟨by rw [HQ.out, HCH.out, List.any_cons, HQE.out]; rfl, HB3.out.trans (HR4.out.mono HB3.out.size)⟩
      | false =>
        have HU := Lib.hid (refup_any w4 F b t most (k : Int) H4.out)
        rw [HNO.out] at HU
        go_wp2_with fail
        refine HU.out.mono ?_
        rintro e w5 ⟨rfl, hb5⟩
        have HR5 := Lib.hid (HR4.out.trans (hb5.mono HR4.out.size))
        have HQ5 := Lib.hid (show belowT t x y = (chn t n.2.2).any fun n => n.1 == x by rw [HQ.out, HCH.out, List.any_cons, HQE.out]; rfl)
        have HI5 := Lib.hid (show -1 ≤ n.2.2 ∧ n.2.2 < t.length from ⟨by
          cases k with
          | zero => rw [HG.out.fst n HTN.out]; decide
          | succ j => obtain ⟨p, m, e, _⟩ := HG.out.par j n HTN.out; rw [e]; omega, by have := HPT.out; omega⟩)
        clear hb5 HU
        go_wp2_with fail
        exact ⟨⟨_, rfl, HI5, HQ5, HR5⟩, downM_lt HPT.out hi⟩
    · have HA := Lib.hid (show belowT t x y = false by rw [HQ.out, chn_neg (by omega)]; rfl)
      go_wp2_with fail
      go_ret
      exact ⟨by rw [HA.out]; rfl, HB3.out.trans (HR.out.mono HB3.out.size)⟩

/-- What has been collected of the first k. -/
def kidsUp (t : List Nd) (r : List UInt8) (k : Nat) : List (List UInt8) := if 0 ≤ plc t r then rs ((t.take k).filter fun n => n.2.2 == plc t r) else []
theorem kidsUp_all (t : List Nd) (r : List UInt8) : kidsUp t r t.length = kidsT t r := by unfold kidsUp kidsT; rw [List.take_length]
theorem kidsUp_zero (t : List Nd) (r : List UInt8) : kidsUp t r 0 = [] := by unfold kidsUp; split <;> simp [rs]
theorem kidsUp_hit {t : List Nd} {r : List UInt8} {k : Nat} {n : Nd} (hn : t[k]? = some n) (h0 : 0 ≤ plc t r) (h : n.2.2 = plc t r) : kidsUp t r (k + 1) = kidsUp t r k ++ [n.1] := by
  unfold kidsUp
  rw [if_pos h0, if_pos h0, List.take_add_one, hn]
  simp [rs, h]
theorem kidsUp_miss {t : List Nd} {r : List UInt8} {k : Nat} {n : Nd} (hn : t[k]? = some n) (h : plc t r < 0 ∨ ¬ n.2.2 = plc t r) : kidsUp t r (k + 1) = kidsUp t r k := by
  unfold kidsUp
  by_cases h0 : 0 ≤ plc t r
  · rw [if_pos h0, if_pos h0, List.take_add_one, hn]
    have : ¬ n.2.2 = plc t r := by rcases h with h | h; · omega
                                   · exact h
    simp [rs, this]
  · rw [if_neg h0, if_neg h0]
theorem kidsUp_len (t : List Nd) (r : List UInt8) (k : Nat) : (kidsUp t r k).length ≤ t.length := by
  unfold kidsUp
  split
  · rw [rs_length]
    exact Nat.le_trans (List.length_filter_le _ _) (by rw [List.length_take]; omega)
  · simp
theorem kidsUp_rts {t : List Nd} {most : Int} (G : Good t most) (r : List UInt8) (k : Nat) : Rts (kidsUp t r k) := by
  unfold kidsUp
  split
  · intro x hx
    obtain ⟨n, h1, rfl⟩ := List.mem_map.1 hx
    exact G.nds n (List.mem_of_mem_take (List.mem_filter.1 h1).1)
  · intro x hx; cases hx
/-- A parent's name is this one just if its place is this one's. -/
theorem Good.pnm_is {t : List Nd} {most : Int} (G : Good t most) {k : Nat} {n : Nd} (hn : t[k + 1]? = some n) {r : List UInt8} : (pnm t n.2.2 == r) = true ↔ (0 ≤ plc t r ∧ n.2.2 = plc t r) := by
  obtain ⟨p, m, h1, h2, h3, _⟩ := G.par k n hn
  have hpm : pnm t n.2.2 = m.1 := by rw [h1]; simp only [pnm, nodeAt_nat, h3]
  rw [hpm, h1]
  constructor
  · intro e
    rw [← eq_of_beq e, G.plc_at h3]
    exact ⟨by omega, rfl⟩
  · rintro ⟨h4, h5⟩
    rw [beq_iff_eq]
    exact plc_name h5.symm h3

set_option maxHeartbeats 8000000 in
theorem refkids_any (w : World) (F : List Nat) (b : Nat) (t : List Nd) (most : Int) (r : List UInt8) (h : Ref w F b t most) (hr : r.length = 32) :
    Calls Try.prog 25 #[.pointer (some ⟨b, 0, none⟩), .agg (bv r).toArray] w fun e w' => ∃ v, e = .returned v ∧ Wide 32 w' w.heap.size v (rv (kidsT t r)) ∧ Below w.heap.size w w' := by
  obtain ⟨i0, hi0, hz0, hz1, hz2⟩ := info_parts Try.infoRootB
  have hzc : (Value.agg (bv zero32).toArray).cells.size = 32 := by simp [Value.cells, bv_length, zero32]
  have HP32 := Lib.hid (show 0 < 32 by omega)
  have HP24 := Lib.hid (show 1 * 32 ≤ 2 ^ 24 by omega)
  have hb1 : Below w.heap.size w (w.alloc (.cells (bv r).toArray 23)) := (Below.refl _ w).alloc (Nat.le_refl _) _
  have HB := Lib.hid hb1
  have HX := Lib.hid (Blk.new w 23 (bv r).toArray)
  have H1 := Lib.hid (h.below hb1)
  obtain ⟨X, hX⟩ : ∃ X, X = w.heap.size := ⟨_, rfl⟩
  have HG := Lib.hid h.1
  have hl256 : t.length ≤ 256 := by have h1 := h.1.room; have h2 := h.1.most256; omega
  clear hb1 h
  go_enter Try.func25, Try.ntmps25
  go_upto_region 1 with fail
  rw [← hX] at HX ⊢
  generalize w.alloc (.cells (bv r).toArray 23) = w1 at HB HX H1 ⊢
  clear hX
  obtain ⟨a1, a2, a3, k1, k2, k3, g1, g2, g3, o1, o2, o3, hS⟩ := H1.out.open
  have c0 := hS.cell2
  have HS := Lib.hid hS
  obtain ⟨N, hN⟩ : ∃ N, N = t.length := ⟨_, rfl⟩
  have HN := Lib.hid hN
  rw [← hN] at c0 hl256
  clear hS hN
  go_wp2_with fail
  go_loopw [5, 13] (fun v i wr => ∃ k : Nat, k ≤ N ∧ i = .int .i64 k ∧ Hid (Wide 32 wr w1.heap.size v (rv (kidsUp t r k))) ∧ Hid (Below w1.heap.size w1 wr)) (fun _ i _ => N - (intOf i).toNat)
  case atStart => exact ⟨0, Nat.zero_le _, rfl, by rw [kidsUp_zero]; exact Lib.hid (wide_nil0 32 _ _), Lib.hid (Below.refl _ _)⟩
  case round =>
    obtain ⟨k, hk, rfl, HW, HR⟩ := hrel
    by_cases hlt : k < N
    · obtain ⟨n, hn⟩ : ∃ n, t[k]? = some n := ⟨_, List.getElem?_eq_getElem (by rw [← HN.out]; exact hlt)⟩
      have hS2 := HS.out.below HR.out
      obtain ⟨P, hP⟩ : ∃ P, P = pnm t n.2.2 := ⟨_, rfl⟩
      obtain ⟨ha3, hc3⟩ := hS2.l3.name HG.out.pns_len (pns_at hn)
      obtain ⟨ha1, hc1⟩ := hS2.l1.name HG.out.rts (rs_at hn)
      have HPL := Lib.hid (show P.length = 32 by rw [hP]; exact HG.out.pnm_len _)
      have HNL := Lib.hid (HG.out.nds n (List.mem_of_getElem? hn))
      rw [← hP] at hc3
      have HPP := Lib.hid hP
      have HTN := Lib.hid hn
      subst ha1 ha3
      have HC3 := Lib.hid hc3
      have HZ := Lib.hid (blk_zeroR wr)
      have HZL := Lib.hid zero32_len
      have hb5 : Below wr.heap.size wr ((wr.alloc (.cells #[.int .u8 0, .int .u8 0, .int .u8 0, .int .u8 0, .int .u8 0, .int .u8 0, .int .u8 0, .int .u8 0, .int .u8 0, .int .u8 0, .int .u8 0, .int .u8 0, .int .u8 0, .int .u8 0, .int .u8 0, .int .u8 0, .int .u8 0, .int .u8 0, .int .u8 0, .int .u8 0, .int .u8 0, .int .u8 0, .int .u8 0, .int .u8 0, .int .u8 0, .int .u8 0, .int .u8 0, .int .u8 0, .int .u8 0, .int .u8 0, .int .u8 0, .int .u8 0] 23)).setRow wr.heap.size (bv P).toArray) := below_row ((Below.refl _ _).alloc (Nat.le_refl _) _) (Nat.le_refl _) _
      have hb6 := HR.out.trans (hb5.mono HR.out.size)
      have HB5 := Lib.hid hb6
      have HV := Lib.hid (HZ.out.setRow (bv P))
      have HX5 := Lib.hid (HX.out.below hb6 HX.out.lt)
      have HW5 := Lib.hid (HW.out.below hb5)
      have HS5 := Lib.hid (hS2.below hb5)
      have HC1 := Lib.hid (show ∀ j v, (bv n.1)[j]? = some v → ((wr.alloc (.cells #[.int .u8 0, .int .u8 0, .int .u8 0, .int .u8 0, .int .u8 0, .int .u8 0, .int .u8 0, .int .u8 0, .int .u8 0, .int .u8 0, .int .u8 0, .int .u8 0, .int .u8 0, .int .u8 0, .int .u8 0, .int .u8 0, .int .u8 0, .int .u8 0, .int .u8 0, .int .u8 0, .int .u8 0, .int .u8 0, .int .u8 0, .int .u8 0, .int .u8 0, .int .u8 0, .int .u8 0, .int .u8 0, .int .u8 0, .int .u8 0, .int .u8 0, .int .u8 0] 23)).setRow wr.heap.size (bv P).toArray).cell? ⟨g1, o1 + k * 32 + j, none⟩ = some v from fun j v hj => by
        have h5 := hc1 j v hj
        rw [← h5]
        exact Below.cell (B := wr.heap.size) hb5 (World.block_lt_of_cell? wr _ h5))
      have HWR := Lib.hid (show wrap64 ((k : Int) + 1) = (k : Int) + 1 by unfold wrap64; omega)
      clear hn hS2 hP hc3 hc1 hb5 hb6 c0
      go_upto_region 5 with (first
        | ((with_reducible refine wpList_load_name (.tmp 16) ?_ ?_ g3 (o3 + k * 32) P ?_ HPL.out HC3.out ?_); rfl; rfl; rfl)
        | ((with_reducible refine wpList_store_name (.tmp 7) (.tmp 17) ?_ ?_ wr.heap.size zero32 P ?_ ?_ HZ.out HZL.out HPL.out ?_); rfl; rfl; rfl; rfl))
      obtain ⟨V, hV⟩ : ∃ V, V = wr.heap.size := ⟨_, rfl⟩
      rw [← hV] at HV HX5 HW5 HS5 HC1 HB5 ⊢
      generalize (wr.alloc (.cells _ 23)).setRow _ (bv P).toArray = w5 at HV HX5 HW5 HS5 HC1 HB5 ⊢
      clear hV HZ HZL HC3 HW
      have HVA := Lib.hid HV.out.rootAll
      have HXA := Lib.hid HX5.out.rootAll
      by_cases hk0 : k = 0
      · subst hk0
        have HM := Lib.hid (kidsUp_miss (r := r) HTN.out (by
          have h1 := HG.out.fst n HTN.out
          by_cases h2 : plc t r < 0
          · exact .inl h2
          · exact .inr (by rw [h1]; omega)))
        have HW6 := Lib.hid (show Wide 32 w5 w1.heap.size u5 (rv (kidsUp t r (0 + 1))) by rw [HM.out]; exact HW5.out)
        obtain ⟨ao, m, cap, bb, off, e, _, _⟩ := HW5.out.lies
        subst e
        go_wp2_with fail
        refine ⟨⟨0 + 1, by omega, by go_num, HW6, HB5⟩, ?_⟩
        first | exact meas N 0 ((0 : Int) + 1) (by omega) hlt | exact meas N 0 (wrap64 ((0 : Int) + 1)) (by rw [HWR.out]; omega) hlt | exact meas N 0 _ (by first | rfl | omega) hlt
      obtain ⟨k', rfl⟩ : ∃ k', k = k' + 1 := ⟨k - 1, by omega⟩
      obtain ⟨K, hK⟩ : ∃ K, K = k' + 1 := ⟨_, rfl⟩
      have HPI := Lib.hid (HG.out.pnm_is HTN.out (r := r))
      rw [← hK] at HWR HTN HW5 HC1 hlt hk ⊢
      have d0 : (0 : Int) < (K : Int) := by omega
      have dN : 0 < K := by omega
      have HKE := Lib.hid hK
      clear hK hk0
      have hq := root_eqW w5 P r HPL.out hr
      obtain ⟨q, hqe⟩ : ∃ q, (P == r) = q := ⟨_, rfl⟩
      rw [hqe] at hq
      have HQE := Lib.hid (show (pnm t n.2.2 == r) = q by rw [← HPP.out]; exact hqe)
      clear hqe
      cases q with
      | false =>
        have HM := Lib.hid (kidsUp_miss (r := r) HTN.out (by
          by_cases h2 : plc t r < 0
          · exact .inl h2
          · refine .inr fun h3 => ?_
            have h4 := HPI.out.2 ⟨by omega, h3⟩
            rw [HQE.out] at h4
            cases h4))
        have HW6 := Lib.hid (show Wide 32 w5 w1.heap.size u5 (rv (kidsUp t r (K + 1))) by rw [HM.out]; exact HW5.out)
        obtain ⟨ao, m, cap, bb, off, e, _, _⟩ := HW5.out.lies
        subst e
        go_wp2_with (first
          | ((with_reducible refine wpList_load_name (.tmp 7) ?_ ?_ V 0 P ?_ HPL.out HVA.out ?_); rfl; rfl; rfl)
          | ((with_reducible refine wpList_load_name (.tmp 3) ?_ ?_ X 0 r ?_ hr HXA.out ?_); rfl; rfl; rfl))
        refine ⟨⟨K + 1, by omega, by go_num, HW6, HB5⟩, ?_⟩
        rw [← HKE.out]
        first | exact meas N K ((K : Int) + 1) (by omega) hlt | exact meas N K (wrap64 ((K : Int) + 1)) (by rw [HWR.out]; omega) hlt
      | true =>
        have HIS := Lib.hid (HPI.out.1 HQE.out)
        have HM := Lib.hid (kidsUp_hit HTN.out HIS.out.1 HIS.out.2)
        obtain ⟨ao, m, cap, bb, off, e, _, _⟩ := HW5.out.lies
        subst e
        have HPC := Lib.hid (refplace_any w5 F b t most r HS5.out.ref hr)
        obtain ⟨pr, hpr⟩ : ∃ pr, plc t r = pr := ⟨_, rfl⟩
        have hge : ¬ (pr < 0) := by rw [← hpr]; have := HIS.out.1; omega
        rw [hpr] at HPC
        clear hpr
        go_wp2_with (first
          | ((with_reducible refine wpList_load_name (.tmp 7) ?_ ?_ V 0 P ?_ HPL.out HVA.out ?_); rfl; rfl; rfl)
          | ((with_reducible refine wpList_load_name (.tmp 3) ?_ ?_ X 0 r ?_ hr HXA.out ?_); rfl; rfl; rfl))
        refine HPC.out.mono ?_
        rintro e w6 ⟨rfl, hb6⟩
        have HB6 := Lib.hid (HB5.out.trans (hb6.mono HB5.out.size))
        have hS6 := HS5.out.below hb6
        have c0 := hS6.cell0
        rw [← HN.out] at c0
        have HC6 := Lib.hid (fun j u (hj : (bv n.1)[j]? = some u) => (hb6.cell (World.block_lt_of_cell? w5 _ (HC1.out j u hj))).trans (HC1.out j u hj))
        have HWB := Lib.hid (HW5.out.below hb6)
        have HWA := Lib.hid ((HW5.out.below hb6).alloc (.cells (bv n.1).toArray 23))
        have HSrc := Lib.hid (src_rowT w6 32 (by omega) 32 23 Try.underlying32 (bv n.1) (by rw [bv_length, HNL.out]) (bv_one _) (P := Try.prog))
        have HB32 := Lib.hid (show (bv n.1).length = 32 by rw [bv_length, HNL.out])
        have HLN := Lib.hid (rv_length _ (kidsUp_rts HG.out r K))
        have HFL := Lib.hid (show (kidsUp t r K).length ≤ 256 by have h1 := kidsUp_len t r K; rw [← HN.out] at h1; omega)
        have HSZ := Lib.hid (show w1.heap.size ≤ (w6.alloc (.cells (bv n.1).toArray 23)).heap.size by have := HB6.out.size; simp; omega)
        clear hb6 hS6 HPC HVA HXA
        go_wp2_with (first
          | ((with_reducible refine wpList_load_name (.tmp 37) ?_ ?_ g1 (o1 + K * 32) n.1 ?_ HNL.out HC6.out ?_); rfl; rfl; rfl)
          | ((with_reducible refine wpList_build_row ?_ 32 23 (.tmp 38) ?_ (bv n.1) ?_ i0 (.agg (bv zero32).toArray) (s := 32) HP32.out HB32.out Try.underlying32 hi0 hz0 hz1 HP24.out ?_); rfl; rfl; rfl)
          | (at_builtin; refine wpList_append_wide rfl _ _ 32 32 rfl rfl HWA.out HP32.out 23 i0 (.agg (bv zero32).toArray) 32 Try.underlying32 hi0 hz0 hz1 hz2 hzc _ rfl 1 (bv n.1) HSrc.out ?e2 ?e3 HSZ.out ?_; (case e2 => rw [HLN.out]; have := HFL.out; unfold maxLen; omega); (case e3 => rw [HLN.out]; have := HFL.out; omega); intro v' w7 hh hg; obtain ⟨ao', n', cap', b', off', e', _, _⟩ := hh.lies; subst e'; have HW7 := Lib.hid (show Wide 32 w7 w1.heap.size (.slice ao' n' cap') (rv (kidsUp t r (K + 1))) by rw [HM.out, rv_append, rv_sole]; exact hh); have HB7 := Lib.hid ((HB6.out.alloc HB6.out.size _).trans (hg.belowW HWA.out HSZ.out)); clear hh hg))
        refine ⟨⟨K + 1, by omega, by go_num, HW7, HB7⟩, ?_⟩
        rw [← HKE.out]
        first | exact meas N K ((K : Int) + 1) (by omega) hlt | exact meas N K (wrap64 ((K : Int) + 1)) (by rw [HWR.out]; omega) hlt
    · obtain rfl : k = N := by omega
      have HW8 := Lib.hid (show Wide 32 wr w1.heap.size u5 (rv (kidsT t r)) by rw [← kidsUp_all, ← HN.out]; exact HW.out)
      obtain ⟨ao, m, cap, bb, off, e, _, _⟩ := HW.out.lies
      subst e
      go_wp2_with fail
      go_ret
      exact ⟨_, rfl, HW8.out.mono HB.out.size, HB.out.trans (HR.out.mono HB.out.size)⟩
end Go.Proofs.Ytmchjmcdlapegaa
