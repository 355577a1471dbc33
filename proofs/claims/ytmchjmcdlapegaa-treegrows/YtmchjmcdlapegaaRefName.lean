/-
  The document's own tree: its Name, Up, Same.
-/
import Derived.Test.YtmchjmcdlapegaaRefTree
import Derived.IntWalk
namespace Go.Proofs.Ytmchjmcdlapegaa
open Go Go.RowKit
set_option maxRecDepth 10000

/-- A small number's byte. -/
def byteOf (n : Int) : UInt8 := UInt8.ofNat (n % 256).toNat
theorem byteOf_int (n : Int) : ((byteOf n).toNat : Int) = n % 256 := by
  have h1 := Int.emod_nonneg n (show (256 : Int) ≠ 0 by decide)
  have h2 := Int.emod_lt_of_pos n (show (0 : Int) < 256 by decide)
  unfold byteOf
  rw [UInt8.toNat_ofNat']
  omega
/-- A number's name. -/
def nmN (n : Int) : List UInt8 := (zero32.set 0 (byteOf n)).set 31 (byteOf (7 * n))
theorem nmN_len (n : Int) : (nmN n).length = 32 := by simp [nmN, zero32]
theorem nmN_at0 (n : Int) : (nmN n)[0]? = some (byteOf n) := by simp [nmN, zero32]
theorem nmN_inj {m n : Int} (h : nmN m = nmN n) (h0 : 0 ≤ m) (h1 : m < 256) (h2 : 0 ≤ n) (h3 : n < 256) : m = n := by
  have h4 := congrArg (fun l => l[0]?) h
  simp only [nmN_at0, Option.some.injEq] at h4
  have h5 := byteOf_int m
  have h6 := byteOf_int n
  rw [h4, h6] at h5
  omega
theorem bv_setN (l : List UInt8) (j : Nat) (c : UInt8) : (bv l).set j (.int .u8 (c.toNat : Int)) = bv (l.set j c) := by simp [bv, List.map_set]

theorem name_any (w : World) (n : Int) : Calls Try.prog 20 #[.int .i64 n] w fun e w' => e = .returned (.agg (bv (nmN n)).toArray) ∧ Below w.heap.size w w' := by
  have HZ := Lib.hid ((blk_zeroR w).alloc (.cells #[.int .u8 0, .int .u8 0, .int .u8 0, .int .u8 0, .int .u8 0, .int .u8 0, .int .u8 0, .int .u8 0, .int .u8 0, .int .u8 0, .int .u8 0, .int .u8 0, .int .u8 0, .int .u8 0, .int .u8 0, .int .u8 0, .int .u8 0, .int .u8 0, .int .u8 0, .int .u8 0, .int .u8 0, .int .u8 0, .int .u8 0, .int .u8 0, .int .u8 0, .int .u8 0, .int .u8 0, .int .u8 0, .int .u8 0, .int .u8 0, .int .u8 0, .int .u8 0] 23))
  have hy := blk_zeroR (w.alloc (.cells #[.int .u8 0, .int .u8 0, .int .u8 0, .int .u8 0, .int .u8 0, .int .u8 0, .int .u8 0, .int .u8 0, .int .u8 0, .int .u8 0, .int .u8 0, .int .u8 0, .int .u8 0, .int .u8 0, .int .u8 0, .int .u8 0, .int .u8 0, .int .u8 0, .int .u8 0, .int .u8 0, .int .u8 0, .int .u8 0, .int .u8 0, .int .u8 0, .int .u8 0, .int .u8 0, .int .u8 0, .int .u8 0, .int .u8 0, .int .u8 0, .int .u8 0, .int .u8 0] 23))
  rw [show (w.alloc (.cells #[.int .u8 0, .int .u8 0, .int .u8 0, .int .u8 0, .int .u8 0, .int .u8 0, .int .u8 0, .int .u8 0, .int .u8 0, .int .u8 0, .int .u8 0, .int .u8 0, .int .u8 0, .int .u8 0, .int .u8 0, .int .u8 0, .int .u8 0, .int .u8 0, .int .u8 0, .int .u8 0, .int .u8 0, .int .u8 0, .int .u8 0, .int .u8 0, .int .u8 0, .int .u8 0, .int .u8 0, .int .u8 0, .int .u8 0, .int .u8 0, .int .u8 0, .int .u8 0] 23)).heap.size = w.heap.size + 1 by simp] at hy
  have HY := Lib.hid hy
  have HB := Lib.hid (show Below w.heap.size w ((w.alloc (.cells #[.int .u8 0, .int .u8 0, .int .u8 0, .int .u8 0, .int .u8 0, .int .u8 0, .int .u8 0, .int .u8 0, .int .u8 0, .int .u8 0, .int .u8 0, .int .u8 0, .int .u8 0, .int .u8 0, .int .u8 0, .int .u8 0, .int .u8 0, .int .u8 0, .int .u8 0, .int .u8 0, .int .u8 0, .int .u8 0, .int .u8 0, .int .u8 0, .int .u8 0, .int .u8 0, .int .u8 0, .int .u8 0, .int .u8 0, .int .u8 0, .int .u8 0, .int .u8 0] 23)).alloc (.cells #[.int .u8 0, .int .u8 0, .int .u8 0, .int .u8 0, .int .u8 0, .int .u8 0, .int .u8 0, .int .u8 0, .int .u8 0, .int .u8 0, .int .u8 0, .int .u8 0, .int .u8 0, .int .u8 0, .int .u8 0, .int .u8 0, .int .u8 0, .int .u8 0, .int .u8 0, .int .u8 0, .int .u8 0, .int .u8 0, .int .u8 0, .int .u8 0, .int .u8 0, .int .u8 0, .int .u8 0, .int .u8 0, .int .u8 0, .int .u8 0, .int .u8 0, .int .u8 0] 23)) from ((Below.refl _ w).alloc (Nat.le_refl _) _).alloc (by simp) _)
  have HL := Lib.hid zero32_len
  have HM := Lib.hid (nmN_len n)
  obtain ⟨R, hR⟩ : ∃ R, R = w.heap.size := ⟨_, rfl⟩
  obtain ⟨Y, hY⟩ : ∃ Y, Y = w.heap.size + 1 := ⟨_, rfl⟩
  have HRY := Lib.hid (show R ≠ Y ∧ w.heap.size ≤ R ∧ w.heap.size ≤ Y by omega)
  clear hy
  go_enter Try.func20, Try.ntmps20
  go_upto_region 2 with fail
  rw [← hY] at HY ⊢
  rw [← hR] at HZ ⊢
  generalize (w.alloc (.cells _ 23)).alloc (.cells _ 23) = w1 at HZ HY HB ⊢
  clear hR hY
  have e0 : IntKind.u8.wrap n = ((byteOf n).toNat : Int) := by rw [byteOf_int]; simp [IntKind.wrap, IntKind.signed, IntKind.bits]
  have e7 : IntKind.u8.wrap (wrap64 (7 * n)) = ((byteOf (7 * n)).toNat : Int) := by
    rw [byteOf_int]
    simp only [IntKind.wrap, IntKind.signed, IntKind.bits]
    unfold wrap64
    simp
    omega
  have q0 := HY.out.cell 0
  have q31 := HY.out.cell 31
  have f0 := HY.out.free 0
  have f31 := HY.out.free 31
  have HY2 := Lib.hid (show Blk ((w1.setCell ⟨Y, 0, none⟩ (.int .u8 ((byteOf n).toNat : Int))).setCell ⟨Y, 31, none⟩ (.int .u8 ((byteOf (7 * n)).toNat : Int))) Y 23 (bv (nmN n)) by
    have := (HY.out.set 0 (.int .u8 ((byteOf n).toNat : Int))).set 31 (.int .u8 ((byteOf (7 * n)).toNat : Int))
    rw [bv_setN, bv_setN] at this
    exact this)
  have HR2 := Lib.hid ((HZ.out.other ⟨Y, 0, none⟩ (.int .u8 ((byteOf n).toNat : Int)) HRY.out.1).other ⟨Y, 31, none⟩ (.int .u8 ((byteOf (7 * n)).toNat : Int)) HRY.out.1)
  have HA2 := Lib.hid HY2.out.rootAll
  go_wp2_with (first
    | ((with_reducible refine wpList_load_name (.tmp 3) ?_ ?_ Y 0 (nmN n) ?_ HM.out HA2.out ?_); rfl; rfl; rfl)
    | ((with_reducible refine wpList_store_name (.tmp 2) (.tmp 11) ?_ ?_ R zero32 (nmN n) ?_ ?_ HR2.out HL.out HM.out ?_); rfl; rfl; rfl; rfl))
  refine ret_name rfl rfl (HR2.out.setRow (bv (nmN n))) HM.out rfl ⟨rfl, below_row ((HB.out.setCell (by exact HRY.out.2.2) _).setCell (by exact HRY.out.2.2) _) (by exact HRY.out.2.1) _⟩

theorem refup_any (w : World) (F : List Nat) (b : Nat) (t : List Nd) (most : Int) (i : Int) (h : Ref w F b t most) :
    Calls Try.prog 30 #[.pointer (some ⟨b, 0, none⟩), .int .i64 i] w fun e w' => e = .returned (.int .i64 (nodeOr t i).2.2) ∧ Below w.heap.size w w' := by
  have H1 := Lib.hid h
  obtain ⟨a1, a2, a3, k1, k2, k3, g1, g2, g3, o1, o2, o3, h⟩ := h.open
  have HG := Lib.hid h.good
  have c0 := h.cell0
  have c2 := h.cell2
  by_cases h0 : i ≤ 0
  · have HA := Lib.hid (show (nodeOr t i).2.2 = -1 by
      by_cases h1 : i < 0
      · rw [nodeOr, nodeAt_neg h1]; rfl
      · obtain rfl : i = ((0 : Nat) : Int) := by omega
        have h2 : t[0]? = some (t[0]'HG.out.pos) := List.getElem?_eq_getElem HG.out.pos
        rw [nodeOr, nodeAt_nat, h2]
        exact HG.out.fst _ h2)
    clear h
    go_enter Try.func30, Try.ntmps30
    go_wp2_with fail
    go_ret
    exact ⟨by rw [HA.out]; rfl, Below.refl _ _⟩
  · by_cases h1 : (t.length : Int) ≤ i
    · have HA := Lib.hid (show (nodeOr t i).2.2 = -1 by
        obtain ⟨k, rfl⟩ : ∃ k : Nat, i = (k : Int) := ⟨i.toNat, by omega⟩
        rw [nodeOr, nodeAt_nat, List.getElem?_eq_none (by omega)]; rfl)
      clear h
      go_enter Try.func30, Try.ntmps30
      go_wp2_with fail
      go_ret
      exact ⟨by rw [HA.out]; rfl, Below.refl _ _⟩
    · obtain ⟨k, rfl⟩ : ∃ k : Nat, i = ((k + 1 : Nat) : Int) := ⟨i.toNat - 1, by omega⟩
      obtain ⟨n, hn⟩ : ∃ n, t[k + 1]? = some n := ⟨_, List.getElem?_eq_getElem (by omega)⟩
      have HA := Lib.hid (show (nodeOr t ((k + 1 : Nat) : Int)).2.2 = plc t (pnm t n.2.2) by
        rw [nodeOr, nodeAt_nat, hn]; exact (HG.out.plc_pnm hn).symm)
      obtain ⟨ha, hc⟩ := h.l3.name HG.out.pns_len (pns_at hn)
      subst ha
      have HPL := Lib.hid (HG.out.pnm_len n.2.2)
      have HC := Lib.hid hc
      have HPC := Lib.hid (refplace_any w F b t most (pnm t n.2.2) H1.out HPL.out)
      obtain ⟨K, hK⟩ : ∃ K, K = k + 1 := ⟨_, rfl⟩
      rw [← hK] at HC HA h0 h1 ⊢
      have hKl : K < t.length := by rw [hK]; exact (List.getElem?_eq_some_iff.1 hn).1
      clear h hc hn hK
      go_enter Try.func30, Try.ntmps30
      go_wp2_with ((with_reducible refine wpList_load_name (.tmp 22) ?_ ?_ g3 (o3 + K * 32) (pnm t n.2.2) ?_ HPL.out HC.out ?_); rfl; rfl; rfl)
      refine HPC.out.mono ?_
      rintro e w2 ⟨rfl, hb⟩
      have HB := Lib.hid hb
      clear hb
      go_wp2_with fail
      go_ret
      exact ⟨by rw [HA.out]; rfl, HB.out⟩

/-- Are two rows of names the same? -/
def sameR (a b : List (List UInt8)) : Bool := a == b
set_option maxHeartbeats 4000000 in
theorem rsame_any (w : World) (a1 a2 : Option Addr) (k1 k2 g1 g2 o1 o2 : Nat) (x y : List (List UInt8)) (hx : Rts x) (hy : Rts y) (h1 : Lies w w.heap.size a1 g1 o1 (rv x)) (h2 : Lies w w.heap.size a2 g2 o2 (rv y)) (hl : x.length ≤ 1000) :
    Calls Try.prog 24 #[.slice a1 x.length k1, .slice a2 y.length k2] w fun e w' => e = .returned (.bool (sameR x y)) ∧ ∃ n, w' = w.drewN n := by
  have H1 := Lib.hid h1
  have H2 := Lib.hid h2
  clear h1 h2
  obtain ⟨N, hN⟩ : ∃ N, N = x.length := ⟨_, rfl⟩
  have HN := Lib.hid hN
  by_cases hne : x.length = y.length
  · have HE := Lib.hid hne
    rw [← hne, ← hN]
    have hl2 : N ≤ 1000 := by omega
    clear hne hN hl
    go_enter Try.func24, Try.ntmps24
    go_wp2_with fail
    go_loopw [13] (fun i wr => ∃ k : Nat, k ≤ N ∧ i = .int .i64 k ∧ Hid (x.take k = y.take k) ∧ Hid (∃ n, wr = w.drewN n)) (fun i _ => N - (intOf i).toNat)
    case atStart => exact ⟨0, Nat.zero_le _, rfl, Lib.hid rfl, Lib.hid ⟨0, rfl⟩⟩
    case round =>
      obtain ⟨k, hk, rfl, HQ, HD⟩ := hrel
      obtain ⟨nq0, rfl⟩ := HD.out
      by_cases hlt : k < N
      · obtain ⟨r, hr⟩ : ∃ r, x[k]? = some r := ⟨_, List.getElem?_eq_getElem (by rw [← HN.out]; exact hlt)⟩
        obtain ⟨s, hs⟩ : ∃ s, y[k]? = some s := ⟨_, List.getElem?_eq_getElem (by rw [← HE.out, ← HN.out]; exact hlt)⟩
        obtain ⟨ha1, hc1⟩ := H1.out.name hx hr
        obtain ⟨ha2, hc2⟩ := H2.out.name hy hs
        subst ha1 ha2
        have HRL := Lib.hid (hx r (List.mem_of_getElem? hr))
        have HSL := Lib.hid (hy s (List.mem_of_getElem? hs))
        have HC1 := Lib.hid (show ∀ w', (∃ nq, w' = (w.drewN nq0).drewN nq) → ∀ j v, (bv r)[j]? = some v → w'.cell? ⟨g1, o1 + k * 32 + j, none⟩ = some v by rintro w' ⟨nq, rfl⟩; exact hc1)
        have HC2 := Lib.hid (show ∀ w', (∃ nq, w' = (w.drewN nq0).drewN nq) → ∀ j v, (bv s)[j]? = some v → w'.cell? ⟨g2, o2 + k * 32 + j, none⟩ = some v by rintro w' ⟨nq, rfl⟩; exact hc2)
        obtain ⟨q, hqe⟩ : ∃ q, (r == s) = q := ⟨_, rfl⟩
        have HQE := Lib.hid hqe
        have hq : ∀ W, (Op.equalIn 10000 23 (.agg (bv r).toArray) (.agg (bv s).toArray)).run Try.prog W = .ok q W := fun W => by rw [← hqe]; exact root_eqW W r s HRL.out HSL.out
        have HTR := Lib.hid hr
        have HTS := Lib.hid hs
        clear hqe hr hs hc1 hc2
        go_wp2_with fail
        refine wp_region_quiet_lit (by kernel_rfl) (by kernel_rfl) ?_
        repeat (first | ((with_reducible refine wpQuiet_load_name (.tmp 18) ?_ ?_ g1 (o1 + k * 32) r ?_ HRL.out HC1.out ?_); rfl; rfl; rfl; simp only [Act.put, List.setIfInBounds_toArray, List.set_cons_zero, List.set_cons_succ]) | ((with_reducible refine wpQuiet_load_name (.tmp 22) ?_ ?_ g2 (o2 + k * 32) s ?_ HSL.out HC2.out ?_); rfl; rfl; rfl; simp only [Act.put, List.setIfInBounds_toArray, List.set_cons_zero, List.set_cons_succ]) | go_big_quiet_step (fail))
        refine wpQuiet_nil ?_
        rintro _ ⟨nq, rfl⟩
        have HDD := Lib.hid (show ∃ n, ((w.drewN nq0).drewN nq) = w.drewN n from ⟨_, World.drewN_drewN _ _ _⟩)
        generalize (w.drewN nq0).drewN nq = w3 at HDD ⊢
        cases q with
        | true =>
          have HW := Lib.hid (show wrap64 ((k : Int) + 1) = (k : Int) + 1 by unfold wrap64; omega)
          have HT := Lib.hid (show x.take (k + 1) = y.take (k + 1) by rw [List.take_add_one, List.take_add_one, HQ.out, HTR.out, HTS.out, eq_of_beq HQE.out])
          go_wp2_with fail
          refine ⟨⟨k + 1, by omega, by go_num, HT, HDD⟩, ?_⟩
          exact meas N k _ (by first | rfl | omega | (rw [HW.out]; omega)) hlt
        | false =>
          have HA := Lib.hid (show sameR x y = false by
            rw [sameR, beq_eq_false_iff_ne]
            intro e
            rw [e, HTS.out] at HTR
            have := Option.some.inj HTR.out
            have h5 := HQE.out
            rw [this] at h5
            simp at h5)
          go_wp2_with fail
          go_ret
          exact ⟨by rw [HA.out]; rfl, HDD.out⟩
      · obtain rfl : k = N := by omega
        have HA := Lib.hid (show sameR x y = true by
          rw [sameR, beq_iff_eq]
          have := HQ.out
          rwa [List.take_of_length_le (by rw [HN.out]; exact Nat.le_refl _), List.take_of_length_le (by rw [← HE.out, HN.out]; exact Nat.le_refl _)] at this)
        go_wp2_with fail
        go_ret
        exact ⟨by rw [HA.out]; rfl, nq0, rfl⟩
  · have HA := Lib.hid (show sameR x y = false by
      rw [sameR, beq_eq_false_iff_ne]
      intro e
      exact hne (by rw [e]))
    have d1 : ¬ ((x.length : Int) = (y.length : Int)) := by omega
    clear hne hN
    go_enter Try.func24, Try.ntmps24
    go_wp2_with fail
    go_ret
    exact ⟨by rw [HA.out]; rfl, 0, rfl⟩
end Go.Proofs.Ytmchjmcdlapegaa
