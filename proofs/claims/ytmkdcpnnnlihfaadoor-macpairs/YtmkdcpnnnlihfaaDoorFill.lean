/-
  What fill answers: the key, or its digest, filled up with bytes 0 to 64.
-/
import Derived.Test.YtmkdcpnnnlihfaaDoorMasked
namespace Go.Proofs.YtmkdcpnnnlihfaaDoor
open Go.RowKit

/-- The key, or its digest. -/
def keyB (k : List UInt8) : List UInt8 := if 64 < k.length then digest k else k
def fillK (k : List UInt8) : List UInt8 := keyB k ++ List.replicate (64 - (keyB k).length) 0
theorem keyB_le (k : List UInt8) : (keyB k).length ≤ 64 := by
  unfold keyB
  split
  · rw [digest_length]; omega
  · omega
theorem fillK_length (k : List UInt8) : (fillK k).length = 64 := by
  have := keyB_le k
  simp [fillK]; omega

/-- Bytes 0, as cells. -/
def zb (n : Nat) : List Value := bv (List.replicate n 0)
theorem zb_length (n : Nat) : (zb n).length = n := by simp [zb, bv]
theorem splice_zb (n : Nat) (cs : List UInt8) : splice (zb n) 0 (bv cs) = bv (cs ++ List.replicate (n - cs.length) 0) := by
  rw [zb, bv_splice]
  congr 1
  rw [splice, List.take_zero, List.nil_append, List.drop_replicate, Nat.zero_add]

theorem Tryd.zero35 : (Tryd.prog.info? 35).map (fun i => (i.zero, i.size)) = some (some (.agg (zb 64).toArray), 64) := by kernel_rfl
theorem Tryd.zero39 : (Tryd.prog.info? 39).map (fun i => (i.zero, i.size)) = some (some (.agg (zb 32).toArray), 32) := by kernel_rfl

set_option maxHeartbeats 4000000 in
theorem fill_any (w : World) (k : List UInt8) (hT : Tabs w) (hk : k.length ≤ 100000) :
    Calls Tryd.prog 12 #[.string ⟨k.toArray⟩] w fun e w' => e = .returned (.agg (bv (fillK k)).toArray) ∧ Below w.heap.size w w' := by
  obtain ⟨S, hS⟩ : ∃ S : ByteArray, S = ⟨k.toArray⟩ := ⟨_, rfl⟩
  have zS : S.size = k.length := by rw [hS]; simp [ByteArray.size]
  have HSS := Lib.hid hS
  have hz := (zero_of_info Tryd.zero35).1
  have hz2 := (zero_of_info Tryd.zero39).1
  have hb0 := (Blk.new w 35 (zb 64).toArray).alloc (.cells (zb 64).toArray 35)
  have hb1 := Blk.new (w.alloc (.cells (zb 64).toArray 35)) 35 (zb 64).toArray
  simp only [World.size_alloc] at hb1
  have hB : Below w.heap.size w ((w.alloc (.cells (zb 64).toArray 35)).alloc (.cells (zb 64).toArray 35)) := ((Below.refl _ _).alloc (Nat.le_refl _) _).alloc (by simp) _
  have H0 := Lib.hid hb0
  have H1 := Lib.hid hb1
  have HB := Lib.hid hB
  have HT := Lib.hid hT
  clear hb0 hb1 hB hT
  rw [← hS]
  clear hS
  go_enter Tryd.func12, Tryd.ntmps12
  have HE := Lib.hid (show ∀ (w5 : World), Blk w5 (w.heap.size + 1) 35 (bv (fillK k)) → Blk w5 w.heap.size 35 (zb 64) → Below w.heap.size w w5 → (∀ j v, (bv (fillK k))[j]? = some v → w5.cell? ⟨w.heap.size + 1, 0 + j, none⟩ = some v) ∧ (Tryd.prog.info? 35).map (·.size) = some (bv (fillK k)).length ∧ 0 + (bv (fillK k)).length ≤ (zb 64).length ∧ splice (zb 64) 0 (bv (fillK k)) = bv (fillK k) ∧ Blk (w5.setRow w.heap.size (bv (fillK k)).toArray) w.heap.size 35 (bv (fillK k)) ∧ Below w.heap.size w (w5.setRow w.heap.size (bv (fillK k)).toArray) from fun w5 h1 h0 hB =>
    ⟨h1.cells, by rw [bv_length, fillK_length]; exact Tryd.size35, by rw [bv_length, fillK_length, zb_length]; omega, splice_all _ _ (by rw [bv_length, fillK_length, zb_length]), h0.setRow _, below_setRow hB (Nat.le_refl _) _⟩)
  by_cases h64 : 64 < k.length
  · have d : (64 : Int) < (k.length : Int) := by omega
    go_wp2_with fail
    have hof := of_one ((w.alloc (.cells (zb 64).toArray 35)).alloc (.cells (zb 64).toArray 35)) k (HT.out.below HB.out HT.out.size) hk
    rw [← HSS.out] at hof
    simp only [World.size_alloc] at hof
    refine hof.mono ?_
    clear hof
    rintro e w2 ⟨rfl, hb2⟩
    have h0 := H0.out.below hb2 (by have := H0.out.lt; simp only [World.size_alloc] at this; exact this)
    have h1 := H1.out.below hb2 (by have := H1.out.lt; simp only [World.size_alloc] at this; exact this)
    have hB2 : Below w.heap.size w w2 := HB.out.trans (hb2.mono (by omega))
    obtain ⟨D, hD⟩ : ∃ D, D = digest k := ⟨_, rfl⟩
    have hDl : D.length = 32 := by rw [hD]; exact digest_length _
    rw [← hD]
    have HD := Lib.hid (show fillK k = D ++ List.replicate (64 - D.length) 0 by rw [fillK, keyB, if_pos h64, hD])
    clear hD hb2 H0 H1 HB hz
    have hn := Blk.new w2 39 (zb 32).toArray
    have hlt0 : w.heap.size < w2.heap.size := h0.lt
    have hlt1 : w.heap.size + 1 < w2.heap.size := h1.lt
    have HN := Lib.hid hn
    have HS' := Lib.hid (hn.setRow (bv D))
    have H0 := Lib.hid ((h0.alloc (.cells (zb 32).toArray 39)).setRow_other (bv D).toArray (show w.heap.size ≠ w2.heap.size by omega))
    have H1 := Lib.hid ((h1.alloc (.cells (zb 32).toArray 39)).setRow_other (bv D).toArray (show w.heap.size + 1 ≠ w2.heap.size by omega))
    have HB3 := Lib.hid (below_setRow (hB2.alloc (by omega) (.cells (zb 32).toArray 39)) (show w.heap.size ≤ w2.heap.size by omega) (bv D).toArray)
    have HZ := Lib.hid (show (Tryd.prog.info? 39).map (·.size) = some (bv D).length by rw [bv_length, hDl]; exact Tryd.size39)
    have HL := Lib.hid (show 0 + (bv D).length ≤ (zb 32).toArray.toList.length by rw [bv_length, hDl]; simp [zb_length])
    have HP := Lib.hid (splice_all (zb 32).toArray.toList (bv D) (by rw [bv_length, hDl]; simp [zb_length]))
    clear h0 h1 hn hB2
    go_wp2_with ((with_reducible refine wpList_store_part ?_ 39 (.tmp 4) (.tmp 10) ?_ w2.heap.size 0 (bv D) ?_ ?_ 39 _ HN.out HZ.out HL.out (bv_one _) ?_); rfl; rfl; rfl; rfl; rw [HP.out])
    simp only [Act.put]
    generalize (w2.alloc (.cells (zb 32).toArray 39)).setRow w2.heap.size (bv D).toArray = w3 at HS' H0 H1 HB3 ⊢
    refine wp_region_draws_tail 2 (by kernel_rfl) (by kernel_rfl) ?_
    simp only [List.take_succ_cons, List.take_zero, List.drop_succ_cons, List.drop_zero]
    repeat (go_big_quiet_step (fail))
    refine wpQuiet_nil ?_
    rintro _ ⟨nq, rfl⟩
    have g0 := H0.out.drewN nq
    have g1 := H1.out.drewN nq
    have gs := HS'.out.drewN nq
    have gb := below_drewN' HB3.out nq
    generalize w3.drewN nq = w4 at g0 g1 gs gb ⊢
    clear HN H0 H1 HS' HB3 HZ HL HP hz2
    refine wpList_copy_splice rfl (.tmp 11) (.tmp 12) 41 41 rfl 5 Tryd.underlying41 Tryd.size5 _ _ 64 64 32 32 rfl rfl (w.heap.size + 1) 0 (zb 64) 35 g1 (bv D) ?_ (fun _ => ⟨rfl, ⟨w2.heap.size, 0, none⟩, rfl, ?_⟩) ?_ (bv_one _) (w.heap.size + 1) w4 (Below.refl _ _) (Nat.le_refl _) ?_
    · rw [bv_length, hDl]; rfl
    · intro j v hj
      rw [Addr.add_lit, Nat.zero_add, gs.cell]; exact hj
    · rw [bv_length, zb_length, hDl]; omega
    intro w5 HG5 hB5
    have hg5 := HG5.out
    rw [splice_zb 64 D, ← HD.out] at hg5
    obtain ⟨e1, e2, e3, e4, e5, e6⟩ := HE.out w5 hg5 (g0.below hB5 (by omega)) (gb.trans (hB5.mono (by omega)))
    have HR0 := Lib.hid (g0.below hB5 (by omega))
    have E1 := Lib.hid e1
    have E2 := Lib.hid e2
    have E3 := Lib.hid e3
    have E4 := Lib.hid e4
    have E5 := Lib.hid e5
    have E6 := Lib.hid e6
    clear HG5 g0 g1 gs gb hB5 HD hlt0 hlt1 hg5 e1 e2 e3 e4 e5 e6 HE
    generalize hF : fillK k = F at *
    have HF := Lib.hid hF
    clear hF
    go_wp2_with (first
        | ((with_reducible refine wpList_load_cells ?_ 35 (.tmp 3) ?_ _ 0 _ ?_ 64 5 E1.out Tryd.underlying35 E2.out ?_); rfl; rfl; rfl)
        | ((with_reducible refine wpList_store_part ?_ 35 (.tmp 2) (.tmp 14) ?_ w.heap.size 0 (bv F) ?_ ?_ 35 _ HR0.out E2.out E3.out (bv_one _) ?_); rfl; rfl; rfl; rfl; rw [E4.out]))
    refine bodyPost_ret (v := .agg (bv F).toArray) ?_ rfl ⟨by rw [HF.out], E6.out⟩
    exact results_cell_row rfl _ _ w.heap.size 35 _ (0, 0) (.array 64 5) rfl E5.out Tryd.underlying35 rfl (by rw [List.size_toArray]; exact E2.out)
  · have d : ¬ (64 : Int) < (k.length : Int) := by omega
    generalize hW : (w.alloc (.cells (zb 64).toArray 35)).alloc (.cells (zb 64).toArray 35) = W at H0 H1 HB
    have HW := Lib.hid hW
    clear hW
    have hFK : splice (zb 64) 0 (bv (k.take k.length)) = bv (fillK k) := by rw [splice_zb, List.take_length, fillK, keyB, if_neg h64]
    have hm : min k.length 64 = k.length := by omega
    have hg5 := H1.out.setRow (bv (fillK k))
    have hr5 := H0.out.setRow_other (bv (fillK k)).toArray (show w.heap.size ≠ w.heap.size + 1 by omega)
    obtain ⟨e1, e2, e3, e4, e5, e6⟩ := HE.out _ hg5 hr5 (below_setRow HB.out (show w.heap.size ≤ w.heap.size + 1 by omega) _)
    have HR0 := Lib.hid hr5
    have E1 := Lib.hid e1
    have E2 := Lib.hid e2
    have E3 := Lib.hid e3
    have E4 := Lib.hid e4
    have E5 := Lib.hid e5
    have E6 := Lib.hid e6
    have HFK := Lib.hid hFK
    have HM := Lib.hid hm
    have HL := Lib.hid (show 0 + k.length ≤ (zb 64).length by rw [zb_length]; omega)
    clear hg5 hr5 e1 e2 e3 e4 e5 e6 HE hz2 hFK hm HB H0
    generalize hF : fillK k = F at *
    have HF := Lib.hid hF
    clear hF
    go_wp2_with (first
        | ((with_reducible refine wpList_copy_string ?_ (.tmp 15) (.tmp 16) 41 9 ?_ 5 Tryd.underlying41 Tryd.size5 (w.heap.size + 1) 0 64 64 k k.length HM.out ?_ ?_ (zb 64) 35 ?_ HL.out ?_); rfl; rfl; rfl; (rw [← HSS.out]; rfl); (rw [HW.out]; exact H1.out); rw [HFK.out, HW.out])
        | ((with_reducible refine wpList_load_cells ?_ 35 (.tmp 3) ?_ _ 0 _ ?_ 64 5 E1.out Tryd.underlying35 E2.out ?_); rfl; rfl; rfl)
        | ((with_reducible refine wpList_store_part ?_ 35 (.tmp 2) (.tmp 18) ?_ w.heap.size 0 (bv F) ?_ ?_ 35 _ HR0.out E2.out E3.out (bv_one _) ?_); rfl; rfl; rfl; rfl; rw [E4.out]))
    refine bodyPost_ret (v := .agg (bv F).toArray) ?_ rfl ⟨rfl, E6.out⟩
    exact results_cell_row rfl _ _ w.heap.size 35 _ (0, 0) (.array 64 5) rfl E5.out Tryd.underlying35 rfl (by rw [List.size_toArray]; exact E2.out)
end Go.Proofs.YtmkdcpnnnlihfaaDoor
