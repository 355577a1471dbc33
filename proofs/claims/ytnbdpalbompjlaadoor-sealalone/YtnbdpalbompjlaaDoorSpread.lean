/-
  What spread answers.
-/
import Derived.Test.YtnbdpalbompjlaaDoorMem
import Derived.Test.YtnbdpalbompjlaaDoorM4
namespace Go.Proofs.YtnbdpalbompjlaaDoor
open Go.RowKit
set_option maxRecDepth 10000

def nextw (b : List UInt8) (l : List Nat) (i : Nat) : Nat :=
  if i < 16 then word (b.getD (i * 4) 0).toNat (b.getD (i * 4 + 1) 0).toNat (b.getD (i * 4 + 2) 0).toNat (b.getD (i * 4 + 3) 0).toNat
  else addw (addw (addw (l.getD (i - 16) 0) (small (l.getD (i - 15) 0) 7 18 3)) (l.getD (i - 7) 0)) (small (l.getD (i - 2) 0) 17 19 10)

/-- The first i words of a block. -/
def spw (b : List UInt8) : Nat → List Nat
  | 0 => []
  | i + 1 => spw b i ++ [nextw b (spw b i) i]

theorem spw_length (b : List UInt8) : ∀ i, (spw b i).length = i
  | 0 => rfl
  | i + 1 => by simp [spw, spw_length b i]

/-- The cells behind i rounds. -/
def spc (b : List UInt8) (i : Nat) : List Nat := spw b i ++ List.replicate (64 - i) 0
theorem spc_length (b : List UInt8) (i : Nat) (hi : i ≤ 64) : (spc b i).length = 64 := by simp [spc, spw_length]; omega
theorem spc_at (b : List UInt8) (i j : Nat) (hj : j < i) : (spc b i)[j]? = some ((spw b i).getD j 0) := by
  have : j < (spw b i).length := by rw [spw_length]; exact hj
  rw [spc, List.getElem?_append_left this, List.getElem?_eq_getElem this]
  simp [this]
theorem spc_zero (b : List UInt8) (i : Nat) (hi : i < 64) : (spc b i)[i]? = some 0 := by
  rw [spc, List.getElem?_append_right (by rw [spw_length]; exact Nat.le_refl _), spw_length, Nat.sub_self, List.getElem?_replicate, if_pos (by omega)]
theorem spc_set (b : List UInt8) (i : Nat) (hi : i < 64) : (spc b i).set i (nextw b (spw b i) i) = spc b (i + 1) := by
  rw [spc, spc, List.set_append_right _ _ (by rw [spw_length]; exact Nat.le_refl _), spw_length, Nat.sub_self, show 64 - i = (64 - (i + 1)) + 1 by omega, List.replicate_succ, List.set_cons_zero, spw]
  simp

def SpRel (w : World) (b : List UInt8) (x : Value) (wr : World) : Prop :=
  ∃ i : Nat, x = .int .i64 (i : Int) ∧ i ≤ 64 ∧ Blk wr w.heap.size 82 (bv b) ∧ Blk wr (w.heap.size + 1 + 1) 97 (uv (spc b i)) ∧ (∃ z, z.length = 64 ∧ Blk wr (w.heap.size + 1) 97 z) ∧ Below w.heap.size w wr

def intN : Value → Nat
  | .int _ n => n.toNat
  | _ => 0

theorem bv_getD (b : List UInt8) (j : Nat) (h : j < b.length) : (bv b)[j]? = some (.int .u8 ((b.getD j 0).toNat : Int)) := by
  rw [bv_at h]; simp [h]

theorem below_drewN' {B : Nat} {w wr : World} (hb : Below B w wr) (k : Nat) : Below B w (wr.drewN k) := ⟨hb.os, hb.tape, hb.output, hb.size, hb.block⟩

theorem Tryd.size97 : (Tryd.prog.info? 97).map (·.size) = some 64 := by kernel_rfl

theorem Blk.cells {w : World} {g : Nat} {t : TypeId} {vs : List Value} (h : Blk w g t vs) : ∀ j v, vs[j]? = some v → w.cell? ⟨g, 0 + j, none⟩ = some v := fun j v hv => by rw [Nat.zero_add, h.cell, hv]

theorem slice64 (w : World) (g i : Nat) (hi : i < 16) : (Instr.sliceAt 82 (.pointer (some ⟨g, 0, none⟩)) (some (.int .i64 ((i : Int) * 4))) none none).run Tryd.prog w = .ok (.slice (some ⟨g, i * 4, none⟩) (64 - i * 4) (64 - i * 4)) w := by
  have h := run_sliceAt_array_l (P := Tryd.prog) w 82 ⟨g, 0, none⟩ (by kernel_rfl) .i64 ((i : Int) * 4) (by omega) (by
    have : Tryd.prog.arrayLen 82 = 64 := by kernel_rfl
    omega)
  rw [h, show Tryd.prog.arrayLen 82 = 64 by kernel_rfl, show Tryd.prog.elem 82 = 5 by kernel_rfl]
  have hs : (sizeOf 5).run Tryd.prog w = .ok 1 w := by
    obtain ⟨i5, h5, hz⟩ : ∃ i5, Tryd.prog.info? 5 = some i5 ∧ i5.size = 1 := by
      have h : (Tryd.prog.info? 5).map (·.size) = some 1 := by kernel_rfl
      cases hq : Tryd.prog.info? 5 with
      | none => rw [hq] at h; cases h
      | some i => rw [hq] at h; exact ⟨i, rfl, by simpa using h⟩
    simp [sizeOf, typeInfo, h5, hz]
  rw [hs]
  have e : ((i : Int) * 4).toNat = i * 4 := by omega
  simp only [Result.andThen_ok, slicedAt, e, Nat.mul_one]
  rw [if_neg (by omega)]
  rw [Addr.add_lit, Nat.zero_add]

theorem sp_round {w wr : World} {b : List UInt8} {i x : Nat} {z : List Value} (hi : i < 64) (hA : Blk wr w.heap.size 82 (bv b)) (hC : Blk wr (w.heap.size + 1 + 1) 97 (uv (spc b i))) (hz : z.length = 64) (hR : Blk wr (w.heap.size + 1) 97 z) (hB : Below w.heap.size w wr) (m : Nat)
    (hx : x = nextw b (spw b i) i) : SpRel w b (.int .i64 ((i : Int) + 1)) ((wr.drewN m).setCell ⟨w.heap.size + 1 + 1, i, none⟩ (.int .u32 (x : Int))) := by
  refine ⟨i + 1, by simp, by omega, (hA.drewN m).other _ _ (by simp; omega), ?_, ⟨z, hz, (hR.drewN m).other _ _ (by simp)⟩, (below_drewN' hB m).setCell (by simp; omega) _⟩
  have h := (hC.drewN m).set i (.int .u32 (x : Int))
  rw [uv_set, hx, spc_set b i hi] at h
  rw [hx]
  exact h

set_option maxHeartbeats 2000000 in
theorem spread_any (w : World) (b : List UInt8) (hb : b.length = 64) :
    Calls Tryd.prog 79 #[.agg (bv b).toArray] w fun e w' => e = .returned (.agg (uv (spw b 64)).toArray) ∧ Below w.heap.size w w' := by
  have HBL := Lib.hid hb
  clear hb
  go_enter Tryd.func79, Tryd.ntmps79
  go_wp2_with fail
  go_loopw [5] (fun x wr => SpRel w b x wr) (fun x _ => 64 - intN x)
  case atStart =>
    refine ⟨0, rfl, by omega, ((Blk.new w 82 (bv b).toArray).alloc _).alloc _, ?_, ⟨Array.toList (Array.replicate 64 (.int .u32 0)), ?_, ?_⟩, (((Below.refl _ _).alloc (Nat.le_refl _) _).alloc (by simp) _).alloc (by simp; omega) _⟩
    · have h := Blk.new ((w.alloc (.cells (bv b).toArray 82)).alloc (.cells (Array.replicate 64 (.int .u32 0)) 97)) 97 (Array.replicate 64 (.int .u32 0))
      simp only [World.size_alloc] at h
      exact h
    · rfl
    · have h := (Blk.new (w.alloc (.cells (bv b).toArray 82)) 97 (Array.replicate 64 (.int .u32 0))).alloc (.cells (Array.replicate 64 (.int .u32 0)) 97)
      simp only [World.size_alloc] at h
      exact h
  case round =>
    obtain ⟨i, rfl, hi, hA, hC, hR, hB⟩ := hrel
    by_cases hlt : i < 64
    · have d0 : (i : Int) < 64 := by omega
      by_cases h16 : i < 16
      · have d1 : (i : Int) < 16 := by omega
        have hsl := slice64 wr w.heap.size i h16
        have HA := Lib.hid hA
        have HC := Lib.hid hC
        have HR := Lib.hid hR
        have HB := Lib.hid hB
        clear hA hC hR hB
        go_wp2_with fail
        have hcell := fun j (hj : j < 64) => (HA.out.cell j).trans (bv_getD b j (by rw [HBL.out]; exact hj))
        refine (wordOf_any wr w.heap.size (i * 4) _ _ _ _ _ _ (by omega) (hcell (i * 4) (by omega)) (hcell (i * 4 + 1) (by omega)) (hcell (i * 4 + 2) (by omega)) (hcell (i * 4 + 3) (by omega))).mono ?_
        rintro e w2 ⟨rfl, m, rfl⟩
        clear hcell
        have hc0 : (wr.drewN m).cell? ⟨w.heap.size + 1 + 1, i, none⟩ = some (.int .u32 0) := by
          rw [(HC.out.drewN m).cell]
          exact uv_at (spc_zero b i hlt)
        have hf0 := (HC.out.drewN m).free i
        have hN : nextw b (spw b i) i = word (b.getD (i * 4) 0).toNat (b.getD (i * 4 + 1) 0).toNat (b.getD (i * 4 + 2) 0).toNat (b.getD (i * 4 + 3) 0).toNat := by rw [nextw, if_pos h16]
        rw [← hN]
        obtain ⟨x, hx⟩ : ∃ x, x = nextw b (spw b i) i := ⟨_, rfl⟩
        rw [← hx]
        clear hN
        have HX := Lib.hid hx
        clear hx
        go_wp2_with fail
        obtain ⟨z, hz, hR⟩ := HR.out
        refine ⟨sp_round hlt HA.out HC.out hz hR HB.out m HX.out, ?_⟩
        simp only [intN]
        omega
      · have d1 : ¬ ((i : Int) < 16) := by omega
        obtain ⟨j16, hj16⟩ : ∃ j, j = i - 16 := ⟨_, rfl⟩
        obtain ⟨j15, hj15⟩ : ∃ j, j = i - 15 := ⟨_, rfl⟩
        obtain ⟨j7, hj7⟩ : ∃ j, j = i - 7 := ⟨_, rfl⟩
        obtain ⟨j2, hj2⟩ : ∃ j, j = i - 2 := ⟨_, rfl⟩
        obtain ⟨x16, hx16⟩ : ∃ x, x = (spw b i).getD j16 0 := ⟨_, rfl⟩
        obtain ⟨x15, hx15⟩ : ∃ x, x = (spw b i).getD j15 0 := ⟨_, rfl⟩
        obtain ⟨x7, hx7⟩ : ∃ x, x = (spw b i).getD j7 0 := ⟨_, rfl⟩
        obtain ⟨x2, hx2⟩ : ∃ x, x = (spw b i).getD j2 0 := ⟨_, rfl⟩
        have h16' : wr.cell? ⟨w.heap.size + 1 + 1, j16, none⟩ = some (.int .u32 (x16 : Int)) := by rw [hC.cell, hx16]; exact uv_at (spc_at b i j16 (by omega))
        have h15 : wr.cell? ⟨w.heap.size + 1 + 1, j15, none⟩ = some (.int .u32 (x15 : Int)) := by rw [hC.cell, hx15]; exact uv_at (spc_at b i j15 (by omega))
        have h7 : wr.cell? ⟨w.heap.size + 1 + 1, j7, none⟩ = some (.int .u32 (x7 : Int)) := by rw [hC.cell, hx7]; exact uv_at (spc_at b i j7 (by omega))
        have h2 : wr.cell? ⟨w.heap.size + 1 + 1, j2, none⟩ = some (.int .u32 (x2 : Int)) := by rw [hC.cell, hx2]; exact uv_at (spc_at b i j2 (by omega))
        have hi0 : wr.cell? ⟨w.heap.size + 1 + 1, i, none⟩ = some (.int .u32 0) := by
          rw [hC.cell]
          exact uv_at (spc_zero b i hlt)
        have hfz := hC.free i
        have e16 : (i : Int) - 16 = (j16 : Int) := by omega
        have e15 : (i : Int) - 15 = (j15 : Int) := by omega
        have e7 : (i : Int) - 7 = (j7 : Int) := by omega
        have e2 : (i : Int) - 2 = (j2 : Int) := by omega
        have l16 : (j16 : Int) < 64 := by omega
        have l15 : (j15 : Int) < 64 := by omega
        have l7 : (j7 : Int) < 64 := by omega
        have l2 : (j2 : Int) < 64 := by omega
        have r1 := rule_add
        go_wp2_with fail
        clear h16
        have h16 := h16'
        clear h16'
        have HA := Lib.hid hA
        have HC := Lib.hid hC
        have HR := Lib.hid hR
        have HB := Lib.hid hB
        have HX := Lib.hid (show nextw b (spw b i) i = addw (addw (addw x16 (small x15 7 18 3)) x7) (small x2 17 19 10) by rw [nextw, if_neg (by omega), ← hj16, ← hj15, ← hj7, ← hj2, ← hx16, ← hx15, ← hx7, ← hx2])
        clear hA hC hR hB hj16 hj15 hj7 hj2 hx16 hx15 hx7 hx2
        refine wp_region_draws_tail 23 (by kernel_rfl) (by kernel_rfl) ?_
        simp only [List.take_succ_cons, List.take_zero, List.drop_succ_cons, List.drop_zero]
        repeat (go_big_quiet_step (first | (go_at_call_of 99 (Value.int .u32 (x15 : Int)); refine Calls.quiet_of (small_0 _ x15)) | (go_at_call_of 99 (Value.int .u32 (x2 : Int)); refine Calls.quiet_of (small_1 _ x2))))
        refine wpQuiet_nil ?_
        rintro _ ⟨nq, rfl⟩
        go_wp2_with fail
        obtain ⟨z, hz, hR⟩ := HR.out
        refine ⟨sp_round hlt HA.out HC.out hz hR HB.out nq HX.out.symm, ?_⟩
        simp only [intN]
        omega
    · obtain rfl : i = 64 := by omega
      obtain ⟨z, hz, hR⟩ := hR
      have hlen : (uv (spc b 64)).length = 64 := by rw [uv_length, spc_length b 64 (by omega)]
      have HSZ := Lib.hid (show (Tryd.prog.info? 97).map (·.size) = some (uv (spc b 64)).length by rw [hlen]; exact Tryd.size97)
      have HR' := Lib.hid (hR.setRow (uv (spc b 64)))
      have HB' := Lib.hid (below_setRow hB (show w.heap.size ≤ w.heap.size + 1 by omega) (uv (spc b 64)).toArray)
      have HC := Lib.hid hC.cells
      have HR := Lib.hid hR
      have HL := Lib.hid (show 0 + (uv (spc b 64)).length ≤ z.length by omega)
      have HS := Lib.hid (splice_all z (uv (spc b 64)) (by omega))
      have HE := Lib.hid (show spc b 64 = spw b 64 by simp [spc])
      clear hA hC hR hB hz hlen
      go_wp2_with (first
        | ((with_reducible refine wpList_load_cells ?_ 97 (.tmp 3) ?_ _ 0 _ ?_ 64 92 HC.out Tryd.underlying97 HSZ.out ?_); rfl; rfl; rfl)
        | ((with_reducible refine wpList_store_part ?_ 97 (.tmp 2) (.tmp 40) ?_ (w.heap.size + 1) 0 (uv (spc b 64)) ?_ ?_ 97 _ HR.out HSZ.out HL.out (uv_one _) ?_); rfl; rfl; rfl; rfl; rw [HS.out]))
      rw [← HE.out]
      refine bodyPost_ret (v := .agg (uv (spc b 64)).toArray) ?_ rfl ⟨rfl, HB'.out⟩
      exact results_cell_row rfl _ _ (w.heap.size + 1) 97 _ (0, 0) (.array 64 92) rfl HR'.out Tryd.underlying97 rfl (by rw [List.size_toArray]; exact HSZ.out)
end Go.Proofs.YtnbdpalbompjlaaDoor
