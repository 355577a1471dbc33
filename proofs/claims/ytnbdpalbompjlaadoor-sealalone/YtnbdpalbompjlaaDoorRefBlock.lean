/-
  What the reference's block answers.
-/
import Derived.Test.YtnbdpalbompjlaaDoorRefPrimes
import Derived.Test.YtnbdpalbompjlaaDoorMix
namespace Go.Proofs.YtnbdpalbompjlaaDoor
open Go.RowKit
set_option maxRecDepth 10000

def mulw (x y : Nat) : Nat := x * y % 4294967296
theorem rule_mulw (x : Nat) : IntKind.u32.wrap ((x : Int) * 256) = ((mulw x 256 : Nat) : Int) := by rw [IntKind.wrap_u32']; simp [mulw]

/-- A word of bytes, one behind the other. -/
def horn (b : List UInt8) (i : Nat) : Nat → Nat
  | 0 => 0
  | k + 1 => addw (mulw (horn b i k) 256) (b.getD (4 * i + k) 0).toNat

theorem or_add (x y k : Nat) (hy : y < 2 ^ k) : (x * 2 ^ k) ||| y = x * 2 ^ k + y := by
  rw [Nat.mul_comm, Nat.two_pow_add_eq_or_of_lt hy]

theorem word_sum (a b c d : Nat) (ha : a < 256) (hb : b < 256) (hc : c < 256) (hd : d < 256) : word a b c d = a * 16777216 + b * 65536 + c * 256 + d := by
  have h1 : orw (shlw a 24) (shlw b 16) = a * 16777216 + b * 65536 := by
    have h := or_add (a * 256) (b * 65536) 16
    simp only [orw, shlw]
    rw [show a * 2 ^ 24 % 4294967296 = a * 16777216 by omega, show b * 2 ^ 16 % 4294967296 = b * 65536 by omega]
    have e : a * 16777216 ||| b * 65536 = a * 16777216 + b * 65536 := by
      have h2 := or_add a (b * 65536) 24 (by omega)
      simpa using h2
    rw [e]; omega
  have h2 : orw (a * 16777216 + b * 65536) (shlw c 8) = a * 16777216 + b * 65536 + c * 256 := by
    simp only [orw, shlw]
    rw [show c * 2 ^ 8 % 4294967296 = c * 256 by omega]
    have h2 := or_add (a * 256 + b) (c * 256) 16 (by omega)
    have e : (a * 256 + b) * 2 ^ 16 = a * 16777216 + b * 65536 := by omega
    rw [e] at h2
    rw [h2]; omega
  have h3 : orw (a * 16777216 + b * 65536 + c * 256) d = a * 16777216 + b * 65536 + c * 256 + d := by
    simp only [orw]
    have h2 := or_add (a * 65536 + b * 256 + c) d 8 (by omega)
    have e : (a * 65536 + b * 256 + c) * 2 ^ 8 = a * 16777216 + b * 65536 + c * 256 := by omega
    rw [e] at h2
    rw [h2]; omega
  rw [word, h1, h2, h3]

theorem horn_word (b : List UInt8) (l : List Nat) (i : Nat) (hi : i < 16) : horn b i 4 = nextw b l i := by
  have h0 := (b.getD (4 * i) 0).toNat_lt
  have h1 := (b.getD (4 * i + 1) 0).toNat_lt
  have h2 := (b.getD (4 * i + 2) 0).toNat_lt
  have h3 := (b.getD (4 * i + 3) 0).toNat_lt
  rw [nextw, if_pos hi, Nat.mul_comm i 4, word_sum _ _ _ _ h0 h1 h2 h3]
  simp only [horn, addw, mulw, Nat.add_zero]
  omega

theorem next_ref (b : List UInt8) (l : List Nat) (i : Nat) (hi : ¬ i < 16) : nextw b l i = addw (addw (addw (l.getD (i - 16) 0) (l.getD (i - 7) 0)) (small (l.getD (i - 15) 0) 7 18 3)) (small (l.getD (i - 2) 0) 17 19 10) := by
  rw [nextw, if_neg hi]
  simp only [addw]
  omega

/-- What the blocks hold. -/
structure BlkIn (w : World) (h l : List Nat) (wr : World) : Prop where
  h3 : Blk wr w.heap.size 93 (uv h)
  h4 : Blk wr (w.heap.size + 1) 97 (uv addedL)
  h6 : ∃ z, z.length = 8 ∧ Blk wr (w.heap.size + 1 + 1) 93 z
  h7 : Blk wr (w.heap.size + 1 + 1 + 1) 97 (uv l)
  hB : Below w.heap.size w wr
theorem BlkIn.drewN {w : World} {h l : List Nat} {wr : World} (d : BlkIn w h l wr) (k : Nat) : BlkIn w h l (wr.drewN k) := ⟨d.h3.drewN k, d.h4.drewN k, d.h6, d.h7.drewN k, below_drewN' d.hB k⟩
theorem BlkIn.set {w : World} {h l : List Nat} {wr : World} (d : BlkIn w h l wr) (j x : Nat) : BlkIn w h (l.set j x) (wr.setCell ⟨w.heap.size + 1 + 1 + 1, j, none⟩ (.int .u32 (x : Int))) :=
  ⟨d.h3.other _ _ (by simp; omega), d.h4.other _ _ (by simp), by
    obtain ⟨z, hz, hr⟩ := d.h6
    exact ⟨z, hz, hr.other _ _ (by simp)⟩, by rw [← uv_set]; exact d.h7.set j _, d.hB.setCell (by simp; omega) _⟩

def BRel1 (w : World) (h : List Nat) (b : List UInt8) (x : Value) (wr : World) : Prop := ∃ i : Nat, x = .int .i64 (i : Int) ∧ i ≤ 64 ∧ BlkIn w h (spc b i) wr
def BRel2 (w : World) (h : List Nat) (b : List UInt8) (i : Nat) (x : Value) (wr : World) : Prop := ∃ k : Nat, x = .int .i64 (k : Int) ∧ k ≤ 4 ∧ BlkIn w h ((spc b i).set i (horn b i k)) wr
def BRel3 (w : World) (h ws : List Nat) (s0 s1 s2 s3 s4 s5 s6 s7 x : Value) (wr : World) : Prop :=
  ∃ (i a b c d e f g k : Nat), x = .int .i64 (i : Int) ∧ i ≤ 64 ∧ mixN h ws i = [a, b, c, d, e, f, g, k] ∧ s0 = .int .u32 (a : Int) ∧ s1 = .int .u32 (b : Int) ∧ s2 = .int .u32 (c : Int) ∧ s3 = .int .u32 (d : Int) ∧ s4 = .int .u32 (e : Int) ∧ s5 = .int .u32 (f : Int) ∧ s6 = .int .u32 (g : Int) ∧ s7 = .int .u32 (k : Int) ∧ BlkIn w h ws wr

theorem index_text (w : World) (S : ByteArray) (l : List UInt8) (i : Nat) (c : UInt8) (hS : S = ⟨l.toArray⟩) (hc : l[i]? = some c) : (Instr.index 9 (.string S) (.int .i64 (i : Int))).run Tryd.prog w = .ok (.int .u8 (c.toNat : Int)) w := by
  obtain ⟨hi, hc⟩ := List.getElem?_eq_some_iff.1 hc
  rw [run_index_string w 9 S .i64 (i : Int) Tryd.underlying9]
  have hz : S.size = l.length := by rw [hS]; simp [ByteArray.size]
  have hd : (0 : Int) ≤ (i : Int) ∧ (i : Int) < (S.size : Int) := ⟨by omega, by rw [hz]; omega⟩
  rw [dif_pos hd]
  subst hS
  have : (ByteArray.mk l.toArray)[(i : Int).toNat]'(by simp [ByteArray.size]; omega) = c := hc
  simp only [this]

theorem right_c (n : Nat) (h1 : 1 ≤ n) (h2 : n ≤ 31) (x : Nat) (w : World) : Calls Tryd.prog 71 #[.int .u32 x, .int .i64 (n : Int)] w fun e w' => e = .returned (.int .u32 (rotr x n)) ∧ w' = w := right_any w x n h1 h2

set_option maxRecDepth 100000 in
set_option maxHeartbeats 8000000 in
theorem block_any (w : World) (a0 a1 a2 a3 a4 a5 a6 a7 : Nat) (b : List UInt8) (hb : b.length = 64) :
    Calls Tryd.prog 60 #[.agg #[.int .u32 a0, .int .u32 a1, .int .u32 a2, .int .u32 a3, .int .u32 a4, .int .u32 a5, .int .u32 a6, .int .u32 a7], .agg (uv addedL).toArray, .string ⟨b.toArray⟩] w fun e w' => e = .returned (.agg (uv (mixed [a0, a1, a2, a3, a4, a5, a6, a7] (spw b 64))).toArray) ∧ Below w.heap.size w w' := by
  obtain ⟨S, hS⟩ : ∃ S : ByteArray, S = ⟨b.toArray⟩ := ⟨_, rfl⟩
  rw [← hS]
  have HS := Lib.hid hS
  have HBL := Lib.hid hb
  clear hS hb
  obtain ⟨h, hh⟩ : ∃ h, h = [a0, a1, a2, a3, a4, a5, a6, a7] := ⟨_, rfl⟩
  rw [← hh]
  have HHH := Lib.hid hh
  clear hh
  go_enter Tryd.func60, Tryd.ntmps60
  go_wp2_with fail
  go_loopw [23] (fun x wr => BRel1 w h b x wr) (fun x _ => 64 - intN x)
  case atStart =>
    have hh := HHH.out
    subst hh
    refine ⟨0, rfl, by omega, (((Blk.new w 93 _).alloc _).alloc _).alloc _, ?_, ⟨Array.toList (Array.replicate 8 (.int .u32 0)), rfl, ?_⟩, ?_, ((((Below.refl _ _).alloc (Nat.le_refl _) _).alloc (by simp) _).alloc (by simp; omega) _).alloc (by simp; omega) _⟩
    · have h := ((Blk.new (w.alloc (.cells (uv [a0, a1, a2, a3, a4, a5, a6, a7]).toArray 93)) 97 (uv addedL).toArray).alloc (.cells (Array.replicate 8 (.int .u32 0)) 93)).alloc (.cells (Array.replicate 64 (.int .u32 0)) 97)
      simp only [World.size_alloc] at h
      exact h
    · have h := (Blk.new ((w.alloc (.cells (uv [a0, a1, a2, a3, a4, a5, a6, a7]).toArray 93)).alloc (.cells (uv addedL).toArray 97)) 93 (Array.replicate 8 (.int .u32 0))).alloc (.cells (Array.replicate 64 (.int .u32 0)) 97)
      simp only [World.size_alloc] at h
      exact h
    · have h := Blk.new (((w.alloc (.cells (uv [a0, a1, a2, a3, a4, a5, a6, a7]).toArray 93)).alloc (.cells (uv addedL).toArray 97)).alloc (.cells (Array.replicate 8 (.int .u32 0)) 93)) 97 (Array.replicate 64 (.int .u32 0))
      simp only [World.size_alloc] at h
      exact h
  case round =>
    obtain ⟨i, rfl, hi, hR⟩ := hrel
    by_cases hlt : i < 64
    · have d0 : (i : Int) < 64 := by omega
      by_cases h16 : i < 16
      · have d1 : (i : Int) < 16 := by omega
        have HR := Lib.hid (show BRel2 w h b i (.int .i64 0) wr from ⟨0, rfl, by omega, by
          have e : (spc b i).set i (horn b i 0) = spc b i := by
            apply List.ext_getElem?
            intro j
            by_cases hj : i = j
            · subst hj; rw [List.getElem?_set_self (by rw [spc_length b i hi]; exact hlt), spc_zero b i hlt]; rfl
            · rw [List.getElem?_set_ne hj]
          rw [e]; exact hR⟩)
        clear hR
        go_wp2_with fail
        go_loopw [9] (fun x wr => BRel2 w h b i x wr) (fun x _ => 4 - intN x)
        case atStart => exact HR.out
        case round =>
          clear HR
          obtain ⟨k, rfl, hk, hR⟩ := hrel
          by_cases hk4 : k < 4
          · have d2 : (k : Int) < 4 := by omega
            obtain ⟨m, hm⟩ : ∃ m, m = 4 * i + k := ⟨_, rfl⟩
            have em : (4 : Int) * (i : Int) + (k : Int) = (m : Int) := by omega
            obtain ⟨c, hc⟩ : ∃ c, b[m]? = some c := ⟨_, List.getElem?_eq_getElem (by rw [HBL.out]; omega)⟩
            have hix : ∀ w', (Instr.index 9 (.string S) (.int .i64 (m : Int))).run Tryd.prog w' = .ok (.int .u8 (c.toNat : Int)) w' := fun w' => index_text w' S b m c HS.out hc
            have hcv := conv8 c
            obtain ⟨x, hx⟩ : ∃ x, x = horn b i k := ⟨_, rfl⟩
            have hl : ((spc b i).set i (horn b i k)).length = 64 := by rw [List.length_set, spc_length b i hi]
            have q7 : wr.cell? ⟨w.heap.size + 1 + 1 + 1, i, none⟩ = some (.int .u32 (x : Int)) := by
              rw [hR.h7.cell, hx]
              exact uv_at (List.getElem?_set_self (by rw [spc_length b i hi]; exact hlt))
            have f7 := hR.h7.free i
            have r1 := rule_add
            have r2 := rule_mulw
            have HN := Lib.hid (show horn b i (k + 1) = addw (mulw x 256) c.toNat by rw [horn, hx, ← hm]; simp [hc])
            have HR := Lib.hid hR
            clear hR hx hc hl hm
            go_wp2_with fail
            refine wp_region_draws_tail 14 (by kernel_rfl) (by kernel_rfl) ?_
            simp only [List.take_succ_cons, List.take_zero, List.drop_succ_cons, List.drop_zero]
            repeat (go_big_quiet_step (fail))
            refine wpQuiet_nil ?_
            rintro _ ⟨nq, rfl⟩
            go_wp2_with fail
            refine ⟨⟨k + 1, by simp, by omega, ?_⟩, ?_⟩
            · have h9 := (HR.out.drewN nq).set i (addw (mulw x 256) c.toNat)
              rw [List.set_set, ← HN.out] at h9
              rw [HN.out] at h9
              rw [HN.out]
              exact h9
            · simp only [intN]
              omega
          · obtain rfl : k = 4 := by omega
            have HR := Lib.hid (show BlkIn w h (spc b (i + 1)) wr by rw [← spc_set b i hlt, ← horn_word b (spw b i) i h16]; exact hR)
            clear hR
            go_wp2_with fail
            refine ⟨⟨i + 1, by simp, by omega, HR.out⟩, ?_⟩
            simp only [intN]
            omega
      · have d1 : ¬ ((i : Int) < 16) := by omega
        obtain ⟨j16, hj16⟩ : ∃ j, j = i - 16 := ⟨_, rfl⟩
        obtain ⟨j15, hj15⟩ : ∃ j, j = i - 15 := ⟨_, rfl⟩
        obtain ⟨j7, hj7⟩ : ∃ j, j = i - 7 := ⟨_, rfl⟩
        obtain ⟨j2, hj2⟩ : ∃ j, j = i - 2 := ⟨_, rfl⟩
        obtain ⟨x16, hx16⟩ : ∃ x, x = (spw b i).getD j16 0 := ⟨_, rfl⟩
        obtain ⟨x15, hx15⟩ : ∃ x, x = (spw b i).getD j15 0 := ⟨_, rfl⟩
        obtain ⟨x7, hx7⟩ : ∃ x, x = (spw b i).getD j7 0 := ⟨_, rfl⟩
        obtain ⟨x2, hx2⟩ : ∃ x, x = (spw b i).getD j2 0 := ⟨_, rfl⟩
        have q16 : wr.cell? ⟨w.heap.size + 1 + 1 + 1, j16, none⟩ = some (.int .u32 (x16 : Int)) := by rw [hR.h7.cell, hx16]; exact uv_at (spc_at b i j16 (by omega))
        have q15 : wr.cell? ⟨w.heap.size + 1 + 1 + 1, j15, none⟩ = some (.int .u32 (x15 : Int)) := by rw [hR.h7.cell, hx15]; exact uv_at (spc_at b i j15 (by omega))
        have q7 : wr.cell? ⟨w.heap.size + 1 + 1 + 1, j7, none⟩ = some (.int .u32 (x7 : Int)) := by rw [hR.h7.cell, hx7]; exact uv_at (spc_at b i j7 (by omega))
        have q2 : wr.cell? ⟨w.heap.size + 1 + 1 + 1, j2, none⟩ = some (.int .u32 (x2 : Int)) := by rw [hR.h7.cell, hx2]; exact uv_at (spc_at b i j2 (by omega))
        have qi : wr.cell? ⟨w.heap.size + 1 + 1 + 1, i, none⟩ = some (.int .u32 0) := by rw [hR.h7.cell]; exact uv_at (spc_zero b i hlt)
        have fi := hR.h7.free i
        have e16 : (i : Int) - 16 = (j16 : Int) := by omega
        have e15 : (i : Int) - 15 = (j15 : Int) := by omega
        have e7 : (i : Int) - 7 = (j7 : Int) := by omega
        have e2 : (i : Int) - 2 = (j2 : Int) := by omega
        have l16 : (j16 : Int) < 64 := by omega
        have l15 : (j15 : Int) < 64 := by omega
        have l7 : (j7 : Int) < 64 := by omega
        have l2 : (j2 : Int) < 64 := by omega
        have r1 := rule_add
        have r2 := rule_xor
        have s3 : (x15 : Int) / 8 = ((shrw x15 3 : Nat) : Int) := by simp [shrw]
        have s10 : (x2 : Int) / 1024 = ((shrw x2 10 : Nat) : Int) := by simp [shrw]
        have HX := Lib.hid (show nextw b (spw b i) i = addw (addw (addw x16 x7) (small x15 7 18 3)) (small x2 17 19 10) by rw [next_ref b (spw b i) i h16, ← hj16, ← hj15, ← hj7, ← hj2, ← hx16, ← hx15, ← hx7, ← hx2])
        have HR := Lib.hid hR
        clear hR hj16 hj15 hj7 hj2 hx16 hx15 hx7 hx2
        go_wp2_with fail
        go_quiet (fail)
        have hR2 := HR.out.drewN nq
        have q16' : (wr.drewN nq).cell? ⟨w.heap.size + 1 + 1 + 1, j16, none⟩ = some (.int .u32 (x16 : Int)) := q16
        have q15' : (wr.drewN nq).cell? ⟨w.heap.size + 1 + 1 + 1, j15, none⟩ = some (.int .u32 (x15 : Int)) := q15
        have q7' : (wr.drewN nq).cell? ⟨w.heap.size + 1 + 1 + 1, j7, none⟩ = some (.int .u32 (x7 : Int)) := q7
        have q2' : (wr.drewN nq).cell? ⟨w.heap.size + 1 + 1 + 1, j2, none⟩ = some (.int .u32 (x2 : Int)) := q2
        have qi' : (wr.drewN nq).cell? ⟨w.heap.size + 1 + 1 + 1, i, none⟩ = some (.int .u32 (0)) := qi
        have fi' : (wr.drewN nq).frozen? ⟨w.heap.size + 1 + 1 + 1, i, none⟩ = false := fi
        generalize wr.drewN nq = w2 at hR2 q16' q15' q7' q2' qi' fi' ⊢
        have HR2 := Lib.hid hR2
        clear hR2 HR q16 q15 q7 q2 qi fi
        go_wp2_with fail
        refine wp_region_draws_tail 29 (by kernel_rfl) (by kernel_rfl) ?_
        simp only [List.take_succ_cons, List.take_zero, List.drop_succ_cons, List.drop_zero]
        repeat (go_big_quiet_step (first | (go_at_call_of 71 (Value.int .i64 7); refine Calls.quiet_of_same (right_c 7 (by decide) (by decide) x15 _)) | (go_at_call_of 71 (Value.int .i64 18); refine Calls.quiet_of_same (right_c 18 (by decide) (by decide) x15 _)) | (go_at_call_of 71 (Value.int .i64 17); refine Calls.quiet_of_same (right_c 17 (by decide) (by decide) x2 _)) | (go_at_call_of 71 (Value.int .i64 19); refine Calls.quiet_of_same (right_c 19 (by decide) (by decide) x2 _))))
        refine wpQuiet_nil ?_
        rintro _ ⟨nq2, rfl⟩
        go_wp2_with fail
        refine ⟨⟨i + 1, by simp, by omega, ?_⟩, ?_⟩
        · have h9 := (HR2.out.drewN nq2).set i (nextw b (spw b i) i)
          rw [spc_set b i hlt] at h9
          rw [HX.out] at h9
          exact h9
        · simp only [intN]
          omega
    · obtain rfl : i = 64 := by omega
      rw [show ((64 : Nat) : Int) = 64 from rfl]
      have hws : spc b 64 = spw b 64 := by simp [spc]
      rw [hws] at hR
      obtain ⟨ws, hwse⟩ : ∃ ws, ws = spw b 64 := ⟨_, rfl⟩
      rw [← hwse] at hR
      have HWS := Lib.hid hwse
      have hwl : ws.length = 64 := by rw [hwse]; exact spw_length b 64
      have HWL := Lib.hid hwl
      clear hws hwse hwl
      have hq := fun j => hR.h3.cell j
      rw [HHH.out] at hq
      have q0 : wr.cell? ⟨w.heap.size, 0, none⟩ = some (.int .u32 (a0 : Int)) := hq 0
      have q1 : wr.cell? ⟨w.heap.size, 1, none⟩ = some (.int .u32 (a1 : Int)) := hq 1
      have q2 : wr.cell? ⟨w.heap.size, 2, none⟩ = some (.int .u32 (a2 : Int)) := hq 2
      have q3 : wr.cell? ⟨w.heap.size, 3, none⟩ = some (.int .u32 (a3 : Int)) := hq 3
      have q4 : wr.cell? ⟨w.heap.size, 4, none⟩ = some (.int .u32 (a4 : Int)) := hq 4
      have q5 : wr.cell? ⟨w.heap.size, 5, none⟩ = some (.int .u32 (a5 : Int)) := hq 5
      have q6 : wr.cell? ⟨w.heap.size, 6, none⟩ = some (.int .u32 (a6 : Int)) := hq 6
      have q7 : wr.cell? ⟨w.heap.size, 7, none⟩ = some (.int .u32 (a7 : Int)) := hq 7
      have HR := Lib.hid hR
      clear hR hq hlt hi
      go_wp2_with fail
      go_quiet (fail)
      have hR2 := HR.out.drewN nq
      generalize wr.drewN nq = w2 at hR2 ⊢
      have HR2 := Lib.hid hR2
      clear hR2 HR q0 q1 q2 q3 q4 q5 q6 q7
      go_wp2_with fail
      go_loopw [12, 13, 14, 15, 16, 17, 18, 19, 100] (fun s0 s1 s2 s3 s4 s5 s6 s7 x wr => BRel3 w h ws s0 s1 s2 s3 s4 s5 s6 s7 x wr) (fun _ _ _ _ _ _ _ _ x _ => 64 - intN x)
      case atStart => exact ⟨0, a0, a1, a2, a3, a4, a5, a6, a7, rfl, by omega, HHH.out, rfl, rfl, rfl, rfl, rfl, rfl, rfl, rfl, HR2.out⟩
      case round =>
        clear HR2
        obtain ⟨i, a, b1, c, d, e, f, g, k, rfl, hi, hm, rfl, rfl, rfl, rfl, rfl, rfl, rfl, rfl, hR⟩ := hrel
        by_cases hlt : i < 64
        · have d0 : (i : Int) < 64 := by omega
          obtain ⟨ky, hky⟩ : ∃ x, x = addedL.getD i 0 := ⟨_, rfl⟩
          obtain ⟨y, hy⟩ : ∃ y, y = ws.getD i 0 := ⟨_, rfl⟩
          have qk : wr.cell? ⟨w.heap.size + 1, i, none⟩ = some (.int .u32 (ky : Int)) := by rw [hR.h4.cell, hky]; exact uv_at (getD_some addedL i (by show i < 64; exact hlt))
          have qy : wr.cell? ⟨w.heap.size + 1 + 1 + 1, i, none⟩ = some (.int .u32 (y : Int)) := by rw [hR.h7.cell, hy]; exact uv_at (getD_some ws i (by rw [HWL.out]; exact hlt))
          have r1 := rule_add
          have r2 := rule_xor
          have r3 := rule_and
          have r4 := rule_not
          have hs : IntKind.u32.signed = false := rfl
          have HM := Lib.hid (show mixN h ws (i + 1) = rnd [a, b1, c, d, e, f, g, k] ky y by rw [mixN, hm, hky, hy])
          have HR := Lib.hid hR
          clear hR hm hky hy
          go_wp2_with fail
          go_quiet (first | (go_at_call_of 71 (Value.int .i64 6); refine Calls.quiet_of_same (right_c 6 (by decide) (by decide) e _)) | (go_at_call_of 71 (Value.int .i64 11); refine Calls.quiet_of_same (right_c 11 (by decide) (by decide) e _)) | (go_at_call_of 71 (Value.int .i64 25); refine Calls.quiet_of_same (right_c 25 (by decide) (by decide) e _)))
          have hR2 := HR.out.drewN nq
          generalize wr.drewN nq = w3 at hR2 ⊢
          have HR3 := Lib.hid hR2
          clear hR2 HR qk qy
          go_wp2_with fail
          refine (right_c 2 (by decide) (by decide) a w3).mono ?_
          rintro e' w4 ⟨rfl, rfl⟩
          go_wp2_with fail
          refine (right_c 13 (by decide) (by decide) a _).mono ?_
          rintro e' w5 ⟨rfl, rfl⟩
          go_wp2_with fail
          refine (right_c 22 (by decide) (by decide) a _).mono ?_
          rintro e' w6 ⟨rfl, rfl⟩
          go_wp2_with fail
          refine ⟨⟨i + 1, _, _, _, _, _, _, _, _, by simp, by omega, HM.out, rfl, rfl, rfl, rfl, rfl, rfl, rfl, rfl, HR3.out⟩, ?_⟩
          simp only [intN]
          omega
        · obtain rfl : i = 64 := by omega
          rw [show ((64 : Nat) : Int) = 64 from rfl]
          have hq := fun j => hR.h3.cell j
          rw [HHH.out] at hq
          have q0 : wr.cell? ⟨w.heap.size, 0, none⟩ = some (.int .u32 (a0 : Int)) := hq 0
          have q1 : wr.cell? ⟨w.heap.size, 1, none⟩ = some (.int .u32 (a1 : Int)) := hq 1
          have q2 : wr.cell? ⟨w.heap.size, 2, none⟩ = some (.int .u32 (a2 : Int)) := hq 2
          have q3 : wr.cell? ⟨w.heap.size, 3, none⟩ = some (.int .u32 (a3 : Int)) := hq 3
          have q4 : wr.cell? ⟨w.heap.size, 4, none⟩ = some (.int .u32 (a4 : Int)) := hq 4
          have q5 : wr.cell? ⟨w.heap.size, 5, none⟩ = some (.int .u32 (a5 : Int)) := hq 5
          have q6 : wr.cell? ⟨w.heap.size, 6, none⟩ = some (.int .u32 (a6 : Int)) := hq 6
          have q7 : wr.cell? ⟨w.heap.size, 7, none⟩ = some (.int .u32 (a7 : Int)) := hq 7
          obtain ⟨z, hz, h6⟩ := hR.h6
          have r1 := rule_add
          have HMX := Lib.hid (show mixed [a0, a1, a2, a3, a4, a5, a6, a7] (spw b 64) = [addw a0 a, addw a1 b1, addw a2 c, addw a3 d, addw a4 e, addw a5 f, addw a6 g, addw a7 k] by rw [mixed, ← HWS.out, ← HHH.out, hm, HHH.out]; rfl)
          have HR6 := Lib.hid h6
          have HSZ := Lib.hid (show (Tryd.prog.info? 93).map (·.size) = some (uv [addw a0 a, addw a1 b1, addw a2 c, addw a3 d, addw a4 e, addw a5 f, addw a6 g, addw a7 k]).length from Tryd.size93)
          have HL := Lib.hid (show 0 + (uv [addw a0 a, addw a1 b1, addw a2 c, addw a3 d, addw a4 e, addw a5 f, addw a6 g, addw a7 k]).length ≤ z.length by rw [hz]; exact Nat.le_refl _)
          have HSP := Lib.hid (splice_all z (uv [addw a0 a, addw a1 b1, addw a2 c, addw a3 d, addw a4 e, addw a5 f, addw a6 g, addw a7 k]) (by rw [hz]; rfl))
          have HR' := Lib.hid (h6.setRow (uv [addw a0 a, addw a1 b1, addw a2 c, addw a3 d, addw a4 e, addw a5 f, addw a6 g, addw a7 k]))
          have HB' := Lib.hid (below_setRow hR.hB (show w.heap.size ≤ w.heap.size + 1 + 1 by omega) (uv [addw a0 a, addw a1 b1, addw a2 c, addw a3 d, addw a4 e, addw a5 f, addw a6 g, addw a7 k]).toArray)
          clear hR hq hm hz h6 hlt hi
          go_wp2_with ((with_reducible refine wpList_store_part ?_ 93 (.tmp 6) (.tmp 195) ?_ (w.heap.size + 1 + 1) 0 (uv [addw a0 a, addw a1 b1, addw a2 c, addw a3 d, addw a4 e, addw a5 f, addw a6 g, addw a7 k]) ?_ ?_ 93 _ HR6.out HSZ.out HL.out (uv_one _) ?_); rfl; rfl; rfl; rfl; rw [HSP.out])
          rw [HHH.out, HMX.out]
          refine bodyPost_ret (v := .agg (uv [addw a0 a, addw a1 b1, addw a2 c, addw a3 d, addw a4 e, addw a5 f, addw a6 g, addw a7 k]).toArray) ?_ rfl ⟨rfl, HB'.out⟩
          exact results_cell_row rfl _ _ (w.heap.size + 1 + 1) 93 _ (0, 0) (.array 8 92) rfl HR'.out Tryd.underlying93 rfl (by rw [List.size_toArray]; exact HSZ.out)
end Go.Proofs.YtnbdpalbompjlaaDoor
