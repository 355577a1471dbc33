/-
  What finish does.
-/
import Derived.Test.YtickcajihaejkaaDoorTake
namespace Go.Proofs.YtickcajihaejkaaDoor
open Go.RowKit

/-- How many bytes are wanting until 56 are held. -/
def gapOf (g : Nat) (w : World) : Nat :=
  match w.cell? ⟨g, 72, none⟩ with
  | some (.int _ n) => (56 + 64 - n.toNat) % 64
  | _ => 0

theorem St.cell72 {w : World} {g : Nat} {bs : List UInt8} (h : St w g bs) : w.cell? ⟨g, 72, none⟩ = some (.int .i64 ((bs.length % 64 : Nat) : Int)) := by
  obtain ⟨a, b, h⟩ := h
  exact (h.row.cell 72).trans (stc_72 h.ok.wlen h.ok.len)
theorem St.cell73 {w : World} {g : Nat} {bs : List UInt8} (h : St w g bs) : w.cell? ⟨g, 73, none⟩ = some (.int .u64 ((bs.length % 18446744073709551616 : Nat) : Int)) := by
  obtain ⟨a, b, h⟩ := h
  exact (h.row.cell 73).trans (stc_73 h.ok.wlen h.ok.len)
theorem St.below {w w' : World} {g : Nat} {bs : List UInt8} (h : St w g bs) (hb : Below w.heap.size w w') : St w' g bs := by
  obtain ⟨a, b, h⟩ := h
  exact ⟨a, b, h.row.below hb h.row.lt, h.ok⟩
theorem St.gap {w : World} {g : Nat} {bs : List UInt8} (h : St w g bs) : gapOf g w = (56 + 64 - bs.length % 64) % 64 := by
  unfold gapOf; rw [h.cell72]; simp only [Int.toNat_natCast]

def mul8 (x : Nat) : Nat := x * 8 % 18446744073709551616
theorem rule_mul8 (x : Nat) : IntKind.u64.wrap ((x : Int) * 8) = ((mul8 x : Nat) : Int) := by
  simp [IntKind.wrap, IntKind.bits, IntKind.signed, mul8]

def FinRel (w : World) (g : Nat) (bs : List UInt8) (wr : World) : Prop :=
  ∃ j, j ≤ padN bs.length ∧ St wr g (bs ++ ([128] ++ List.replicate j 0)) ∧ Kept g w wr

theorem be4_mod (x : Nat) : be4 (x % 4294967296) = be4 x := by
  simp only [be4]
  congr 1
  · apply UInt8.toNat_inj.1; simp; omega
  · congr 1
    · apply UInt8.toNat_inj.1; simp; omega
    · congr 1
      · apply UInt8.toNat_inj.1; simp; omega
      · congr 1
        apply UInt8.toNat_inj.1; simp

theorem conv_bytes {w : World} {g : Nat} {t : TypeId} {l : List UInt8} (h : Blk w g t (bv l)) : (convert 40 9 (.slice (some ⟨g, 0, none⟩) l.length l.length)).run Tryd.prog w = .ok (.string ⟨l.toArray⟩) w := by
  refine run_convert_bytes_back w 40 9 5 ⟨g, 0, none⟩ l.length l Tryd.underlying40 Tryd.underlying5 Tryd.underlying9 fun j hj => ?_
  rw [Addr.add_lit, Nat.zero_add, h.cell]
  exact bv_at hj

set_option maxHeartbeats 4000000 in
set_option maxRecDepth 10000 in
theorem finish_any (w : World) (g : Nat) (bs : List UInt8) (hT : Tabs w) (hg : 2 ≤ g) (hs : St w g bs) :
    Calls Tryd.prog 33 #[.pointer (some ⟨g, 0, none⟩)] w fun e w' => e = .returned (.tuple #[]) ∧ St w' g (padded bs) ∧ Kept g w w' := by
  obtain ⟨m, hm⟩ : ∃ m, m = bs.length % 18446744073709551616 := ⟨_, rfl⟩
  have q73 := hs.cell73
  rw [← hm] at q73
  obtain ⟨cnt, hcnt⟩ : ∃ cnt, cnt = mul8 m := ⟨_, rfl⟩
  have r1 : IntKind.u64.wrap ((m : Int) * 8) = (cnt : Int) := by rw [hcnt]; exact rule_mul8 m
  have HS := Lib.hid hs
  have HT := Lib.hid hT
  have HC := Lib.hid (show cnt = bs.length * 8 % 18446744073709551616 by rw [hcnt, mul8, hm]; omega)
  clear hs hT hm hcnt
  go_enter Tryd.func33, Tryd.ntmps33
  go_wp2_with fail
  refine (take_any w g bs [128] HT.out hg HS.out (by simp)).mono ?_
  rintro e w1 ⟨rfl, hs1, hk1⟩
  have HS1 := Lib.hid hs1
  have HK1 := Lib.hid hk1
  clear hs1 hk1 q73 r1
  go_wp2_with fail
  go_loopw [12] (fun _ wr => FinRel w g bs wr) (fun _ wr => gapOf g wr)
  case atStart => exact ⟨0, Nat.zero_le _, by simpa using HS1.out, HK1.out⟩
  case round =>
    clear HS1 HK1
    obtain ⟨j, hj, hs, hk⟩ := hrel
    have hlen : (bs ++ ([128] ++ List.replicate j (0 : UInt8))).length = bs.length + 1 + j := by simp; omega
    have q72 := hs.cell72
    rw [hlen] at q72
    have hpd : padN bs.length = (55 + 64 - bs.length % 64) % 64 := rfl
    by_cases h56 : (bs.length + 1 + j) % 64 = 56
    · have d1 : (((bs.length + 1 + j) % 64 : Nat) : Int) = 56 := by omega
      rw [d1] at q72
      have HJ := Lib.hid (show j = padN bs.length by omega)
      have HS2 := Lib.hid hs
      have HK2 := Lib.hid hk
      clear hs hk hlen hpd h56 d1
      obtain ⟨x1, hx1⟩ : ∃ x1, x1 = cnt / 4294967296 % 4294967296 := ⟨_, rfl⟩
      obtain ⟨x2, hx2⟩ : ∃ x2, x2 = cnt % 4294967296 := ⟨_, rfl⟩
      have e1 : (cnt : Int) / 4294967296 % 4294967296 = (x1 : Int) := by omega
      have e2 : (cnt : Int) % 4294967296 = (x2 : Int) := by omega
      have HX := Lib.hid (show be4 x1 ++ be4 x2 = be8 cnt by rw [hx1, hx2, be4_mod, be4_mod, be8])
      clear hx1 hx2
      go_wp2_with fail
      refine (bytesOf_any wr x1).mono ?_
      rintro e w3 ⟨rfl, hb3⟩
      go_wp2_with fail
      refine (bytesOf_any w3 x2).mono ?_
      rintro e w4 ⟨rfl, hb4⟩
      have HB4 := Lib.hid (hb3.trans (hb4.mono hb3.size))
      clear hb3 hb4 e1 e2 q72
      have hbA := (Blk.new w4 77 #[.int .u8 0, .int .u8 0, .int .u8 0, .int .u8 0]).alloc (.cells #[.int .u8 0, .int .u8 0, .int .u8 0, .int .u8 0] 77)
      have hbB := Blk.new (w4.alloc (.cells #[.int .u8 0, .int .u8 0, .int .u8 0, .int .u8 0] 77)) 77 #[.int .u8 0, .int .u8 0, .int .u8 0, .int .u8 0]
      simp only [World.size_alloc] at hbB
      have hbA' := hbA.setRow (bv (be4 x1))
      have hbB' := hbB.setRow_other (bv (be4 x1)).toArray (show w4.heap.size + 1 ≠ w4.heap.size by omega)
      have HBA := Lib.hid hbA
      have HBB := Lib.hid hbB'
      have hbC := hbA'.setRow_other (bv (be4 x2)).toArray (show w4.heap.size ≠ w4.heap.size + 1 by omega)
      have hbD := hbB'.setRow (bv (be4 x2))
      have hbE : Below w4.heap.size w4 ((((w4.alloc (.cells #[.int .u8 0, .int .u8 0, .int .u8 0, .int .u8 0] 77)).alloc (.cells #[.int .u8 0, .int .u8 0, .int .u8 0, .int .u8 0] 77)).setRow w4.heap.size (bv (be4 x1)).toArray).setRow (w4.heap.size + 1) (bv (be4 x2)).toArray) :=
        below_setRow (below_setRow (((Below.refl _ _).alloc (Nat.le_refl _) _).alloc (by simp) _) (Nat.le_refl _) _) (by omega) _
      have HBC := Lib.hid hbC
      have HBD := Lib.hid hbD
      have HBE := Lib.hid hbE
      clear hbA hbB hbA' hbB' hbC hbD hbE
      have HZ1 := Lib.hid (show (Tryd.prog.info? 77).map (·.size) = some (bv (be4 x1)).length from Tryd.size77)
      have HZ2 := Lib.hid (show (Tryd.prog.info? 77).map (·.size) = some (bv (be4 x2)).length from Tryd.size77)
      have HP1 := Lib.hid (splice_all [Value.int .u8 0, .int .u8 0, .int .u8 0, .int .u8 0] (bv (be4 x1)) rfl)
      have HP2 := Lib.hid (splice_all [Value.int .u8 0, .int .u8 0, .int .u8 0, .int .u8 0] (bv (be4 x2)) rfl)
      have HL1 := Lib.hid (show 0 + (bv (be4 x1)).length ≤ [Value.int .u8 0, .int .u8 0, .int .u8 0, .int .u8 0].length from Nat.le_refl _)
      have HL2 := Lib.hid (show 0 + (bv (be4 x2)).length ≤ [Value.int .u8 0, .int .u8 0, .int .u8 0, .int .u8 0].length from Nat.le_refl _)
      go_wp2_with (first
        | ((with_reducible refine wpList_store_part ?_ 77 (.tmp 3) (.tmp 22) ?_ w4.heap.size 0 (bv (be4 x1)) ?_ ?_ 77 _ HBA.out HZ1.out HL1.out (bv_one _) ?_); rfl; rfl; rfl; rfl; rw [HP1.out])
        | ((with_reducible refine wpList_store_part ?_ 77 (.tmp 4) (.tmp 25) ?_ (w4.heap.size + 1) 0 (bv (be4 x2)) ?_ ?_ 77 _ HBB.out HZ2.out HL2.out (bv_one _) ?_); rfl; rfl; rfl; rfl; rw [HP2.out]))
      simp only [Act.put]
      generalize (((w4.alloc (.cells #[.int .u8 0, .int .u8 0, .int .u8 0, .int .u8 0] 77)).alloc (.cells #[.int .u8 0, .int .u8 0, .int .u8 0, .int .u8 0] 77)).setRow w4.heap.size (bv (be4 x1)).toArray).setRow (w4.heap.size + 1) (bv (be4 x2)).toArray = w5 at HBC HBD HBE ⊢
      have hc1 : ∀ n, (convert 40 9 (.slice (some ⟨w4.heap.size, 0, none⟩) 4 4)).run Tryd.prog (w5.drewN n) = .ok (.string ⟨(be4 x1).toArray⟩) (w5.drewN n) := fun n => conv_bytes (l := be4 x1) (HBC.out.drewN n)
      have hc2 : ∀ n, (convert 40 9 (.slice (some ⟨w4.heap.size + 1, 0, none⟩) 4 4)).run Tryd.prog (w5.drewN n) = .ok (.string ⟨(be4 x2).toArray⟩) (w5.drewN n) := fun n => conv_bytes (l := be4 x2) (HBD.out.drewN n)
      have HS5 := Lib.hid ((HS2.out.below HB4.out).below HBE.out)
      have HK5 := Lib.hid ((HK2.out.below HB4.out).below HBE.out)
      clear HBA HBB HBC HBD HBE HZ1 HZ2 HP1 HP2 HL1 HL2 HB4 HS2 HK2
      obtain ⟨S1, hS1⟩ : ∃ S1 : ByteArray, S1 = ⟨(be4 x1).toArray⟩ := ⟨_, rfl⟩
      obtain ⟨S2, hS2⟩ : ∃ S2 : ByteArray, S2 = ⟨(be4 x2).toArray⟩ := ⟨_, rfl⟩
      rw [← hS1] at hc1
      rw [← hS2] at hc2
      have z1 : S1.size = 4 := by rw [hS1]; rfl
      have z2 : S2.size = 4 := by rw [hS2]; rfl
      have HSS := Lib.hid (show S1 ++ S2 = ⟨(be8 cnt).toArray⟩ by
        rw [hS1, hS2, ← HX.out]
        apply ByteArray.ext
        simp)
      clear hS1 hS2
      refine wp_region_draws_tail 6 (by kernel_rfl) (by kernel_rfl) ?_
      simp only [List.take_succ_cons, List.take_zero, List.drop_succ_cons, List.drop_zero]
      repeat (go_big_quiet_step (fail))
      refine wpQuiet_nil ?_
      rintro _ ⟨nq, rfl⟩
      have hs6 := HS5.out.below (below_drewN' (Below.refl _ _) nq)
      have hk6 := HK5.out.drewN nq
      generalize w5.drewN nq = w6 at hs6 hk6 ⊢
      have HS6 := Lib.hid hs6
      have HK6 := Lib.hid hk6
      clear HS5 HK5 hs6 hk6 hc1 hc2
      rw [HSS.out]
      go_wp2_with fail
      refine (take_any w6 g _ (be8 cnt) (HK6.out.tabs HT.out hg) hg HS6.out (by rw [be8_length]; omega)).mono ?_
      rintro e w7 ⟨rfl, hs7, hk7⟩
      have HS7 := Lib.hid (show St w7 g (padded bs) by rw [padded, ← HJ.out, ← HC.out]; exact hs7)
      have HK7 := Lib.hid (HK6.out.trans hk7)
      clear hs7 hk7
      go_wp2_with fail
      go_end0
      exact ⟨rfl, HS7.out, HK7.out⟩
    · obtain ⟨n, hn⟩ : ∃ n, n = (bs.length + 1 + j) % 64 := ⟨_, rfl⟩
      rw [← hn] at q72
      have d1 : ¬ ((n : Int) = 56) := by omega
      have hgap := hs.gap
      rw [hlen] at hgap
      have HJ := Lib.hid (show j + 1 ≤ padN bs.length by omega)
      have HS2 := Lib.hid hs
      have HK2 := Lib.hid hk
      have HN := Lib.hid hn
      have HG := Lib.hid hgap
      clear hs hk hlen hpd hn hgap
      go_wp2_with fail
      refine (take_any wr g _ [0] (HK2.out.tabs HT.out hg) hg HS2.out (by simp)).mono ?_
      rintro e w3 ⟨rfl, hs3, hk3⟩
      have hs3' : St w3 g (bs ++ ([128] ++ List.replicate (j + 1) 0)) := by
        rw [List.replicate_succ', ← List.append_assoc [128], ← List.append_assoc bs]; exact hs3
      have hg3 := hs3'.gap
      have HR := Lib.hid (show FinRel w g bs w3 from ⟨j + 1, HJ.out, hs3', HK2.out.trans hk3⟩)
      have HL := Lib.hid (show gapOf g w3 < gapOf g wr by
        rw [hg3, HG.out]
        have := HN.out
        simp
        omega)
      clear hs3 hk3 hs3' hg3
      go_wp2_with fail
      exact ⟨HR.out, HL.out⟩
end Go.Proofs.YtickcajihaejkaaDoor
