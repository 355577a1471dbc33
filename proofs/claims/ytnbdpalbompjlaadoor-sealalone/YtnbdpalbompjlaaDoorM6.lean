/-
  The texts Finish, Digest, Of, one behind the other.
-/
import Derived.Test.YtnbdpalbompjlaaDoorTake
/-
  What finish does.
-/
namespace Go.Proofs.YtnbdpalbompjlaaDoor
open Go.RowKit
set_option maxRecDepth 10000

/-- How many bytes are wanting until 56 are held. -/
def gapOf (g : Nat) (w : World) : Nat :=
  match w.cell? ⟨g, 72, none⟩ with
  | some (.int _ n) => (56 + 64 - n.toNat) % 64
  | _ => 0

theorem St.cell72 {w : World} {g : Nat} {bs : List UInt8} (h : St w g bs) : w.cell? ⟨g, 72, none⟩ = some (.int .i64 ((bs.length % 64 : Nat) : Int)) := by
  obtain ⟨a, b, h⟩ := h
  exact (h.row.cell 72).trans (stc_72 h.ok.wlen h.ok.len)
theorem St.cell73 {w : World} {g : Nat} {bs : List UInt8} (h : St w g bs) : w.cell? ⟨g, 73, none⟩ = some (.int .u64 ((bs.length % 18446744073709551616 : Nat) : Int)) := by
  obtain ⟨a, b, h⟩ := h
  exact (h.row.cell 73).trans (stc_73 h.ok.wlen h.ok.len)
theorem St.below {w w' : World} {g : Nat} {bs : List UInt8} (h : St w g bs) (hb : Below w.heap.size w w') : St w' g bs := by
  obtain ⟨a, b, h⟩ := h
  exact ⟨a, b, h.row.below hb h.row.lt, h.ok⟩
theorem St.gap {w : World} {g : Nat} {bs : List UInt8} (h : St w g bs) : gapOf g w = (56 + 64 - bs.length % 64) % 64 := by
  unfold gapOf; rw [h.cell72]; simp only [Int.toNat_natCast]

def mul8 (x : Nat) : Nat := x * 8 % 18446744073709551616
theorem rule_mul8 (x : Nat) : IntKind.u64.wrap ((x : Int) * 8) = ((mul8 x : Nat) : Int) := by
  simp [IntKind.wrap, IntKind.bits, IntKind.signed, mul8]

def FinRel (w : World) (g : Nat) (bs : List UInt8) (wr : World) : Prop :=
  ∃ j, j ≤ padN bs.length ∧ St wr g (bs ++ ([128] ++ List.replicate j 0)) ∧ Kept g w wr

theorem be4_mod (x : Nat) : be4 (x % 4294967296) = be4 x := by
  simp only [be4]
  congr 1
  · apply UInt8.toNat_inj.1; simp; omega
  · congr 1
    · apply UInt8.toNat_inj.1; simp; omega
    · congr 1
      · apply UInt8.toNat_inj.1; simp; omega
      · congr 1
        apply UInt8.toNat_inj.1; simp

theorem conv_bytes {w : World} {g : Nat} {t : TypeId} {l : List UInt8} (h : Blk w g t (bv l)) : (convert 86 9 (.slice (some ⟨g, 0, none⟩) l.length l.length)).run Tryd.prog w = .ok (.string ⟨l.toArray⟩) w := by
  refine run_convert_bytes_back w 86 9 5 ⟨g, 0, none⟩ l.length l Tryd.underlying86 Tryd.underlying5 Tryd.underlying9 fun j hj => ?_
  rw [Addr.add_lit, Nat.zero_add, h.cell]
  exact bv_at hj

set_option maxHeartbeats 4000000 in
set_option maxRecDepth 10000 in
theorem finish_any (w : World) (g : Nat) (bs : List UInt8) (hT : Tabs w) (hg : 2 ≤ g) (hs : St w g bs) :
    Calls Tryd.prog 67 #[.pointer (some ⟨g, 0, none⟩)] w fun e w' => e = .returned (.tuple #[]) ∧ St w' g (padded bs) ∧ Kept g w w' := by
  obtain ⟨m, hm⟩ : ∃ m, m = bs.length % 18446744073709551616 := ⟨_, rfl⟩
  have q73 := hs.cell73
  rw [← hm] at q73
  obtain ⟨cnt, hcnt⟩ : ∃ cnt, cnt = mul8 m := ⟨_, rfl⟩
  have r1 : IntKind.u64.wrap ((m : Int) * 8) = (cnt : Int) := by rw [hcnt]; exact rule_mul8 m
  have HS := Lib.hid hs
  have HT := Lib.hid hT
  have HC := Lib.hid (show cnt = bs.length * 8 % 18446744073709551616 by rw [hcnt, mul8, hm]; omega)
  clear hs hT hm hcnt
  go_enter Tryd.func67, Tryd.ntmps67
  go_wp2_with fail
  refine (take_any w g bs [128] HT.out hg HS.out (by simp)).mono ?_
  rintro e w1 ⟨rfl, hs1, hk1⟩
  have HS1 := Lib.hid hs1
  have HK1 := Lib.hid hk1
  clear hs1 hk1 q73 r1
  go_wp2_with fail
  go_loopw [12] (fun _ wr => FinRel w g bs wr) (fun _ wr => gapOf g wr)
  case atStart => exact ⟨0, Nat.zero_le _, by simpa using HS1.out, HK1.out⟩
  case round =>
    clear HS1 HK1
    obtain ⟨j, hj, hs, hk⟩ := hrel
    have hlen : (bs ++ ([128] ++ List.replicate j (0 : UInt8))).length = bs.length + 1 + j := by simp; omega
    have q72 := hs.cell72
    rw [hlen] at q72
    have hpd : padN bs.length = (55 + 64 - bs.length % 64) % 64 := rfl
    by_cases h56 : (bs.length + 1 + j) % 64 = 56
    · have d1 : (((bs.length + 1 + j) % 64 : Nat) : Int) = 56 := by omega
      rw [d1] at q72
      have HJ := Lib.hid (show j = padN bs.length by omega)
      have HS2 := Lib.hid hs
      have HK2 := Lib.hid hk
      clear hs hk hlen hpd h56 d1
      obtain ⟨x1, hx1⟩ : ∃ x1, x1 = cnt / 4294967296 % 4294967296 := ⟨_, rfl⟩
      obtain ⟨x2, hx2⟩ : ∃ x2, x2 = cnt % 4294967296 := ⟨_, rfl⟩
      have e1 : (cnt : Int) / 4294967296 % 4294967296 = (x1 : Int) := by omega
      have e2 : (cnt : Int) % 4294967296 = (x2 : Int) := by omega
      have HX := Lib.hid (show be4 x1 ++ be4 x2 = be8 cnt by rw [hx1, hx2, be4_mod, be4_mod, be8])
      clear hx1 hx2
      go_wp2_with fail
      refine (bytesOf_any wr x1).mono ?_
      rintro e w3 ⟨rfl, hb3⟩
      go_wp2_with fail
      refine (bytesOf_any w3 x2).mono ?_
      rintro e w4 ⟨rfl, hb4⟩
      have HB4 := Lib.hid (hb3.trans (hb4.mono hb3.size))
      clear hb3 hb4 e1 e2 q72
      have hbA := (Blk.new w4 122 #[.int .u8 0, .int .u8 0, .int .u8 0, .int .u8 0]).alloc (.cells #[.int .u8 0, .int .u8 0, .int .u8 0, .int .u8 0] 122)
      have hbB := Blk.new (w4.alloc (.cells #[.int .u8 0, .int .u8 0, .int .u8 0, .int .u8 0] 122)) 122 #[.int .u8 0, .int .u8 0, .int .u8 0, .int .u8 0]
      simp only [World.size_alloc] at hbB
      have hbA' := hbA.setRow (bv (be4 x1))
      have hbB' := hbB.setRow_other (bv (be4 x1)).toArray (show w4.heap.size + 1 ≠ w4.heap.size by omega)
      have HBA := Lib.hid hbA
      have HBB := Lib.hid hbB'
      have hbC := hbA'.setRow_other (bv (be4 x2)).toArray (show w4.heap.size ≠ w4.heap.size + 1 by omega)
      have hbD := hbB'.setRow (bv (be4 x2))
      have hbE : Below w4.heap.size w4 ((((w4.alloc (.cells #[.int .u8 0, .int .u8 0, .int .u8 0, .int .u8 0] 122)).alloc (.cells #[.int .u8 0, .int .u8 0, .int .u8 0, .int .u8 0] 122)).setRow w4.heap.size (bv (be4 x1)).toArray).setRow (w4.heap.size + 1) (bv (be4 x2)).toArray) :=
        below_setRow (below_setRow (((Below.refl _ _).alloc (Nat.le_refl _) _).alloc (by simp) _) (Nat.le_refl _) _) (by omega) _
      have HBC := Lib.hid hbC
      have HBD := Lib.hid hbD
      have HBE := Lib.hid hbE
      clear hbA hbB hbA' hbB' hbC hbD hbE
      have HZ1 := Lib.hid (show (Tryd.prog.info? 122).map (·.size) = some (bv (be4 x1)).length from Tryd.size122)
      have HZ2 := Lib.hid (show (Tryd.prog.info? 122).map (·.size) = some (bv (be4 x2)).length from Tryd.size122)
      have HP1 := Lib.hid (splice_all [Value.int .u8 0, .int .u8 0, .int .u8 0, .int .u8 0] (bv (be4 x1)) rfl)
      have HP2 := Lib.hid (splice_all [Value.int .u8 0, .int .u8 0, .int .u8 0, .int .u8 0] (bv (be4 x2)) rfl)
      have HL1 := Lib.hid (show 0 + (bv (be4 x1)).length ≤ [Value.int .u8 0, .int .u8 0, .int .u8 0, .int .u8 0].length from Nat.le_refl _)
      have HL2 := Lib.hid (show 0 + (bv (be4 x2)).length ≤ [Value.int .u8 0, .int .u8 0, .int .u8 0, .int .u8 0].length from Nat.le_refl _)
      go_wp2_with (first
        | ((with_reducible refine wpList_store_part ?_ 122 (.tmp 3) (.tmp 22) ?_ w4.heap.size 0 (bv (be4 x1)) ?_ ?_ 122 _ HBA.out HZ1.out HL1.out (bv_one _) ?_); rfl; rfl; rfl; rfl; rw [HP1.out])
        | ((with_reducible refine wpList_store_part ?_ 122 (.tmp 4) (.tmp 25) ?_ (w4.heap.size + 1) 0 (bv (be4 x2)) ?_ ?_ 122 _ HBB.out HZ2.out HL2.out (bv_one _) ?_); rfl; rfl; rfl; rfl; rw [HP2.out]))
      simp only [Act.put]
      generalize (((w4.alloc (.cells #[.int .u8 0, .int .u8 0, .int .u8 0, .int .u8 0] 122)).alloc (.cells #[.int .u8 0, .int .u8 0, .int .u8 0, .int .u8 0] 122)).setRow w4.heap.size (bv (be4 x1)).toArray).setRow (w4.heap.size + 1) (bv (be4 x2)).toArray = w5 at HBC HBD HBE ⊢
      have hc1 : ∀ n, (convert 86 9 (.slice (some ⟨w4.heap.size, 0, none⟩) 4 4)).run Tryd.prog (w5.drewN n) = .ok (.string ⟨(be4 x1).toArray⟩) (w5.drewN n) := fun n => conv_bytes (l := be4 x1) (HBC.out.drewN n)
      have hc2 : ∀ n, (convert 86 9 (.slice (some ⟨w4.heap.size + 1, 0, none⟩) 4 4)).run Tryd.prog (w5.drewN n) = .ok (.string ⟨(be4 x2).toArray⟩) (w5.drewN n) := fun n => conv_bytes (l := be4 x2) (HBD.out.drewN n)
      have HS5 := Lib.hid ((HS2.out.below HB4.out).below HBE.out)
      have HK5 := Lib.hid ((HK2.out.below HB4.out).below HBE.out)
      clear HBA HBB HBC HBD HBE HZ1 HZ2 HP1 HP2 HL1 HL2 HB4 HS2 HK2
      obtain ⟨S1, hS1⟩ : ∃ S1 : ByteArray, S1 = ⟨(be4 x1).toArray⟩ := ⟨_, rfl⟩
      obtain ⟨S2, hS2⟩ : ∃ S2 : ByteArray, S2 = ⟨(be4 x2).toArray⟩ := ⟨_, rfl⟩
      rw [← hS1] at hc1
      rw [← hS2] at hc2
      have z1 : S1.size = 4 := by rw [hS1]; rfl
      have z2 : S2.size = 4 := by rw [hS2]; rfl
      have HSS := Lib.hid (show S1 ++ S2 = ⟨(be8 cnt).toArray⟩ by
        rw [hS1, hS2, ← HX.out]
        apply ByteArray.ext
        simp)
      clear hS1 hS2
      refine wp_region_draws_tail 6 (by kernel_rfl) (by kernel_rfl) ?_
      simp only [List.take_succ_cons, List.take_zero, List.drop_succ_cons, List.drop_zero]
      repeat (go_big_quiet_step (fail))
      refine wpQuiet_nil ?_
      rintro _ ⟨nq, rfl⟩
      have hs6 := HS5.out.below (below_drewN' (Below.refl _ _) nq)
      have hk6 := HK5.out.drewN nq
      generalize w5.drewN nq = w6 at hs6 hk6 ⊢
      have HS6 := Lib.hid hs6
      have HK6 := Lib.hid hk6
      clear HS5 HK5 hs6 hk6 hc1 hc2
      rw [HSS.out]
      go_wp2_with fail
      refine (take_any w6 g _ (be8 cnt) (HK6.out.tabs HT.out hg) hg HS6.out (by rw [be8_length]; omega)).mono ?_
      rintro e w7 ⟨rfl, hs7, hk7⟩
      have HS7 := Lib.hid (show St w7 g (padded bs) by rw [padded, ← HJ.out, ← HC.out]; exact hs7)
      have HK7 := Lib.hid (HK6.out.trans hk7)
      clear hs7 hk7
      go_wp2_with fail
      go_end0
      exact ⟨rfl, HS7.out, HK7.out⟩
    · obtain ⟨n, hn⟩ : ∃ n, n = (bs.length + 1 + j) % 64 := ⟨_, rfl⟩
      rw [← hn] at q72
      have d1 : ¬ ((n : Int) = 56) := by omega
      have hgap := hs.gap
      rw [hlen] at hgap
      have HJ := Lib.hid (show j + 1 ≤ padN bs.length by omega)
      have HS2 := Lib.hid hs
      have HK2 := Lib.hid hk
      have HN := Lib.hid hn
      have HG := Lib.hid hgap
      clear hs hk hlen hpd hn hgap
      go_wp2_with fail
      refine (take_any wr g _ [0] (HK2.out.tabs HT.out hg) hg HS2.out (by simp)).mono ?_
      rintro e w3 ⟨rfl, hs3, hk3⟩
      have hs3' : St w3 g (bs ++ ([128] ++ List.replicate (j + 1) 0)) := by
        rw [List.replicate_succ', ← List.append_assoc [128], ← List.append_assoc bs]; exact hs3
      have hg3 := hs3'.gap
      have HR := Lib.hid (show FinRel w g bs w3 from ⟨j + 1, HJ.out, hs3', HK2.out.trans hk3⟩)
      have HL := Lib.hid (show gapOf g w3 < gapOf g wr by
        rw [hg3, HG.out]
        have := HN.out
        simp
        omega)
      clear hs3 hk3 hs3' hg3
      go_wp2_with fail
      exact ⟨HR.out, HL.out⟩
end Go.Proofs.YtnbdpalbompjlaaDoor

/-
  What digest answers.
-/
namespace Go.Proofs.YtnbdpalbompjlaaDoor
open Go.RowKit
set_option maxRecDepth 10000

theorem Tryd.size26 : (Tryd.prog.info? 26).map (·.size) = some 32 := by kernel_rfl

/-- The bytes of the first i words, and noughts. -/
def dig (h : List Nat) (i : Nat) : List UInt8 := (h.take i).flatMap be4 ++ List.replicate (32 - 4 * i) 0

theorem flat_length (h : List Nat) : (h.flatMap be4).length = 4 * h.length := by
  induction h with
  | nil => rfl
  | cons a t ih => simp [List.flatMap_cons, ih, be4_length]; omega
theorem dig_length (h : List Nat) (i : Nat) (hh : h.length = 8) (hi : i ≤ 8) : (dig h i).length = 32 := by
  rw [dig, List.length_append, flat_length, List.length_take, List.length_replicate]; omega
theorem dig_all (h : List Nat) (hh : h.length = 8) : dig h 8 = h.flatMap be4 := by
  rw [dig, List.take_of_length_le (by omega)]; simp
theorem dig_next (h : List Nat) (i : Nat) (hh : h.length = 8) (hi : i < 8) : splice (dig h i) (i * 4) (be4 (h.getD i 0)) = dig h (i + 1) := by
  have hl : ((h.take i).flatMap be4).length = i * 4 := by rw [flat_length, List.length_take]; omega
  have ht : (h.take (i + 1)).flatMap be4 = (h.take i).flatMap be4 ++ be4 (h.getD i 0) := by
    rw [List.take_add_one, getD_some h i (x := 0) (by omega)]
    simp
  have h1 : (dig h i).take (i * 4) = (h.take i).flatMap be4 := by
    rw [dig, List.take_append_of_le_length (by omega), List.take_of_length_le (by omega)]
  have h2 : (dig h i).drop (i * 4 + 4) = List.replicate (32 - 4 * (i + 1)) 0 := by
    rw [dig, List.drop_append, List.drop_of_length_le (by omega), List.nil_append, hl, List.drop_replicate]
    congr 1
    omega
  rw [splice, h1, be4_length, h2, dig, ht, List.append_assoc]

theorem run_index_agg {P : Program} (w : World) (t e : TypeId) (n : Nat) (k : IntKind) (cs : Array Value) (i : Nat) (v : Value) (hu : P.underlying t = some (.array n e)) (hs : (P.info? e).map (·.size) = some 1) (he : P.underlying e = some (.int k)) (hi : i < n) (hv : cs[i]? = some v) :
    (Instr.index t (.agg cs) (.int .i64 (i : Int))).run P w = .ok v w := by
  have hni : ¬ n ≤ i := by omega
  cases hq : P.info? e with
  | none => simp [hq] at hs
  | some ie =>
    have hz : ie.size = 1 := by simpa [hq] using hs
    simp [Instr.index, asIntOf, run_underlying hu, hni, sizeOf, typeInfo, hq, hz, part, isAgg, run_underlying he, hv]

structure DigIn (w : World) (h : List Nat) (i : Nat) (wr : World) : Prop where
  row : Blk wr (w.heap.size + 1) 26 (bv (dig h i))
  res : ∃ z, z.length = 32 ∧ Blk wr w.heap.size 26 z
  hB : Below w.heap.size w wr

theorem DigIn.below {w wr w' : World} {h : List Nat} {i : Nat} (d : DigIn w h i wr) (hb : Below wr.heap.size wr w') : DigIn w h i w' :=
  ⟨d.row.below hb d.row.lt, by
    obtain ⟨z, hz, hr⟩ := d.res
    exact ⟨z, hz, hr.below hb hr.lt⟩, d.hB.trans (hb.mono d.hB.size)⟩
theorem DigIn.drewN {w wr : World} {h : List Nat} {i : Nat} (d : DigIn w h i wr) (k : Nat) : DigIn w h i (wr.drewN k) := d.below (below_drewN' (Below.refl _ _) k)
theorem DigIn.row' {w wr w' : World} {h : List Nat} {i j : Nat} (d : DigIn w h i wr) (hg : Blk w' (w.heap.size + 1) 26 (bv (dig h j))) (hb : Below (w.heap.size + 1) wr w') : DigIn w h j w' :=
  ⟨hg, by
    obtain ⟨z, hz, hr⟩ := d.res
    exact ⟨z, hz, hr.below hb (by omega)⟩, d.hB.trans (hb.mono (by omega))⟩
theorem bv_splice (l cs : List UInt8) (k : Nat) : splice (bv l) k (bv cs) = bv (splice l k cs) := by
  simp [splice, bv, List.map_take, List.map_drop]

theorem slice32_at (w : World) (g i : Nat) (hi : i < 8) : (Instr.sliceAt 26 (.pointer (some ⟨g, 0, none⟩)) (some (.int .i64 ((i : Int) * 4))) none none).run Tryd.prog w = .ok (.slice (some ⟨g, i * 4, none⟩) (32 - i * 4) (32 - i * 4)) w := by
  have h := run_sliceAt_array_l (P := Tryd.prog) w 26 ⟨g, 0, none⟩ (by kernel_rfl) .i64 ((i : Int) * 4) (by omega) (by
    have : Tryd.prog.arrayLen 26 = 32 := by kernel_rfl
    omega)
  rw [h, show Tryd.prog.arrayLen 26 = 32 by kernel_rfl, show Tryd.prog.elem 26 = 5 by kernel_rfl, sizeOf5]
  have e : ((i : Int) * 4).toNat = i * 4 := by omega
  simp only [Result.andThen_ok, slicedAt, e, Nat.mul_one]
  rw [if_neg (by omega), Addr.add_lit, Nat.zero_add]

def DigRel (w : World) (h : List Nat) (x : Value) (wr : World) : Prop := ∃ i : Nat, x = .int .i64 (i : Int) ∧ i ≤ 8 ∧ DigIn w h i wr

set_option maxHeartbeats 4000000 in
theorem digest_any (w : World) (g n m : Nat) (h : List Nat) (blk : List UInt8) (hs : Blk w g 108 (stc h blk n m)) (hh : h.length = 8) :
    Calls Tryd.prog 68 #[.pointer (some ⟨g, 0, none⟩)] w fun e w' => e = .returned (.agg (bv (h.flatMap be4)).toArray) ∧ Below w.heap.size w w' := by
  have HH := Lib.hid hh
  have HSZ := Lib.hid (show (Tryd.prog.info? 93).map (·.size) = some (uv h).length by rw [uv_length, hh]; exact Tryd.size93)
  have HC := Lib.hid (show ∀ j v, (uv h)[j]? = some v → ((w.alloc (.cells (Array.replicate 32 (.int .u8 0)) 26)).alloc (.cells (Array.replicate 32 (.int .u8 0)) 26)).cell? ⟨g, 0 + j, none⟩ = some v from fun j v hj => by
    rw [((hs.alloc _).alloc _).cell]; exact stc_words j v hj)
  clear hs hh
  go_enter Tryd.func68, Tryd.ntmps68
  go_wp2_with ((with_reducible refine wpList_load_cells ?_ 93 (.tmp 9) ?_ g 0 (uv h) ?_ 8 92 ?_ Tryd.underlying93 HSZ.out ?_); rfl; rfl; rfl; exact HC.out)
  go_loopw [11] (fun x wr => DigRel w h x wr) (fun x _ => 8 - intN x)
  case atStart =>
    refine ⟨0, rfl, by omega, ?_, ⟨Array.toList (Array.replicate 32 (.int .u8 0)), rfl, ?_⟩, ((Below.refl _ _).alloc (Nat.le_refl _) _).alloc (by simp) _⟩
    · have h1 := Blk.new (w.alloc (.cells (Array.replicate 32 (.int .u8 0)) 26)) 26 (Array.replicate 32 (.int .u8 0))
      simp only [World.size_alloc] at h1
      exact h1
    · exact (Blk.new w 26 (Array.replicate 32 (.int .u8 0))).alloc _
  case round =>
    obtain ⟨i, rfl, hi, hR⟩ := hrel
    by_cases hlt : i < 8
    · have d0 : (i : Int) < 8 := by omega
      obtain ⟨x, hx⟩ : ∃ x, x = h.getD i 0 := ⟨_, rfl⟩
      have hix : (Instr.index 93 (.agg (uv h).toArray) (.int .i64 (i : Int))).run Tryd.prog wr = .ok (.int .u32 (x : Int)) wr :=
        run_index_agg wr 93 92 8 .u32 _ i _ Tryd.underlying93 Tryd.size92 Tryd.underlying92 hlt (by rw [List.getElem?_toArray, hx]; exact uv_at (getD_some h i (by rw [HH.out]; exact hlt)))
      have HX := Lib.hid hx
      have HR := Lib.hid hR
      clear hx hR HC
      go_wp2_with fail
      refine (bytesOf_any wr x).mono ?_
      rintro e w3 ⟨rfl, hb3⟩
      have hR3 := HR.out.below hb3
      clear HR hix
      have hbA := Blk.new w3 122 #[.int .u8 0, .int .u8 0, .int .u8 0, .int .u8 0]
      have hbA' := hbA.setRow (bv (be4 x))
      have HBA := Lib.hid hbA
      have HR4 := Lib.hid (hR3.below (below_setRow (((Below.refl _ _).alloc (Nat.le_refl _) (.cells #[.int .u8 0, .int .u8 0, .int .u8 0, .int .u8 0] 122))) (Nat.le_refl w3.heap.size) (bv (be4 x)).toArray))
      have HB4 := Lib.hid hbA'
      have HZ1 := Lib.hid (show (Tryd.prog.info? 122).map (·.size) = some (bv (be4 x)).length from Tryd.size122)
      have HP1 := Lib.hid (splice_all [Value.int .u8 0, .int .u8 0, .int .u8 0, .int .u8 0] (bv (be4 x)) rfl)
      have HL1 := Lib.hid (show 0 + (bv (be4 x)).length ≤ [Value.int .u8 0, .int .u8 0, .int .u8 0, .int .u8 0].length from Nat.le_refl _)
      have HG := Lib.hid (show w.heap.size + 1 < w3.heap.size from hR3.row.lt)
      clear hbA hbA' hb3 hR3
      go_wp2_with ((with_reducible refine wpList_store_part ?_ 122 (.tmp 6) (.tmp 16) ?_ w3.heap.size 0 (bv (be4 x)) ?_ ?_ 122 _ HBA.out HZ1.out HL1.out (bv_one _) ?_); rfl; rfl; rfl; rfl; rw [HP1.out])
      simp only [Act.put]
      generalize (w3.alloc (.cells #[.int .u8 0, .int .u8 0, .int .u8 0, .int .u8 0] 122)).setRow w3.heap.size (bv (be4 x)).toArray = w4 at HR4 HB4 ⊢
      have hsl := fun w' => slice32_at w' (w.heap.size + 1) i hlt
      refine wp_region_draws_tail 4 (by kernel_rfl) (by kernel_rfl) ?_
      simp only [List.take_succ_cons, List.take_zero, List.drop_succ_cons, List.drop_zero]
      repeat (go_big_quiet_step (fail))
      refine wpQuiet_nil ?_
      rintro _ ⟨nq, rfl⟩
      have hR5 := HR4.out.drewN nq
      have hB5 := HB4.out.drewN nq
      generalize w4.drewN nq = w5 at hR5 hB5 ⊢
      have hdl := dig_length h i HH.out hi
      refine wpList_copy_splice rfl (.tmp 19) (.tmp 20) 86 86 rfl 5 Tryd.underlying86 Tryd.size5 _ _ (32 - i * 4) (32 - i * 4) 4 4 rfl rfl (w.heap.size + 1) (i * 4) (bv (dig h i)) 26 hR5.row (bv (be4 x)) ?_ (fun _ => ⟨rfl, ⟨w3.heap.size, 0, none⟩, rfl, ?_⟩) ?_ (bv_one _) (w.heap.size + 1) w5 (Below.refl _ _) (Nat.le_refl _) ?_
      · show 4 = min 4 (32 - i * 4)
        omega
      · intro j v hj
        rw [Addr.add_lit, Nat.zero_add, hB5.cell]; exact hj
      · rw [bv_length, bv_length, be4_length, hdl]; omega
      intro w6 HG6 hB6
      have hR6 : DigIn w h (i + 1) w6 := hR5.row' (by
        have h6 := HG6.out
        rw [bv_splice, HX.out, dig_next h i HH.out hlt] at h6
        exact h6) hB6
      have HR6 := Lib.hid hR6
      clear hR6 hR5 hB5 HG6 hB6 hsl HR4 HB4
      go_wp2_with fail
      refine ⟨⟨i + 1, by simp, by omega, HR6.out⟩, ?_⟩
      simp only [intN]
      omega
    · obtain rfl : i = 8 := by omega
      obtain ⟨z, hz, hz2⟩ := hR.res
      have hdl := dig_length h 8 HH.out (Nat.le_refl _)
      have HC8 := Lib.hid hR.row.cells
      have HR4 := Lib.hid hz2
      have HSZ8 := Lib.hid (show (Tryd.prog.info? 26).map (·.size) = some (bv (dig h 8)).length by rw [bv_length, hdl]; exact Tryd.size26)
      have HL := Lib.hid (show 0 + (bv (dig h 8)).length ≤ z.length by rw [bv_length]; omega)
      have HS := Lib.hid (splice_all z (bv (dig h 8)) (by rw [bv_length]; omega))
      have HR' := Lib.hid (hz2.setRow (bv (dig h 8)))
      have HB' := Lib.hid (below_setRow hR.hB (show w.heap.size ≤ w.heap.size by omega) (bv (dig h 8)).toArray)
      clear hR hz2 hz HC hdl
      go_wp2_with (first
        | ((with_reducible refine wpList_load_cells ?_ 26 (.tmp 3) ?_ _ 0 _ ?_ 32 5 HC8.out Tryd.underlying26 HSZ8.out ?_); rfl; rfl; rfl)
        | ((with_reducible refine wpList_store_part ?_ 26 (.tmp 2) (.tmp 23) ?_ w.heap.size 0 (bv (dig h 8)) ?_ ?_ 26 _ HR4.out HSZ8.out HL.out (bv_one _) ?_); rfl; rfl; rfl; rfl; rw [HS.out]))
      rw [← dig_all h HH.out]
      refine bodyPost_ret (v := .agg (bv (dig h 8)).toArray) ?_ rfl ⟨rfl, HB'.out⟩
      exact results_cell_row rfl _ _ w.heap.size 26 _ (0, 0) (.array 32 5) rfl HR'.out Tryd.underlying26 rfl (by rw [List.size_toArray]; exact HSZ8.out)
end Go.Proofs.YtnbdpalbompjlaaDoor

/-
  What Of answers: the digest of all bytes, one text behind the other.
-/
namespace Go.Proofs.YtnbdpalbompjlaaDoor
open Go.RowKit
set_option maxRecDepth 10000

/-- The slice (ao, n) reads as these texts, in block b from off on. -/
structure StrAt (w : World) (B : Nat) (ao : Option Addr) (b off : Nat) (ss : List (List UInt8)) : Prop where
  addr : 0 < ss.length → ao = some ⟨b, off, none⟩
  lt : 0 < ss.length → b < B
  cells : ∀ j s, ss[j]? = some s → w.cell? ⟨b, off + j, none⟩ = some (.string ⟨s.toArray⟩)

theorem StrAt.keep {w w' : World} {B b off : Nat} {ao : Option Addr} {ss : List (List UInt8)} (h : StrAt w B ao b off ss) (hb : Below B w w') : StrAt w' B ao b off ss :=
  ⟨h.addr, h.lt, fun j x hj => by
    have hl : 0 < ss.length := by have := (List.getElem?_eq_some_iff.1 hj).1; omega
    exact (hb.cell (p := ⟨b, off + j, none⟩) (h.lt hl)).trans (h.cells j x hj)⟩
theorem StrAt.more {w : World} {B B' b off : Nat} {ao : Option Addr} {ss : List (List UInt8)} (h : StrAt w B ao b off ss) (hB : B ≤ B') : StrAt w B' ao b off ss :=
  ⟨h.addr, fun h0 => Nat.lt_of_lt_of_le (h.lt h0) hB, h.cells⟩

def zst : List Value := stc (List.replicate 8 0) (List.replicate 64 0) 0 0
def fst_ : List Value := stc firstL (List.replicate 64 0) 0 0

theorem Tryd.zero108 : (Tryd.prog.info? 108).map (fun i => (i.zero, i.size)) = some (some (.agg zst.toArray), 74) := by kernel_rfl
theorem Tryd.built108 : Tryd.prog.built 108 [(0, .agg (uv firstL).toArray)] = some fst_.toArray := by kernel_rfl

theorem wpList_build_eq {P : Program} {ops : Array Oper} {rest : List Oper} {o : Oper} {a : Act} {w : World} {Q : Exit → Act → World → Prop} (hgd : o.guard = none) (t : TypeId) (parts : Array (Nat × Operand)) (ho : o.op = .build t parts)
    (cells : Array Value) (hb : P.built t (parts.map fun (i, x) => (i, a.eval x)).toList = some cells) (h : wpList P ops Q rest (a.put o.dst (.agg cells)) w) : wpList P ops Q (o :: rest) a w :=
  wpList_build hgd t parts ho (by rw [hb]; rfl) (by rw [hb]; exact h)

def OfRel (w : World) (ss : List (List UInt8)) (x : Value) (wr : World) : Prop :=
  ∃ i : Nat, x = .int .i64 (i : Int) ∧ i ≤ ss.length ∧ St wr (w.heap.size + 1) (ss.take i).flatten ∧ (∃ z, z.length = 32 ∧ Blk wr w.heap.size 26 z) ∧ Below w.heap.size w wr

set_option maxHeartbeats 4000000 in
theorem of_any (w : World) (ao : Option Addr) (n cap b off : Nat) (ss : List (List UInt8)) (hT : Tabs w) (hn : ss.length = n) (hnn : n ≤ 100000) (hs : StrAt w w.heap.size ao b off ss) (hl : ∀ s ∈ ss, s.length ≤ 100000) :
    Calls Tryd.prog 52 #[.slice ao n cap] w fun e w' => e = .returned (.agg (bv (digest ss.flatten)).toArray) ∧ Below w.heap.size w w' := by
  have hz := (zero_of_info Tryd.zero108).1
  have HSF := Lib.hid (show (Tryd.prog.info? 93).map (·.size) = some (uv firstL).length from Tryd.size93)
  have hT1 : Tabs (w.alloc (.cells (Array.replicate 32 (.int .u8 0)) 26)) := hT.below ((Below.refl _ _).alloc hT.size _) (Nat.le_refl _)
  have HC1 := Lib.hid (show ∀ j v, (uv firstL)[j]? = some v → (w.alloc (.cells (Array.replicate 32 (.int .u8 0)) 26)).cell? ⟨0, 0 + j, none⟩ = some v from fun j v hj => by
    rw [uv, List.getElem?_map] at hj
    cases hx : firstL[j]? with
    | none => rw [hx] at hj; cases hj
    | some x => rw [hx] at hj; cases hj; rw [Nat.zero_add]; exact hT1.first j x hx)
  have hzb := Blk.new (w.alloc (.cells (Array.replicate 32 (.int .u8 0)) 26)) 108 zst.toArray
  simp only [World.size_alloc] at hzb
  have hrow := hzb.setRow fst_
  have hres := ((Blk.new w 26 (Array.replicate 32 (.int .u8 0))).alloc (.cells zst.toArray 108)).setRow_other fst_.toArray (show w.heap.size ≠ w.heap.size + 1 by omega)
  have hbel := below_setRow (((Below.refl w.heap.size w).alloc (Nat.le_refl _) (.cells (Array.replicate 32 (.int .u8 0)) 26)).alloc (by simp) (.cells zst.toArray 108)) (show w.heap.size ≤ w.heap.size + 1 by omega) fst_.toArray
  have HZB := Lib.hid hzb
  have HST := Lib.hid (show OfRel w ss (.int .i64 0) (((w.alloc (.cells (Array.replicate 32 (.int .u8 0)) 26)).alloc (.cells zst.toArray 108)).setRow (w.heap.size + 1) fst_.toArray) from
    ⟨0, rfl, Nat.zero_le _, ⟨firstL, List.replicate 64 0, hrow, StP.start _ rfl⟩, ⟨_, rfl, hres⟩, hbel⟩)
  have HS40 := Lib.hid (show (Tryd.prog.info? 108).map (·.size) = some fst_.length from (zero_of_info Tryd.zero108).2)
  have HL40 := Lib.hid (show 0 + fst_.length ≤ zst.length from Nat.le_refl _)
  have HO40 := Lib.hid (show ∀ v ∈ fst_, v.oneCell' = true from by decide +kernel)
  have HSP := Lib.hid (splice_all zst fst_ rfl)
  clear hzb hrow hres hbel
  have HT := Lib.hid hT
  have HN := Lib.hid hn
  have HS := Lib.hid hs
  have HL := Lib.hid hl
  clear hT hT1 hn hs hl
  go_enter Tryd.func52, Tryd.ntmps52
  go_wp2_with (first
    | ((with_reducible refine wpList_load_cells ?_ 93 (.global 0) ?_ 0 0 (uv firstL) ?_ 8 92 ?_ Tryd.underlying93 HSF.out ?_); rfl; rfl; rfl; exact HC1.out)
    | ((with_reducible refine wpList_build_eq ?_ 108 #[(0, .tmp 6)] ?_ fst_.toArray ?_ ?_); rfl; rfl; (simp only [List.map_toArray, List.map_cons, List.map_nil]; exact Tryd.built108))
    | ((with_reducible refine wpList_store_part ?_ 108 (.tmp 3) (.tmp 7) ?_ (w.heap.size + 1) 0 fst_ ?_ ?_ 108 zst ?_ HS40.out HL40.out HO40.out ?_); rfl; rfl; rfl; rfl; exact HZB.out; rw [HSP.out]; simp only [Act.put]))
  clear hz
  go_loopw [10] (fun x wr => OfRel w ss x wr) (fun x _ => n - intN x)
  case atStart => exact HST.out
  case round =>
    clear HST HZB HC1 HS40 HL40 HO40 HSP HSF
    obtain ⟨i, rfl, hi, hst, hres, hB⟩ := hrel
    by_cases hlt : i < n
    · have d0 : (i : Int) < (n : Int) := by omega
      have hsl : i < ss.length := by rw [HN.out]; exact hlt
      obtain ⟨s, hs⟩ : ∃ s, ss[i]? = some s := ⟨_, List.getElem?_eq_getElem hsl⟩
      obtain rfl := HS.out.addr (by omega)
      have q := (HS.out.keep hB).cells i s hs
      have hsm : s ∈ ss := List.mem_of_getElem? hs
      have HTK := Lib.hid (show (ss.take (i + 1)).flatten = (ss.take i).flatten ++ s by rw [List.take_add_one, hs]; simp)
      have HR := Lib.hid hres
      have HB := Lib.hid hB
      have HST := Lib.hid hst
      clear hres hB hst hs
      go_wp2_with fail
      refine (take_any wr (w.heap.size + 1) _ s (HT.out.below HB.out HT.out.size) (by have := HT.out.size; omega) HST.out (HL.out s hsm)).mono ?_
      rintro e w2 ⟨rfl, hs2, hk2⟩
      have HR2 := Lib.hid (show OfRel w ss (.int .i64 ((i : Int) + 1)) w2 from ⟨i + 1, by simp, hsl, by rw [HTK.out]; exact hs2, by
        obtain ⟨z, hz, hr⟩ := HR.out
        exact ⟨z, hz, hk2.blk hr (by omega)⟩, HB.out.trans (hk2.lower (by omega) HB.out.size)⟩)
      clear hs2 hk2
      go_wp2_with fail
      refine ⟨HR2.out, ?_⟩
      simp only [intN]
      omega
    · obtain rfl : i = n := by have := HN.out; omega
      have hfl : (ss.take i).flatten = ss.flatten := by rw [← HN.out, List.take_length]
      rw [hfl] at hst
      have HR := Lib.hid hres
      have HB := Lib.hid hB
      have HST := Lib.hid hst
      clear hres hB hst hfl
      go_wp2_with fail
      refine (finish_any wr (w.heap.size + 1) ss.flatten (HT.out.below HB.out HT.out.size) (by have := HT.out.size; omega) HST.out).mono ?_
      rintro e w2 ⟨rfl, hs2, hk2⟩
      obtain ⟨hh, blk, hs2⟩ := hs2
      have HS2 := Lib.hid hs2
      have HB2 := Lib.hid (HB.out.trans (hk2.lower (B := w.heap.size) (by omega) HB.out.size))
      have HR2 := Lib.hid (show ∃ z, z.length = 32 ∧ Blk w2 w.heap.size 26 z by
        obtain ⟨z, hz, hr⟩ := HR.out
        exact ⟨z, hz, hk2.blk hr (by omega)⟩)
      clear hs2 hk2 HR HB HST
      go_wp2_with fail
      refine (digest_any w2 (w.heap.size + 1) _ _ hh blk HS2.out.row HS2.out.ok.wlen).mono ?_
      rintro e w3 ⟨rfl, hb3⟩
      obtain ⟨z, hz, hr⟩ := HR2.out
      have hdg : hh.flatMap be4 = digest ss.flatten := by rw [digest, ← HS2.out.ok.words]
      rw [hdg]
      have hdl : (digest ss.flatten).length = 32 := by rw [← hdg, flat_length, HS2.out.ok.wlen]
      have hr3 := hr.below hb3 hr.lt
      have HR3 := Lib.hid hr3
      have HSZ := Lib.hid (show (Tryd.prog.info? 26).map (·.size) = some (bv (digest ss.flatten)).length by rw [bv_length, hdl]; exact Tryd.size26)
      have HL3 := Lib.hid (show 0 + (bv (digest ss.flatten)).length ≤ z.length by rw [bv_length]; omega)
      have HSP := Lib.hid (splice_all z (bv (digest ss.flatten)) (by rw [bv_length]; omega))
      have HR' := Lib.hid (hr3.setRow (bv (digest ss.flatten)))
      have HB' := Lib.hid (below_setRow (HB2.out.trans (hb3.mono HB2.out.size)) (Nat.le_refl w.heap.size) (bv (digest ss.flatten)).toArray)
      clear hr hr3 hz hb3 HR2 HS2 HB2 hdg hdl
      obtain ⟨D, hD⟩ : ∃ D, D = digest ss.flatten := ⟨_, rfl⟩
      rw [← hD] at HSZ HL3 HSP HR' HB' ⊢
      have HD := Lib.hid hD
      clear hD
      go_wp2_with ((with_reducible refine wpList_store_part ?_ 26 (.tmp 2) (.tmp 18) ?_ w.heap.size 0 (bv D) ?_ ?_ 26 z HR3.out HSZ.out HL3.out (bv_one _) ?_); rfl; rfl; rfl; rfl; rw [HSP.out])
      rw [← HD.out]
      refine bodyPost_ret (v := .agg (bv D).toArray) ?_ rfl ⟨rfl, HB'.out⟩
      exact results_cell_row rfl _ _ w.heap.size 26 _ (0, 0) (.array 32 5) rfl HR'.out Tryd.underlying26 rfl (by rw [List.size_toArray]; exact HSZ.out)
end Go.Proofs.YtnbdpalbompjlaaDoor
