/-
  What digest answers.
-/
import Derived.Test.YtickcajihaejkaaDoorFinish
namespace Go.Proofs.YtickcajihaejkaaDoor
open Go.RowKit

theorem Tryd.size23 : (Tryd.prog.info? 23).map (·.size) = some 32 := by kernel_rfl

/-- The bytes of the first i words, and noughts. -/
def dig (h : List Nat) (i : Nat) : List UInt8 := (h.take i).flatMap be4 ++ List.replicate (32 - 4 * i) 0

theorem flat_length (h : List Nat) : (h.flatMap be4).length = 4 * h.length := by
  induction h with
  | nil => rfl
  | cons a t ih => simp [List.flatMap_cons, ih, be4_length]; omega
theorem dig_length (h : List Nat) (i : Nat) (hh : h.length = 8) (hi : i ≤ 8) : (dig h i).length = 32 := by
  rw [dig, List.length_append, flat_length, List.length_take, List.length_replicate]; omega
theorem dig_all (h : List Nat) (hh : h.length = 8) : dig h 8 = h.flatMap be4 := by
  rw [dig, List.take_of_length_le (by omega)]; simp
theorem dig_next (h : List Nat) (i : Nat) (hh : h.length = 8) (hi : i < 8) : splice (dig h i) (i * 4) (be4 (h.getD i 0)) = dig h (i + 1) := by
  have hl : ((h.take i).flatMap be4).length = i * 4 := by rw [flat_length, List.length_take]; omega
  have ht : (h.take (i + 1)).flatMap be4 = (h.take i).flatMap be4 ++ be4 (h.getD i 0) := by
    rw [List.take_add_one, getD_some h i (x := 0) (by omega)]
    simp
  have h1 : (dig h i).take (i * 4) = (h.take i).flatMap be4 := by
    rw [dig, List.take_append_of_le_length (by omega), List.take_of_length_le (by omega)]
  have h2 : (dig h i).drop (i * 4 + 4) = List.replicate (32 - 4 * (i + 1)) 0 := by
    rw [dig, List.drop_append, List.drop_of_length_le (by omega), List.nil_append, hl, List.drop_replicate]
    congr 1
    omega
  rw [splice, h1, be4_length, h2, dig, ht, List.append_assoc]

theorem run_index_agg {P : Program} (w : World) (t e : TypeId) (n : Nat) (k : IntKind) (cs : Array Value) (i : Nat) (v : Value) (hu : P.underlying t = some (.array n e)) (hs : (P.info? e).map (·.size) = some 1) (he : P.underlying e = some (.int k)) (hi : i < n) (hv : cs[i]? = some v) :
    (Instr.index t (.agg cs) (.int .i64 (i : Int))).run P w = .ok v w := by
  have hni : ¬ n ≤ i := by omega
  cases hq : P.info? e with
  | none => simp [hq] at hs
  | some ie =>
    have hz : ie.size = 1 := by simpa [hq] using hs
    simp [Instr.index, asIntOf, run_underlying hu, hni, sizeOf, typeInfo, hq, hz, part, isAgg, run_underlying he, hv]

structure DigIn (w : World) (h : List Nat) (i : Nat) (wr : World) : Prop where
  row : Blk wr (w.heap.size + 1) 23 (bv (dig h i))
  res : ∃ z, z.length = 32 ∧ Blk wr w.heap.size 23 z
  hB : Below w.heap.size w wr

theorem DigIn.below {w wr w' : World} {h : List Nat} {i : Nat} (d : DigIn w h i wr) (hb : Below wr.heap.size wr w') : DigIn w h i w' :=
  ⟨d.row.below hb d.row.lt, by
    obtain ⟨z, hz, hr⟩ := d.res
    exact ⟨z, hz, hr.below hb hr.lt⟩, d.hB.trans (hb.mono d.hB.size)⟩
theorem DigIn.drewN {w wr : World} {h : List Nat} {i : Nat} (d : DigIn w h i wr) (k : Nat) : DigIn w h i (wr.drewN k) := d.below (below_drewN' (Below.refl _ _) k)
theorem DigIn.row' {w wr w' : World} {h : List Nat} {i j : Nat} (d : DigIn w h i wr) (hg : Blk w' (w.heap.size + 1) 23 (bv (dig h j))) (hb : Below (w.heap.size + 1) wr w') : DigIn w h j w' :=
  ⟨hg, by
    obtain ⟨z, hz, hr⟩ := d.res
    exact ⟨z, hz, hr.below hb (by omega)⟩, d.hB.trans (hb.mono (by omega))⟩
theorem bv_splice (l cs : List UInt8) (k : Nat) : splice (bv l) k (bv cs) = bv (splice l k cs) := by
  simp [splice, bv, List.map_take, List.map_drop]

theorem slice32_at (w : World) (g i : Nat) (hi : i < 8) : (Instr.sliceAt 23 (.pointer (some ⟨g, 0, none⟩)) (some (.int .i64 ((i : Int) * 4))) none none).run Tryd.prog w = .ok (.slice (some ⟨g, i * 4, none⟩) (32 - i * 4) (32 - i * 4)) w := by
  have h := run_sliceAt_array_l (P := Tryd.prog) w 23 ⟨g, 0, none⟩ (by kernel_rfl) .i64 ((i : Int) * 4) (by omega) (by
    have : Tryd.prog.arrayLen 23 = 32 := by kernel_rfl
    omega)
  rw [h, show Tryd.prog.arrayLen 23 = 32 by kernel_rfl, show Tryd.prog.elem 23 = 5 by kernel_rfl, sizeOf5]
  have e : ((i : Int) * 4).toNat = i * 4 := by omega
  simp only [Result.andThen_ok, slicedAt, e, Nat.mul_one]
  rw [if_neg (by omega), Addr.add_lit, Nat.zero_add]

def DigRel (w : World) (h : List Nat) (x : Value) (wr : World) : Prop := ∃ i : Nat, x = .int .i64 (i : Int) ∧ i ≤ 8 ∧ DigIn w h i wr

set_option maxHeartbeats 4000000 in
theorem digest_any (w : World) (g n m : Nat) (h : List Nat) (blk : List UInt8) (hs : Blk w g 62 (stc h blk n m)) (hh : h.length = 8) :
    Calls Tryd.prog 34 #[.pointer (some ⟨g, 0, none⟩)] w fun e w' => e = .returned (.agg (bv (h.flatMap be4)).toArray) ∧ Below w.heap.size w w' := by
  have HH := Lib.hid hh
  have HSZ := Lib.hid (show (Tryd.prog.info? 59).map (·.size) = some (uv h).length by rw [uv_length, hh]; exact Tryd.size59)
  have HC := Lib.hid (show ∀ j v, (uv h)[j]? = some v → ((w.alloc (.cells (Array.replicate 32 (.int .u8 0)) 23)).alloc (.cells (Array.replicate 32 (.int .u8 0)) 23)).cell? ⟨g, 0 + j, none⟩ = some v from fun j v hj => by
    rw [((hs.alloc _).alloc _).cell]; exact stc_words j v hj)
  clear hs hh
  go_enter Tryd.func34, Tryd.ntmps34
  go_wp2_with ((with_reducible refine wpList_load_cells ?_ 59 (.tmp 9) ?_ g 0 (uv h) ?_ 8 58 ?_ Tryd.underlying59 HSZ.out ?_); rfl; rfl; rfl; exact HC.out)
  go_loopw [11] (fun x wr => DigRel w h x wr) (fun x _ => 8 - intN x)
  case atStart =>
    refine ⟨0, rfl, by omega, ?_, ⟨Array.toList (Array.replicate 32 (.int .u8 0)), rfl, ?_⟩, ((Below.refl _ _).alloc (Nat.le_refl _) _).alloc (by simp) _⟩
    · have h1 := Blk.new (w.alloc (.cells (Array.replicate 32 (.int .u8 0)) 23)) 23 (Array.replicate 32 (.int .u8 0))
      simp only [World.size_alloc] at h1
      exact h1
    · exact (Blk.new w 23 (Array.replicate 32 (.int .u8 0))).alloc _
  case round =>
    obtain ⟨i, rfl, hi, hR⟩ := hrel
    by_cases hlt : i < 8
    · have d0 : (i : Int) < 8 := by omega
      obtain ⟨x, hx⟩ : ∃ x, x = h.getD i 0 := ⟨_, rfl⟩
      have hix : (Instr.index 59 (.agg (uv h).toArray) (.int .i64 (i : Int))).run Tryd.prog wr = .ok (.int .u32 (x : Int)) wr :=
        run_index_agg wr 59 58 8 .u32 _ i _ Tryd.underlying59 Tryd.size58 Tryd.underlying58 hlt (by rw [List.getElem?_toArray, hx]; exact uv_at (getD_some h i (by rw [HH.out]; exact hlt)))
      have HX := Lib.hid hx
      have HR := Lib.hid hR
      clear hx hR HC
      go_wp2_with fail
      refine (bytesOf_any wr x).mono ?_
      rintro e w3 ⟨rfl, hb3⟩
      have hR3 := HR.out.below hb3
      clear HR hix
      have hbA := Blk.new w3 77 #[.int .u8 0, .int .u8 0, .int .u8 0, .int .u8 0]
      have hbA' := hbA.setRow (bv (be4 x))
      have HBA := Lib.hid hbA
      have HR4 := Lib.hid (hR3.below (below_setRow (((Below.refl _ _).alloc (Nat.le_refl _) (.cells #[.int .u8 0, .int .u8 0, .int .u8 0, .int .u8 0] 77))) (Nat.le_refl w3.heap.size) (bv (be4 x)).toArray))
      have HB4 := Lib.hid hbA'
      have HZ1 := Lib.hid (show (Tryd.prog.info? 77).map (·.size) = some (bv (be4 x)).length from Tryd.size77)
      have HP1 := Lib.hid (splice_all [Value.int .u8 0, .int .u8 0, .int .u8 0, .int .u8 0] (bv (be4 x)) rfl)
      have HL1 := Lib.hid (show 0 + (bv (be4 x)).length ≤ [Value.int .u8 0, .int .u8 0, .int .u8 0, .int .u8 0].length from Nat.le_refl _)
      have HG := Lib.hid (show w.heap.size + 1 < w3.heap.size from hR3.row.lt)
      clear hbA hbA' hb3 hR3
      go_wp2_with ((with_reducible refine wpList_store_part ?_ 77 (.tmp 6) (.tmp 16) ?_ w3.heap.size 0 (bv (be4 x)) ?_ ?_ 77 _ HBA.out HZ1.out HL1.out (bv_one _) ?_); rfl; rfl; rfl; rfl; rw [HP1.out])
      simp only [Act.put]
      generalize (w3.alloc (.cells #[.int .u8 0, .int .u8 0, .int .u8 0, .int .u8 0] 77)).setRow w3.heap.size (bv (be4 x)).toArray = w4 at HR4 HB4 ⊢
      have hsl := fun w' => slice32_at w' (w.heap.size + 1) i hlt
      refine wp_region_draws_tail 4 (by kernel_rfl) (by kernel_rfl) ?_
      simp only [List.take_succ_cons, List.take_zero, List.drop_succ_cons, List.drop_zero]
      repeat (go_big_quiet_step (fail))
      refine wpQuiet_nil ?_
      rintro _ ⟨nq, rfl⟩
      have hR5 := HR4.out.drewN nq
      have hB5 := HB4.out.drewN nq
      generalize w4.drewN nq = w5 at hR5 hB5 ⊢
      have hdl := dig_length h i HH.out hi
      refine wpList_copy_splice rfl (.tmp 19) (.tmp 20) 40 40 rfl 5 Tryd.underlying40 Tryd.size5 _ _ (32 - i * 4) (32 - i * 4) 4 4 rfl rfl (w.heap.size + 1) (i * 4) (bv (dig h i)) 23 hR5.row (bv (be4 x)) ?_ (fun _ => ⟨rfl, ⟨w3.heap.size, 0, none⟩, rfl, ?_⟩) ?_ (bv_one _) (w.heap.size + 1) w5 (Below.refl _ _) (Nat.le_refl _) ?_
      · show 4 = min 4 (32 - i * 4)
        omega
      · intro j v hj
        rw [Addr.add_lit, Nat.zero_add, hB5.cell]; exact hj
      · rw [bv_length, bv_length, be4_length, hdl]; omega
      intro w6 HG6 hB6
      have hR6 : DigIn w h (i + 1) w6 := hR5.row' (by
        have h6 := HG6.out
        rw [bv_splice, HX.out, dig_next h i HH.out hlt] at h6
        exact h6) hB6
      have HR6 := Lib.hid hR6
      clear hR6 hR5 hB5 HG6 hB6 hsl HR4 HB4
      go_wp2_with fail
      refine ⟨⟨i + 1, by simp, by omega, HR6.out⟩, ?_⟩
      simp only [intN]
      omega
    · obtain rfl : i = 8 := by omega
      obtain ⟨z, hz, hz2⟩ := hR.res
      have hdl := dig_length h 8 HH.out (Nat.le_refl _)
      have HC8 := Lib.hid hR.row.cells
      have HR4 := Lib.hid hz2
      have HSZ8 := Lib.hid (show (Tryd.prog.info? 23).map (·.size) = some (bv (dig h 8)).length by rw [bv_length, hdl]; exact Tryd.size23)
      have HL := Lib.hid (show 0 + (bv (dig h 8)).length ≤ z.length by rw [bv_length]; omega)
      have HS := Lib.hid (splice_all z (bv (dig h 8)) (by rw [bv_length]; omega))
      have HR' := Lib.hid (hz2.setRow (bv (dig h 8)))
      have HB' := Lib.hid (below_setRow hR.hB (show w.heap.size ≤ w.heap.size by omega) (bv (dig h 8)).toArray)
      clear hR hz2 hz HC hdl
      go_wp2_with (first
        | ((with_reducible refine wpList_load_cells ?_ 23 (.tmp 3) ?_ _ 0 _ ?_ 32 5 HC8.out Tryd.underlying23 HSZ8.out ?_); rfl; rfl; rfl)
        | ((with_reducible refine wpList_store_part ?_ 23 (.tmp 2) (.tmp 23) ?_ w.heap.size 0 (bv (dig h 8)) ?_ ?_ 23 _ HR4.out HSZ8.out HL.out (bv_one _) ?_); rfl; rfl; rfl; rfl; rw [HS.out]))
      rw [← dig_all h HH.out]
      refine bodyPost_ret (v := .agg (bv (dig h 8)).toArray) ?_ rfl ⟨rfl, HB'.out⟩
      exact results_cell_row rfl _ _ w.heap.size 23 _ (0, 0) (.array 32 5) rfl HR'.out Tryd.underlying23 rfl (by rw [List.size_toArray]; exact HSZ8.out)
end Go.Proofs.YtickcajihaejkaaDoor
