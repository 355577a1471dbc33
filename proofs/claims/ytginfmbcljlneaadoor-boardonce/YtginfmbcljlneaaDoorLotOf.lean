/-
  What board.digestOf answers: the digest of a validator in a slot.
-/
import Derived.Test.YtginfmbcljlneaaDoorLots
import Derived.Test.YtginfmbcljlneaaDoorPut
import Derived.Test.YtginfmbcljlneaaDoorStrs
namespace Go.Proofs.YtginfmbcljlneaaDoor
open Go.RowKit

/-- Two texts that were just built. -/
theorem strs_two (w : World) (s t : List UInt8) : StrAt (w.alloc (.cells #[.string ⟨s.toArray⟩, .string ⟨t.toArray⟩] 9)) (w.alloc (.cells #[.string ⟨s.toArray⟩, .string ⟨t.toArray⟩] 9)).heap.size (some ⟨w.heap.size, 0, none⟩) w.heap.size 0 [s, t] := by
  have h := Blk.new w 9 #[.string ⟨s.toArray⟩, .string ⟨t.toArray⟩]
  refine ⟨fun _ => rfl, fun _ => h.lt, fun j x hj => ?_⟩
  rw [Nat.zero_add, h.cell j]
  match j, hj with
  | 0, hj => simp at hj; subst hj; rfl
  | 1, hj => simp at hj; subst hj; rfl
  | _ + 2, hj => simp at hj

set_option maxHeartbeats 4000000 in
theorem digestOf_any (w : World) (hT : Tabs w) (slot who : Nat) (h1 : slot ≤ 1073741824) (h2 : who ≤ 1000000) :
    Calls Tryd.prog 31 #[.int .i64 slot, .int .i64 who] w fun e w' => e = .returned (.agg (bv (lotD slot who)).toArray) ∧ Below w.heap.size w w' := by
  have HB0 := Lib.hid ((Below.refl w.heap.size w).alloc (Nat.le_refl _) (.cells (Array.replicate 32 (.int .u8 0)) 47))
  have HR0 := Lib.hid (Blk.new w 47 (Array.replicate 32 (.int .u8 0)))
  have hu1 : IntKind.u64.wrap (slot : Int) = (slot : Int) := by rw [IntKind.wrap_u64]; omega
  have hu2 : IntKind.u64.wrap (who : Int) = (who : Int) := by rw [IntKind.wrap_u64]; omega
  go_enter Tryd.func31, Tryd.ntmps31
  go_wp2_with fail
  have hrep : (Array.replicate 32 (Value.int .u8 0)) = #[.int .u8 0, .int .u8 0, .int .u8 0, .int .u8 0, .int .u8 0, .int .u8 0, .int .u8 0, .int .u8 0, .int .u8 0, .int .u8 0, .int .u8 0, .int .u8 0, .int .u8 0, .int .u8 0, .int .u8 0, .int .u8 0, .int .u8 0, .int .u8 0, .int .u8 0, .int .u8 0, .int .u8 0, .int .u8 0, .int .u8 0, .int .u8 0, .int .u8 0, .int .u8 0, .int .u8 0, .int .u8 0, .int .u8 0, .int .u8 0, .int .u8 0, .int .u8 0] := rfl
  rw [← hrep]
  generalize w.alloc (.cells (Array.replicate 32 (.int .u8 0)) 47) = w1 at HB0 HR0 ⊢
  have hwR : w.heap.size ≤ w.heap.size := Nat.le_refl _
  obtain ⟨R, hR⟩ : ∃ R, R = w.heap.size := ⟨_, rfl⟩
  rw [← hR] at HR0 ⊢
  have hwR : w.heap.size ≤ R := by omega
  clear hrep hR
  refine (put_mid w1 w1.heap.size (.slice none 0 0) [] slot 4 (by omega) (by omega) (Held.nil _ _) (Nat.le_refl _) (by simp)).mono ?_
  rintro e w2 ⟨v2, rfl, hh2, hg2⟩
  have HB2 := Lib.hid (hg2.below (Held.nil w1 w1.heap.size) (Nat.le_refl _))
  rw [List.nil_append] at hh2
  have HH2 := Lib.hid hh2
  clear hh2 hg2
  go_wp2_with fail
  refine (put_mid w2 w1.heap.size v2 (leB slot 4) who 2 (by omega) (by omega) HH2.out HB2.out.size (by rw [leB_length]; omega)).mono ?_
  rintro e w3 ⟨v3, rfl, hh3, hg3⟩
  have HB3 := Lib.hid (HB2.out.trans (hg3.below HH2.out HB2.out.size))
  have hs3 := hh3.string (P := Tryd.prog) 60 9 5 Tryd.underlying60 Tryd.underlying5 Tryd.underlying9
  have HR3 := Lib.hid (HR0.out.below HB3.out HR0.out.lt)
  have HBF := Lib.hid (HB0.out.trans (HB3.out.mono HB0.out.size))
  obtain ⟨B, hBB⟩ : ∃ B, B = leB slot 4 ++ leB who 2 := ⟨_, rfl⟩
  rw [← hBB] at hs3
  have HBB := Lib.hid hBB
  clear hh3 hg3 HB3 HB2 HH2 HR0 HB0 hBB
  go_wp2_with fail
  have hb := (Below.refl w3.heap.size w3).alloc (Nat.le_refl _) (.cells #[.string ⟨boardB.toArray⟩, .string ⟨B.toArray⟩] 9)
  have HR4 := Lib.hid (HR3.out.below hb HR3.out.lt)
  have HB4 := Lib.hid (HBF.out.trans (hb.mono HBF.out.size))
  refine (of_any _ _ 2 2 w3.heap.size 0 [boardB, B] (hT.below HB4.out hT.size) rfl (by omega) (strs_two w3 boardB B) (by rw [HBB.out]; simp [boardB, leB_length])).mono ?_
  rintro e w5 ⟨rfl, hb5⟩
  obtain ⟨D, hD⟩ : ∃ D, D = lotD slot who := ⟨_, rfl⟩
  have hDe : digest [boardB, B].flatten = D := by rw [hD, HBB.out, lotD, lotB]; simp
  rw [hDe]
  have hdl : D.length = 32 := by rw [hD]; exact lotD_length _ _
  have hr := HR4.out.below hb5 HR4.out.lt
  have HB5 := HB4.out.trans (hb5.mono HB4.out.size)
  have HR5 := Lib.hid hr
  have HSZ := Lib.hid (show (Tryd.prog.info? 47).map (·.size) = some (bv D).length by rw [bv_length, hdl]; exact Tryd.size47)
  have HLE := Lib.hid (show 0 + (bv D).length ≤ (Array.replicate 32 (Value.int .u8 0)).toList.length by rw [bv_length, hdl]; simp)
  have HSP := Lib.hid (splice_all (Array.replicate 32 (Value.int .u8 0)).toList (bv D) (by rw [bv_length, hdl]; simp))
  have HR6 := Lib.hid (hr.setRow (bv D))
  have HB6 := Lib.hid (below_setRow HB5 hwR (bv D).toArray)
  have HD := Lib.hid hD
  clear hr hdl hD hDe hb5 HR4 HB4 HB5 hs3
  go_wp2_with ((with_reducible refine wpList_store_part ?_ 47 (.tmp 4) (.tmp 16) ?_ R 0 (bv D) ?_ ?_ 47 _ HR5.out HSZ.out HLE.out (bv_one _) ?_); rfl; rfl; rfl; rfl; rw [HSP.out])
  rw [← HD.out]
  refine bodyPost_ret (v := .agg (bv D).toArray) ?_ rfl ⟨rfl, HB6.out⟩
  exact results_cell_row rfl _ _ R 47 _ (0, 0) (.array 32 5) rfl HR6.out Tryd.underlying47 rfl (by rw [List.size_toArray]; exact HSZ.out)
end Go.Proofs.YtginfmbcljlneaaDoor
