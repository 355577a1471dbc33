/-
  What alive answers: true.
-/
import Derived.Test.YtacoaiaddnlnaaaDoorBytes
namespace Go.Proofs.YtacoaiaddnlnaaaDoor
open Go.RowKit

def alK : ByteArray := ⟨#[107]⟩
theorem al_stakes : Stakes [(5, alK)] := fun v hv => by
  simp at hv; subst hv; decide
theorem al_tot : totV (totFrom 0 [(5, alK)]) = .tuple #[.int .i64 5, .bool true] := rfl
theorem al_good : goodB (nums 1 4 1 1 1 1 1 1 1 1 1 1) [(5, alK)] = true := by decide
theorem al_bytes : (cfgB (nums 1 4 1 1 1 1 1 1 1 1 1 1) [(5, alK)]).length = 58 := by decide +kernel

/-- Twelve cells that are known whole. -/
theorem Blk.twelve {w : World} {g : Nat} {t : TypeId} {a0 a1 a2 a3 a4 a5 a6 a7 a8 a9 a10 a11 : Value} (h : Blk w g t [a0, a1, a2, a3, a4, a5, a6, a7, a8, a9, a10, a11]) :
    w.cell? ⟨g, 0, none⟩ = some a0 ∧ w.cell? ⟨g, 1, none⟩ = some a1 ∧ w.cell? ⟨g, 2, none⟩ = some a2 ∧ w.cell? ⟨g, 3, none⟩ = some a3 ∧ w.cell? ⟨g, 4, none⟩ = some a4 ∧ w.cell? ⟨g, 5, none⟩ = some a5 ∧ w.cell? ⟨g, 6, none⟩ = some a6 ∧ w.cell? ⟨g, 7, none⟩ = some a7 ∧ w.cell? ⟨g, 8, none⟩ = some a8 ∧ w.cell? ⟨g, 9, none⟩ = some a9 ∧ w.cell? ⟨g, 10, none⟩ = some a10 ∧ w.cell? ⟨g, 11, none⟩ = some a11 :=
  ⟨h.cell 0, h.cell 1, h.cell 2, h.cell 3, h.cell 4, h.cell 5, h.cell 6, h.cell 7, h.cell 8, h.cell 9, h.cell 10, h.cell 11⟩

set_option maxHeartbeats 2000000 in
theorem alive_any (w : World) : Calls Tryd.prog 4 #[] w fun e w' => e = .returned (.bool true) ∧ Below w.heap.size w w' := by
  go_enter Tryd.func4, Tryd.ntmps4
  go_wp2_with fail
  have hB1 := (Below.refl w.heap.size w).alloc (Nat.le_refl _) (.cells #[.int .i64 5, .string ⟨#[107]⟩] 34)
  have hk1 := Blk.new w 34 #[.int .i64 5, .string ⟨#[107]⟩]
  have hs1 : Lies (w.alloc (.cells #[.int .i64 5, .string ⟨#[107]⟩] 34)) (w.alloc (.cells #[.int .i64 5, .string ⟨#[107]⟩] 34)).heap.size (some ⟨w.heap.size, 0, none⟩) w.heap.size 0 (vc [(5, ⟨#[107]⟩)]) :=
    ⟨fun _ => rfl, fun _ => hk1.lt, fun j u hj => by rw [Nat.zero_add]; exact (hk1.cell j).trans hj⟩
  have hz : (w.alloc (.cells #[.int .i64 5, .string ⟨#[107]⟩] 34)).heap.size = w.heap.size + 1 := by simp
  rw [← hz]
  generalize w.alloc (.cells #[.int .i64 5, .string ⟨#[107]⟩] 34) = w1 at hB1 hs1 ⊢
  have hB2 := hB1.alloc hB1.size (.cells #[.slice (some ⟨w.heap.size, 0, none⟩) 1 1, .int .i64 4, .int .i64 1, .int .i64 1, .int .i64 1, .int .i64 1, .int .i64 1, .int .i64 1, .int .i64 1, .int .i64 1, .int .i64 1, .int .i64 1] 24)
  have hk2 := Blk.new w1 24 #[.slice (some ⟨w.heap.size, 0, none⟩) 1 1, .int .i64 4, .int .i64 1, .int .i64 1, .int .i64 1, .int .i64 1, .int .i64 1, .int .i64 1, .int .i64 1, .int .i64 1, .int .i64 1, .int .i64 1]
  have hs2 := hs1.below ((Below.refl _ _).alloc (Nat.le_refl _) (.cells #[.slice (some ⟨w.heap.size, 0, none⟩) 1 1, .int .i64 4, .int .i64 1, .int .i64 1, .int .i64 1, .int .i64 1, .int .i64 1, .int .i64 1, .int .i64 1, .int .i64 1, .int .i64 1, .int .i64 1] 24))
  generalize w1.alloc (.cells #[.slice (some ⟨w.heap.size, 0, none⟩) 1 1, .int .i64 4, .int .i64 1, .int .i64 1, .int .i64 1, .int .i64 1, .int .i64 1, .int .i64 1, .int .i64 1, .int .i64 1, .int .i64 1, .int .i64 1] 24) = w2 at hB2 hs2 hk2 ⊢
  have HS := Lib.hid hs2
  have HK := Lib.hid hk2
  have HB := Lib.hid hB2
  generalize w.heap.size = G at HS HK ⊢
  generalize w1.heap.size = A at HK ⊢
  clear hB1 hk1 hs1 hz hB2 hk2 hs2
  refine (total_any w2 _ 1 1 G 0 _ rfl (by omega) al_stakes HS.out).mono ?_
  rintro e w3 ⟨rfl, hb3⟩
  rw [al_tot]
  have HS3 := Lib.hid (HS.out.below hb3)
  have HK3 := Lib.hid (HK.out.below hb3 HK.out.lt)
  have HB3 := Lib.hid (HB.out.trans (hb3.mono HB.out.size))
  obtain ⟨q0, q1, q2, q3, q4, q5, q6, q7, q8, q9, q10, q11⟩ := HK3.out.twelve
  clear hb3 HS HK HB
  go_wp2_with fail
  refine (good_any w3 _ 1 1 G 0 4 1 1 1 1 1 1 1 1 1 1 _ rfl (by omega) al_stakes HS3.out).mono ?_
  rintro e w4 ⟨rfl, hb4⟩
  rw [al_good]
  have HS4 := Lib.hid (HS3.out.below hb4)
  have HK4 := Lib.hid (HK3.out.below hb4 HK3.out.lt)
  have HB4 := Lib.hid (HB3.out.trans (hb4.mono HB3.out.size))
  clear q0 q1 q2 q3 q4 q5 q6 q7 q8 q9 q10 q11 hb4 HS3 HK3 HB3
  obtain ⟨q0, q1, q2, q3, q4, q5, q6, q7, q8, q9, q10, q11⟩ := HK4.out.twelve
  go_wp2_with fail
  refine (epoch_any w4 _ 1 1 4 1 1 1 1 1 1 1 1 1 1 7 (by omega) (by omega) (by omega)).mono ?_
  rintro e w5 ⟨rfl, hb5⟩
  have HS5 := Lib.hid (HS4.out.below hb5)
  have HK5 := Lib.hid (HK4.out.below hb5 HK4.out.lt)
  have HB5 := Lib.hid (HB4.out.trans (hb5.mono HB4.out.size))
  clear q0 q1 q2 q3 q4 q5 q6 q7 q8 q9 q10 q11 hb5 HS4 HK4 HB4
  obtain ⟨q0, q1, q2, q3, q4, q5, q6, q7, q8, q9, q10, q11⟩ := HK5.out.twelve
  go_wp2_with fail
  refine (bytes_any w5 _ 1 1 G 0 4 1 1 1 1 1 1 1 1 1 1 _ rfl al_stakes al_good HS5.out).mono ?_
  rintro e w6 ⟨rfl, hb6⟩
  have hz : (cfgB (nums 1 4 1 1 1 1 1 1 1 1 1 1) [(5, alK)]).length = 58 := al_bytes
  generalize cfgB (nums 1 4 1 1 1 1 1 1 1 1 1 1) [(5, alK)] = Z at hz ⊢
  have HB6 := Lib.hid (HB5.out.trans (hb6.mono HB5.out.size))
  clear q0 q1 q2 q3 q4 q5 q6 q7 q8 q9 q10 q11 hb6 HS5 HK5 HB5
  go_wp2_with fail
  go_ret
  exact ⟨rfl, HB6.out⟩
end Go.Proofs.YtacoaiaddnlnaaaDoor
