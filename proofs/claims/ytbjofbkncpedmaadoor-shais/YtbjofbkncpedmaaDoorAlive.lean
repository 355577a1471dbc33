/-
  What alive answers: true.
-/
import Derived.Test.YtbjofbkncpedmaaDoorShow
namespace Go.Proofs.YtbjofbkncpedmaaDoor
open Go.RowKit

theorem digest_length (bs : List UInt8) : (digest bs).length = 32 := by
  rw [digest, flat_length, runN_length _ _ rfl]

theorem string_same (l r : List UInt8) : ((ByteArray.mk l.toArray).toList == (ByteArray.mk r.toArray).toList) = (l == r) := by
  rw [ByteArray.toList_eq, ByteArray.toList_eq]

set_option maxHeartbeats 1000000 in
theorem alive_any (w : World) (hT : Tabs w) : Calls Tryd.prog 8 #[] w fun e w' => e = .returned (.bool true) ∧ Below w.heap.size w w' := by
  have hst : StrAt (w.alloc (.cells #[.string ⟨#[97]⟩, .string ⟨#[98, 99]⟩] 9)) (w.alloc (.cells #[.string ⟨#[97]⟩, .string ⟨#[98, 99]⟩] 9)).heap.size (some ⟨w.heap.size, 0, none⟩) w.heap.size 0 [[97], [98, 99]] := by
    refine ⟨fun _ => rfl, fun _ => by simp, fun j s hj => ?_⟩
    have hb := Blk.new w 9 #[.string ⟨#[97]⟩, .string ⟨#[98, 99]⟩]
    rw [Nat.zero_add, hb.cell]
    match j, hj with
    | 0, hj => simp at hj; subst hj; rfl
    | 1, hj => simp at hj; subst hj; rfl
  have hT1 : Tabs (w.alloc (.cells #[.string ⟨#[97]⟩, .string ⟨#[98, 99]⟩] 9)) := hT.below ((Below.refl _ _).alloc hT.size _) (Nat.le_refl _)
  have HB1 := Lib.hid (show Below w.heap.size w (w.alloc (.cells #[.string ⟨#[97]⟩, .string ⟨#[98, 99]⟩] 9)) from (Below.refl _ _).alloc (Nat.le_refl _) _)
  have HS := Lib.hid hst
  have HT := Lib.hid hT1
  clear hst hT1 hT
  go_enter Tryd.func8, Tryd.ntmps8
  go_wp2_with fail
  refine (of_any _ _ 2 2 w.heap.size 0 [[97], [98, 99]] HT.out rfl (by omega) HS.out (by simp)).mono ?_
  rintro e w2 ⟨rfl, hb2⟩
  have HB2 := Lib.hid (HB1.out.trans (hb2.mono HB1.out.size))
  clear hb2 HS HT HB1
  obtain ⟨D, hD⟩ : ∃ D, D = digest [[97], [98, 99]].flatten := ⟨_, rfl⟩
  rw [← hD]
  have hl : D.length = 32 := by rw [hD]; exact digest_length _
  have hsh : show_ D = abcShown := by rw [hD]; exact abc_shown
  have HSH := Lib.hid hsh
  have HL := Lib.hid hl
  clear hD hsh hl
  go_wp2_with fail
  refine (show_any w2 D HL.out).mono ?_
  rintro e w3 ⟨rfl, hb3⟩
  have HB3 := Lib.hid (HB2.out.trans (hb3.mono HB2.out.size))
  clear hb3
  rw [HSH.out]
  go_wp2_with fail
  go_ret
  exact ⟨rfl, HB3.out⟩
end Go.Proofs.YtbjofbkncpedmaaDoor
