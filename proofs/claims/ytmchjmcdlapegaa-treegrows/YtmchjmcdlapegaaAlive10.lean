/-
  alive: a tree of two.
-/
import Derived.Test.YtmchjmcdlapegaaRefKids
namespace Go.Proofs.Ytmchjmcdlapegaa
open Go Go.RowKit
set_option maxRecDepth 10000

theorem two_zeros (w : World) : Blk ((w.alloc (.cells #[.int .u8 0, .int .u8 0, .int .u8 0, .int .u8 0, .int .u8 0, .int .u8 0, .int .u8 0, .int .u8 0, .int .u8 0, .int .u8 0, .int .u8 0, .int .u8 0, .int .u8 0, .int .u8 0, .int .u8 0, .int .u8 0, .int .u8 0, .int .u8 0, .int .u8 0, .int .u8 0, .int .u8 0, .int .u8 0, .int .u8 0, .int .u8 0, .int .u8 0, .int .u8 0, .int .u8 0, .int .u8 0, .int .u8 0, .int .u8 0, .int .u8 0, .int .u8 0] 23)).alloc (.cells #[.int .u8 0, .int .u8 0, .int .u8 0, .int .u8 0, .int .u8 0, .int .u8 0, .int .u8 0, .int .u8 0, .int .u8 0, .int .u8 0, .int .u8 0, .int .u8 0, .int .u8 0, .int .u8 0, .int .u8 0, .int .u8 0, .int .u8 0, .int .u8 0, .int .u8 0, .int .u8 0, .int .u8 0, .int .u8 0, .int .u8 0, .int .u8 0, .int .u8 0, .int .u8 0, .int .u8 0, .int .u8 0, .int .u8 0, .int .u8 0, .int .u8 0, .int .u8 0] 23)) w.heap.size 23 (bv zero32) := (blk_zeroR w).alloc _
theorem two_zeros2 (w : World) (r : List UInt8) : Blk (((w.alloc (.cells #[.int .u8 0, .int .u8 0, .int .u8 0, .int .u8 0, .int .u8 0, .int .u8 0, .int .u8 0, .int .u8 0, .int .u8 0, .int .u8 0, .int .u8 0, .int .u8 0, .int .u8 0, .int .u8 0, .int .u8 0, .int .u8 0, .int .u8 0, .int .u8 0, .int .u8 0, .int .u8 0, .int .u8 0, .int .u8 0, .int .u8 0, .int .u8 0, .int .u8 0, .int .u8 0, .int .u8 0, .int .u8 0, .int .u8 0, .int .u8 0, .int .u8 0, .int .u8 0] 23)).alloc (.cells #[.int .u8 0, .int .u8 0, .int .u8 0, .int .u8 0, .int .u8 0, .int .u8 0, .int .u8 0, .int .u8 0, .int .u8 0, .int .u8 0, .int .u8 0, .int .u8 0, .int .u8 0, .int .u8 0, .int .u8 0, .int .u8 0, .int .u8 0, .int .u8 0, .int .u8 0, .int .u8 0, .int .u8 0, .int .u8 0, .int .u8 0, .int .u8 0, .int .u8 0, .int .u8 0, .int .u8 0, .int .u8 0, .int .u8 0, .int .u8 0, .int .u8 0, .int .u8 0] 23)).setRow w.heap.size (bv r).toArray) (w.heap.size + 1) 23 (bv zero32) := by
  have h := blk_zeroR (w.alloc (.cells #[.int .u8 0, .int .u8 0, .int .u8 0, .int .u8 0, .int .u8 0, .int .u8 0, .int .u8 0, .int .u8 0, .int .u8 0, .int .u8 0, .int .u8 0, .int .u8 0, .int .u8 0, .int .u8 0, .int .u8 0, .int .u8 0, .int .u8 0, .int .u8 0, .int .u8 0, .int .u8 0, .int .u8 0, .int .u8 0, .int .u8 0, .int .u8 0, .int .u8 0, .int .u8 0, .int .u8 0, .int .u8 0, .int .u8 0, .int .u8 0, .int .u8 0, .int .u8 0] 23))
  rw [show (w.alloc (.cells #[.int .u8 0, .int .u8 0, .int .u8 0, .int .u8 0, .int .u8 0, .int .u8 0, .int .u8 0, .int .u8 0, .int .u8 0, .int .u8 0, .int .u8 0, .int .u8 0, .int .u8 0, .int .u8 0, .int .u8 0, .int .u8 0, .int .u8 0, .int .u8 0, .int .u8 0, .int .u8 0, .int .u8 0, .int .u8 0, .int .u8 0, .int .u8 0, .int .u8 0, .int .u8 0, .int .u8 0, .int .u8 0, .int .u8 0, .int .u8 0, .int .u8 0, .int .u8 0] 23)).heap.size = w.heap.size + 1 by simp] at h
  exact h.setRow_other _ (by omega)

theorem alive_any (w : World) : Calls Try.prog 9 #[] w fun e w' => e = .returned (.bool true) ∧ Below w.heap.size w w' := by
  obtain ⟨A, hA⟩ : ∃ A, A = nmN 1 := ⟨_, rfl⟩
  obtain ⟨B, hB⟩ : ∃ B, B = nmN 2 := ⟨_, rfl⟩
  have HAL := Lib.hid (show A.length = 32 by rw [hA]; exact nmN_len 1)
  have HBL := Lib.hid (show B.length = 32 by rw [hB]; exact nmN_len 2)
  have HA1 := Lib.hid (show addT 5 [(A, 0, -1)] B A 3 = (0, [(A, 0, -1), (B, 3, 0)]) by rw [hA, hB]; decide +kernel)
  have HA2 := Lib.hid (show addT 5 [(A, 0, -1), (B, 3, 0)] B A 3 = (4, [(A, 0, -1), (B, 3, 0)]) by rw [hA, hB]; decide +kernel)
  have HP := Lib.hid (show plc [(A, 0, -1), (B, 3, 0)] B = 1 by rw [hA, hB]; decide +kernel)
  have HO1 := Lib.hid (show belowT [(A, 0, -1), (B, 3, 0)] A B = true by rw [hA, hB]; decide +kernel)
  have HO2 := Lib.hid (show belowT [(A, 0, -1), (B, 3, 0)] B A = false by rw [hA, hB]; decide +kernel)
  have HNA := Lib.hid hA
  have HNB := Lib.hid hB
  clear hA hB
  have HB := Lib.hid (Below.refl w.heap.size w)
  go_enter Try.func9, Try.ntmps9
  go_wp2_with fail
  refine (name_any w 1).mono ?_
  rintro e w1 ⟨rfl, hbc⟩
  replace HB := Lib.hid (HB.out.trans (hbc.mono HB.out.size))
  clear hbc
  rw [← HNA.out]
  go_wp2_with fail
  refine (name_any w1 2).mono ?_
  rintro e w2 ⟨rfl, hbc⟩
  replace HB := Lib.hid (HB.out.trans (hbc.mono HB.out.size))
  clear hbc
  rw [← HNB.out]
  have HZ1 := Lib.hid (two_zeros w2)
  have HZ2 := Lib.hid (two_zeros2 w2 A)
  have HZL := Lib.hid zero32_len
  have HPA := Lib.hid ((HZ1.out.setRow (bv A)).setRow_other (bv B).toArray (show w2.heap.size ≠ w2.heap.size + 1 by omega))
  have HPB := Lib.hid (HZ2.out.setRow (bv B))
  have hb3 : Below w2.heap.size w2 ((((w2.alloc (.cells #[.int .u8 0, .int .u8 0, .int .u8 0, .int .u8 0, .int .u8 0, .int .u8 0, .int .u8 0, .int .u8 0, .int .u8 0, .int .u8 0, .int .u8 0, .int .u8 0, .int .u8 0, .int .u8 0, .int .u8 0, .int .u8 0, .int .u8 0, .int .u8 0, .int .u8 0, .int .u8 0, .int .u8 0, .int .u8 0, .int .u8 0, .int .u8 0, .int .u8 0, .int .u8 0, .int .u8 0, .int .u8 0, .int .u8 0, .int .u8 0, .int .u8 0, .int .u8 0] 23)).alloc (.cells #[.int .u8 0, .int .u8 0, .int .u8 0, .int .u8 0, .int .u8 0, .int .u8 0, .int .u8 0, .int .u8 0, .int .u8 0, .int .u8 0, .int .u8 0, .int .u8 0, .int .u8 0, .int .u8 0, .int .u8 0, .int .u8 0, .int .u8 0, .int .u8 0, .int .u8 0, .int .u8 0, .int .u8 0, .int .u8 0, .int .u8 0, .int .u8 0, .int .u8 0, .int .u8 0, .int .u8 0, .int .u8 0, .int .u8 0, .int .u8 0, .int .u8 0, .int .u8 0] 23)).setRow w2.heap.size (bv A).toArray).setRow (w2.heap.size + 1) (bv B).toArray) := below_row (below_row (((Below.refl _ w2).alloc (Nat.le_refl _) _).alloc (by simp) _) (Nat.le_refl _) _) (by omega) _
  have HS3 := Lib.hid (show w2.heap.size + 1 < ((((w2.alloc (.cells #[.int .u8 0, .int .u8 0, .int .u8 0, .int .u8 0, .int .u8 0, .int .u8 0, .int .u8 0, .int .u8 0, .int .u8 0, .int .u8 0, .int .u8 0, .int .u8 0, .int .u8 0, .int .u8 0, .int .u8 0, .int .u8 0, .int .u8 0, .int .u8 0, .int .u8 0, .int .u8 0, .int .u8 0, .int .u8 0, .int .u8 0, .int .u8 0, .int .u8 0, .int .u8 0, .int .u8 0, .int .u8 0, .int .u8 0, .int .u8 0, .int .u8 0, .int .u8 0] 23)).alloc (.cells #[.int .u8 0, .int .u8 0, .int .u8 0, .int .u8 0, .int .u8 0, .int .u8 0, .int .u8 0, .int .u8 0, .int .u8 0, .int .u8 0, .int .u8 0, .int .u8 0, .int .u8 0, .int .u8 0, .int .u8 0, .int .u8 0, .int .u8 0, .int .u8 0, .int .u8 0, .int .u8 0, .int .u8 0, .int .u8 0, .int .u8 0, .int .u8 0, .int .u8 0, .int .u8 0, .int .u8 0, .int .u8 0, .int .u8 0, .int .u8 0, .int .u8 0, .int .u8 0] 23)).setRow w2.heap.size (bv A).toArray).setRow (w2.heap.size + 1) (bv B).toArray).heap.size by simp [World.setRow])
  replace HB := Lib.hid (HB.out.trans (hb3.mono HB.out.size))
  clear hb3
  obtain ⟨PA, hPA⟩ : ∃ PA, PA = w2.heap.size := ⟨_, rfl⟩
  obtain ⟨PB, hPB⟩ : ∃ PB, PB = w2.heap.size + 1 := ⟨_, rfl⟩
  go_upto_region 2 with (first
    | ((with_reducible refine wpList_store_name (.tmp 1) (.tmp 5) ?_ ?_ w2.heap.size zero32 A ?_ ?_ HZ1.out HZL.out HAL.out ?_); rfl; rfl; rfl; rfl)
    | ((with_reducible refine wpList_store_name (.tmp 2) (.tmp 6) ?_ ?_ (w2.heap.size + 1) zero32 B ?_ ?_ HZ2.out HZL.out HBL.out ?_); rfl; rfl; rfl; rfl))
  have HLT := Lib.hid (show PA < ((((w2.alloc (.cells #[.int .u8 0, .int .u8 0, .int .u8 0, .int .u8 0, .int .u8 0, .int .u8 0, .int .u8 0, .int .u8 0, .int .u8 0, .int .u8 0, .int .u8 0, .int .u8 0, .int .u8 0, .int .u8 0, .int .u8 0, .int .u8 0, .int .u8 0, .int .u8 0, .int .u8 0, .int .u8 0, .int .u8 0, .int .u8 0, .int .u8 0, .int .u8 0, .int .u8 0, .int .u8 0, .int .u8 0, .int .u8 0, .int .u8 0, .int .u8 0, .int .u8 0, .int .u8 0] 23)).alloc (.cells #[.int .u8 0, .int .u8 0, .int .u8 0, .int .u8 0, .int .u8 0, .int .u8 0, .int .u8 0, .int .u8 0, .int .u8 0, .int .u8 0, .int .u8 0, .int .u8 0, .int .u8 0, .int .u8 0, .int .u8 0, .int .u8 0, .int .u8 0, .int .u8 0, .int .u8 0, .int .u8 0, .int .u8 0, .int .u8 0, .int .u8 0, .int .u8 0, .int .u8 0, .int .u8 0, .int .u8 0, .int .u8 0, .int .u8 0, .int .u8 0, .int .u8 0, .int .u8 0] 23)).setRow w2.heap.size (bv A).toArray).setRow (w2.heap.size + 1) (bv B).toArray).heap.size ∧ PB < ((((w2.alloc (.cells #[.int .u8 0, .int .u8 0, .int .u8 0, .int .u8 0, .int .u8 0, .int .u8 0, .int .u8 0, .int .u8 0, .int .u8 0, .int .u8 0, .int .u8 0, .int .u8 0, .int .u8 0, .int .u8 0, .int .u8 0, .int .u8 0, .int .u8 0, .int .u8 0, .int .u8 0, .int .u8 0, .int .u8 0, .int .u8 0, .int .u8 0, .int .u8 0, .int .u8 0, .int .u8 0, .int .u8 0, .int .u8 0, .int .u8 0, .int .u8 0, .int .u8 0, .int .u8 0] 23)).alloc (.cells #[.int .u8 0, .int .u8 0, .int .u8 0, .int .u8 0, .int .u8 0, .int .u8 0, .int .u8 0, .int .u8 0, .int .u8 0, .int .u8 0, .int .u8 0, .int .u8 0, .int .u8 0, .int .u8 0, .int .u8 0, .int .u8 0, .int .u8 0, .int .u8 0, .int .u8 0, .int .u8 0, .int .u8 0, .int .u8 0, .int .u8 0, .int .u8 0, .int .u8 0, .int .u8 0, .int .u8 0, .int .u8 0, .int .u8 0, .int .u8 0, .int .u8 0, .int .u8 0] 23)).setRow w2.heap.size (bv A).toArray).setRow (w2.heap.size + 1) (bv B).toArray).heap.size by have := HS3.out; omega)
  generalize (((w2.alloc (.cells #[.int .u8 0, .int .u8 0, .int .u8 0, .int .u8 0, .int .u8 0, .int .u8 0, .int .u8 0, .int .u8 0, .int .u8 0, .int .u8 0, .int .u8 0, .int .u8 0, .int .u8 0, .int .u8 0, .int .u8 0, .int .u8 0, .int .u8 0, .int .u8 0, .int .u8 0, .int .u8 0, .int .u8 0, .int .u8 0, .int .u8 0, .int .u8 0, .int .u8 0, .int .u8 0, .int .u8 0, .int .u8 0, .int .u8 0, .int .u8 0, .int .u8 0, .int .u8 0] 23)).alloc (.cells #[.int .u8 0, .int .u8 0, .int .u8 0, .int .u8 0, .int .u8 0, .int .u8 0, .int .u8 0, .int .u8 0, .int .u8 0, .int .u8 0, .int .u8 0, .int .u8 0, .int .u8 0, .int .u8 0, .int .u8 0, .int .u8 0, .int .u8 0, .int .u8 0, .int .u8 0, .int .u8 0, .int .u8 0, .int .u8 0, .int .u8 0, .int .u8 0, .int .u8 0, .int .u8 0, .int .u8 0, .int .u8 0, .int .u8 0, .int .u8 0, .int .u8 0, .int .u8 0] 23)).setRow w2.heap.size (bv A).toArray).setRow (w2.heap.size + 1) (bv B).toArray = w3 at HPA HPB HB HLT HS3 ⊢
  rw [← hPB] at HPB ⊢
  rw [← hPA] at HPA ⊢
  clear hPA hPB HZ1 HZ2 HS3
  go_wp2_with ((with_reducible refine wpList_load_name (.tmp 1) ?_ ?_ PA 0 A ?_ HAL.out HPA.out.rootAll ?_); rfl; rfl; rfl)
  refine (new_ok w3 A 0 5 HAL.out (by omega) (by omega) (by omega) (by omega)).mono ?_
  rintro e w4 ⟨F, b, rfl, ht, hf, hbc⟩
  have HT := Lib.hid ht
  have HF := Lib.hid hf
  have HQ := Lib.hid (show w3.heap.size ≤ w4.heap.size from hbc.size)
  have HB3 := Lib.hid HB.out.size
  replace HPA := Lib.hid (HPA.out.below hbc HPA.out.lt)
  replace HPB := Lib.hid (HPB.out.below hbc HPB.out.lt)
  replace HB := Lib.hid (HB.out.trans (hbc.mono HB.out.size))
  clear hbc ht hf
  go_wp2_with (first | ((with_reducible refine wpList_load_name (.tmp 2) ?_ ?_ PB 0 B ?_ HBL.out HPB.out.rootAll ?_); rfl; rfl; rfl) | ((with_reducible refine wpList_load_name (.tmp 1) ?_ ?_ PA 0 A ?_ HAL.out HPA.out.rootAll ?_); rfl; rfl; rfl))
  refine (add_any w4 F b [(A, 0, -1)] 5 B A 3 HT.out HBL.out HAL.out).mono ?_
  rintro e w5 ⟨rfl, F2, ht, hk, hn⟩
  rw [HA1.out] at ht ⊢
  have HT := Lib.hid ht
  have hf2 := HF.out.new hn HQ.out
  replace HPA := Lib.hid (HPA.out.kept hk (fun hm => Nat.lt_irrefl _ (Nat.lt_of_lt_of_le HLT.out.1 (HF.out _ hm))))
  replace HPB := Lib.hid (HPB.out.kept hk (fun hm => Nat.lt_irrefl _ (Nat.lt_of_lt_of_le HLT.out.2 (HF.out _ hm))))
  replace HB := Lib.hid (HB.out.trans (hk.below HB.out.size (HF.out.mono HB3.out)))
  replace HQ := Lib.hid (Nat.le_trans HQ.out hk.size)
  replace HF := Lib.hid hf2
  clear hf2 ht hk hn
  go_wp2_with (first | ((with_reducible refine wpList_load_name (.tmp 2) ?_ ?_ PB 0 B ?_ HBL.out HPB.out.rootAll ?_); rfl; rfl; rfl) | ((with_reducible refine wpList_load_name (.tmp 1) ?_ ?_ PA 0 A ?_ HAL.out HPA.out.rootAll ?_); rfl; rfl; rfl))
  refine (add_any w5 F2 b [(A, 0, -1), (B, 3, 0)] 5 B A 3 HT.out HBL.out HAL.out).mono ?_
  rintro e w6 ⟨rfl, F3, ht, hk, hn⟩
  rw [HA2.out] at ht ⊢
  have HT := Lib.hid ht
  have hf2 := HF.out.new hn HQ.out
  replace HPA := Lib.hid (HPA.out.kept hk (fun hm => Nat.lt_irrefl _ (Nat.lt_of_lt_of_le HLT.out.1 (HF.out _ hm))))
  replace HPB := Lib.hid (HPB.out.kept hk (fun hm => Nat.lt_irrefl _ (Nat.lt_of_lt_of_le HLT.out.2 (HF.out _ hm))))
  replace HB := Lib.hid (HB.out.trans (hk.below HB.out.size (HF.out.mono HB3.out)))
  replace HQ := Lib.hid (Nat.le_trans HQ.out hk.size)
  replace HF := Lib.hid hf2
  clear hf2 ht hk hn
  go_wp2_with (first | ((with_reducible refine wpList_load_name (.tmp 2) ?_ ?_ PB 0 B ?_ HBL.out HPB.out.rootAll ?_); rfl; rfl; rfl) | ((with_reducible refine wpList_load_name (.tmp 1) ?_ ?_ PA 0 A ?_ HAL.out HPA.out.rootAll ?_); rfl; rfl; rfl))
  refine (place_any w6 F3 b [(A, 0, -1), (B, 3, 0)] 5 B HT.out HBL.out).mono ?_
  rintro e w7 ⟨rfl, hbc⟩
  replace HPA := Lib.hid (HPA.out.below hbc HPA.out.lt)
  replace HPB := Lib.hid (HPB.out.below hbc HPB.out.lt)
  replace HT := Lib.hid (HT.out.below hbc)
  replace HB := Lib.hid (HB.out.trans (hbc.mono HB.out.size))
  clear hbc
  rw [HP.out]
  go_wp2_with (first | ((with_reducible refine wpList_load_name (.tmp 2) ?_ ?_ PB 0 B ?_ HBL.out HPB.out.rootAll ?_); rfl; rfl; rfl) | ((with_reducible refine wpList_load_name (.tmp 1) ?_ ?_ PA 0 A ?_ HAL.out HPA.out.rootAll ?_); rfl; rfl; rfl))
  refine (below_any w7 F3 b [(A, 0, -1), (B, 3, 0)] 5 A B HT.out HAL.out HBL.out).mono ?_
  rintro e w8 ⟨rfl, hbc⟩
  replace HPA := Lib.hid (HPA.out.below hbc HPA.out.lt)
  replace HPB := Lib.hid (HPB.out.below hbc HPB.out.lt)
  replace HT := Lib.hid (HT.out.below hbc)
  replace HB := Lib.hid (HB.out.trans (hbc.mono HB.out.size))
  clear hbc
  rw [HO1.out]
  go_wp2_with (first | ((with_reducible refine wpList_load_name (.tmp 2) ?_ ?_ PB 0 B ?_ HBL.out HPB.out.rootAll ?_); rfl; rfl; rfl) | ((with_reducible refine wpList_load_name (.tmp 1) ?_ ?_ PA 0 A ?_ HAL.out HPA.out.rootAll ?_); rfl; rfl; rfl))
  refine (below_any w8 F3 b [(A, 0, -1), (B, 3, 0)] 5 B A HT.out HBL.out HAL.out).mono ?_
  rintro e w9 ⟨rfl, hbc⟩
  replace HPA := Lib.hid (HPA.out.below hbc HPA.out.lt)
  replace HPB := Lib.hid (HPB.out.below hbc HPB.out.lt)
  replace HT := Lib.hid (HT.out.below hbc)
  replace HB := Lib.hid (HB.out.trans (hbc.mono HB.out.size))
  clear hbc
  rw [HO2.out]
  go_wp2_with fail
  refine (len_any w9 F3 b [(A, 0, -1), (B, 3, 0)] 5 HT.out).mono ?_
  rintro e w10 ⟨rfl, hw⟩
  have hw := hw.symm
  subst hw
  go_wp2_with fail
  go_ret
  exact ⟨rfl, HB.out⟩
end Go.Proofs.Ytmchjmcdlapegaa
