/-
  What Of answers of a key and texts: the first half of the digest of the outer key and the inner digest.
-/
import Derived.Test.YtmkdcpnnnlihfaaDoorFill
import Derived.Test.YtmkdcpnnnlihfaaDoorFreeLaws
namespace Go.Proofs.YtmkdcpnnnlihfaaDoor
open Go.RowKit

def inner (k s : List UInt8) : List UInt8 := digest (mask 54 (fillK k) ++ s)
def outer (k s : List UInt8) : List UInt8 := digest (mask 92 (fillK k) ++ inner k s)
def tag (k s : List UInt8) : List UInt8 := (outer k s).take 16
theorem tag_length (k s : List UInt8) : (tag k s).length = 16 := by
  rw [tag, List.length_take, outer, digest_length]; rfl

theorem Tryd.zero24 : (Tryd.prog.info? 24).map (fun i => (i.zero, i.size)) = some (some (.agg (zb 16).toArray), 16) := by kernel_rfl
theorem Tryd.size24 : (Tryd.prog.info? 24).map (·.size) = some 16 := by kernel_rfl

theorem setRow_size' (w : World) (g : Nat) (cs : Array Value) : (w.setRow g cs).heap.size = w.heap.size := by simp [World.setRow]
theorem masked_in {w w' : World} (hb : Below w.heap.size w w') (K : List UInt8) (m : UInt8) (hK : K.length = 64) (S : ByteArray) (hS : S = ⟨(mask m K).toArray⟩) :
    Calls Tryd.prog 13 #[.agg (bv K).toArray, .int .u8 (m.toNat : Int)] w' fun e w'' => e = .returned (.string S) ∧ Below w.heap.size w w'' :=
  (masked_any w' K m hK).mono fun _ _ ⟨h1, h2⟩ => ⟨by rw [h1, hS], hb.trans (h2.mono hb.size)⟩

/-- Texts that stand in one block that was just made. -/
theorem str_two (w : World) (s t : List UInt8) : StrAt (w.alloc (.cells #[.string ⟨s.toArray⟩, .string ⟨t.toArray⟩] 9)) (w.alloc (.cells #[.string ⟨s.toArray⟩, .string ⟨t.toArray⟩] 9)).heap.size (some ⟨w.heap.size, 0, none⟩) w.heap.size 0 [s, t] := by
  refine ⟨fun _ => rfl, fun _ => by simp, fun j x hj => ?_⟩
  rw [Nat.zero_add, (Blk.new w 9 #[.string ⟨s.toArray⟩, .string ⟨t.toArray⟩]).cell]
  match j, hj with
  | 0, hj => simp at hj; subst hj; rfl
  | 1, hj => simp at hj; subst hj; rfl

theorem of_two (w : World) (s t : List UInt8) (hT : Tabs w) (hs : s.length ≤ 100000) (ht : t.length ≤ 100000) :
    Calls Tryd.prog 14 #[.slice (some ⟨w.heap.size, 0, none⟩) 2 2] (w.alloc (.cells #[.string ⟨s.toArray⟩, .string ⟨t.toArray⟩] 9)) fun e w' => e = .returned (.agg (bv (digest (s ++ t))).toArray) ∧ Below w.heap.size w w' := by
  have hb : Below w.heap.size w (w.alloc (.cells #[.string ⟨s.toArray⟩, .string ⟨t.toArray⟩] 9)) := (Below.refl _ _).alloc (Nat.le_refl _) _
  refine (of_any _ _ 2 2 w.heap.size 0 [s, t] (hT.below hb hT.size) rfl (by omega) (str_two w s t) (by simp; omega)).mono fun e w' ⟨h1, h2⟩ => ⟨?_, hb.trans (h2.mono hb.size)⟩
  rw [h1]
  simp

theorem held_one (w : World) (s : List UInt8) : Held (w.alloc (.cells #[.string ⟨s.toArray⟩] 9)) w.heap.size (.slice (some ⟨w.heap.size, 0, none⟩) 1 1) (sv [s]) := by
  have hb := Blk.new w 9 #[.string ⟨s.toArray⟩]
  refine ⟨1, 1, w.heap.size, 0, _, rfl, rfl, Nat.le_refl _, by unfold maxLen; omega, fun _ => rfl, fun a ha => by cases ha; exact Nat.le_refl _, fun _ => by simp, fun j u hj => ?_, fun j hj => ?_, fun j hj => ?_⟩
  · rw [Nat.zero_add, hb.cell]; exact hj
  · obtain rfl : j = 0 := by omega
    rw [hb.cell]; rfl
  · exact hb.free _

set_option maxHeartbeats 8000000 in
theorem macOf_any (w : World) (k : List UInt8) (ao : Option Addr) (n cap b off : Nat) (ss : List (List UInt8)) (hT : Tabs w) (hk : k.length ≤ 100000) (hn : ss.length = n) (hnn : n ≤ 90000) (hs : StrAt w w.heap.size ao b off ss) (hl : ∀ s ∈ ss, s.length ≤ 100000) :
    Calls Tryd.prog 8 #[.string ⟨k.toArray⟩, .slice ao n cap] w fun e w' => e = .returned (.agg (bv (tag k ss.flatten)).toArray) ∧ Below w.heap.size w w' := by
  obtain ⟨i0, hi, hz0, hz1, hz2⟩ := info_parts Tryd.info9
  have hzA := (zero_of_info Tryd.zero24).1
  have hzB := (zero_of_info Tryd.zero35).1
  have hzC := (zero_of_info Tryd.zero39).1
  have hb1 := Blk.new w 24 (zb 16).toArray
  have hB1 : Below w.heap.size w (w.alloc (.cells (zb 16).toArray 24)) := (Below.refl _ _).alloc (Nat.le_refl _) _
  obtain ⟨w1, hw1⟩ : ∃ w1, w1 = w.alloc (.cells (zb 16).toArray 24) := ⟨_, rfl⟩
  rw [← hw1] at hb1 hB1
  have HW1 := Lib.hid hw1
  have H1 := Lib.hid (show Blk w1 w.heap.size 24 (zb 16) from hb1)
  have HB1 := Lib.hid hB1
  have HT := Lib.hid hT
  have HN := Lib.hid hn
  have HS := Lib.hid hs
  have HL := Lib.hid hl
  clear hb1 hB1 hw1 hT hn hs hl
  go_enter Tryd.func8, Tryd.ntmps8
  go_wp2_with fail
  rw [← HW1.out]
  refine (fill_any w1 k (HT.out.below HB1.out HT.out.size) hk).mono ?_
  rintro e w2 ⟨rfl, hb2⟩
  obtain ⟨K, hK⟩ : ∃ K, K = fillK k := ⟨_, rfl⟩
  have hKl : K.length = 64 := by rw [hK]; exact fillK_length k
  rw [← hK]
  have HK := Lib.hid hK
  have h1 := H1.out.below hb2 H1.out.lt
  have hB2 := HB1.out.trans (hb2.mono HB1.out.size)
  have hlt := h1.lt
  have hn2 := Blk.new w2 35 (zb 64).toArray
  have H1' := Lib.hid ((h1.alloc (.cells (zb 64).toArray 35)).setRow_other (bv K).toArray (show w.heap.size ≠ w2.heap.size by omega))
  have HN2 := Lib.hid hn2
  have H2 := Lib.hid (hn2.setRow (bv K))
  have HB2 := Lib.hid (below_setRow (hB2.alloc (by omega) (.cells (zb 64).toArray 35)) (show w.heap.size ≤ w2.heap.size by omega) (bv K).toArray)
  have HZ := Lib.hid (show (Tryd.prog.info? 35).map (·.size) = some (bv K).length by rw [bv_length, hKl]; exact Tryd.size35)
  have HLL := Lib.hid (show 0 + (bv K).length ≤ (zb 64).toArray.toList.length by rw [bv_length, hKl]; simp [zb_length])
  have HP := Lib.hid (splice_all (zb 64).toArray.toList (bv K) (by rw [bv_length, hKl]; simp [zb_length]))
  have HC2 := Lib.hid H2.out.cells
  clear hK hb2 h1 hB2 hn2 H1 HB1 HW1
  go_wp2_with (first
    | ((with_reducible refine wpList_store_part ?_ 35 (.tmp 5) (.tmp 11) ?_ w2.heap.size 0 (bv K) ?_ ?_ 35 _ HN2.out HZ.out HLL.out (bv_one _) ?_); rfl; rfl; rfl; rfl; rw [HP.out])
    | ((with_reducible refine wpList_load_cells ?_ 35 (.tmp 5) ?_ _ 0 _ ?_ 64 5 HC2.out Tryd.underlying35 HZ.out ?_); rfl; rfl; rfl))
  generalize (w2.alloc (.cells (zb 64).toArray 35)).setRow w2.heap.size (bv K).toArray = w3 at H1' H2 HB2 ⊢
  clear HN2 HLL HP HC2 hzB
  refine (masked_any w3 K 54 hKl).mono ?_
  rintro e w4 ⟨rfl, hb4⟩
  have h1 := H1'.out.below hb4 H1'.out.lt
  have h2 := H2.out.below hb4 H2.out.lt
  have hB4 := HB2.out.trans (hb4.mono HB2.out.size)
  obtain ⟨M, hM⟩ : ∃ M, M = mask 54 K := ⟨_, rfl⟩
  have hMl : M.length = 64 := by rw [hM, mask_length]; exact hKl
  rw [← hM]
  have HM := Lib.hid hM
  have H1 := Lib.hid h1
  have H4 := Lib.hid h2
  have HB4 := Lib.hid hB4
  clear hM h1 h2 hb4 hB4 H1' H2 HB2
  obtain ⟨SM, hSM⟩ : ∃ S : ByteArray, S = ⟨M.toArray⟩ := ⟨_, rfl⟩
  rw [← hSM]
  have hho := held_one w4 M
  rw [← hSM] at hho
  have HHo := Lib.hid hho
  have HSrc := Lib.hid (((HS.out.keep HB4.out).keep ((Below.refl w.heap.size w4).alloc HB4.out.size (.cells #[.string SM] 9))).src cap 34 Tryd.underlying34 (P := Tryd.prog))
  rw [HN.out] at HSrc
  have HSM := Lib.hid hSM
  clear hho hSM
  go_wp2_with (at_builtin; refine wpList_append_held rfl _ _ 34 34 rfl rfl HHo.out 9 i0 (.string ⟨#[]⟩) 16 Tryd.underlying34 hi hz0 hz1 hz2 rfl _ rfl n (sv ss) HSrc.out ?e2 ?e3 ?e4 ?_)
  case e2 => unfold maxLen; simp [sv_length]; omega
  case e3 => simp [sv_length]; omega
  case e4 => simp
  intro v5 w5 hh5 hg5
  have hb5 : Below w4.heap.size w4 w5 := ((Below.refl _ _).alloc (Nat.le_refl _) _).trans (hg5.below HHo.out (by simp))
  have h1 := H1.out.below hb5 H1.out.lt
  have h4 := H4.out.below hb5 H4.out.lt
  have HB5 := Lib.hid (HB4.out.trans (hb5.mono HB4.out.size))
  have HH5 := Lib.hid (show Held w5 w4.heap.size v5 (sv ([M] ++ ss)) by rw [sv_append]; exact hh5)
  clear hh5 hg5 HHo HSrc H1 H4 HB4 hb5 hi hz0 hz1 hz2
  have H1 := Lib.hid h1
  have H4 := Lib.hid h4
  clear h1 h4
  have hT5 := HT.out.below HB5.out HT.out.size
  go_wp2_with fail
  refine (of_held HH5.out hT5 (by simp; have := HN.out; omega) (by
    intro s hs
    rw [List.mem_append, List.mem_singleton] at hs
    rcases hs with rfl | hs
    · omega
    · exact HL.out s hs)).mono ?_
  rintro e w6 ⟨rfl, hb6⟩
  have h1 := H1.out.below hb6 H1.out.lt
  have h4 := H4.out.below hb6 H4.out.lt
  have hB6 := HB5.out.trans (hb6.mono HB5.out.size)
  obtain ⟨D, hD⟩ : ∃ D, D = digest ([M] ++ ss).flatten := ⟨_, rfl⟩
  have hDl : D.length = 32 := by rw [hD]; exact digest_length _
  rw [← hD]
  have HD := Lib.hid (show D = inner k ss.flatten by rw [hD, inner, ← HK.out, ← HM.out]; simp)
  clear hD hb6 H1 H4 HB5 HH5 hT5 HSM HM
  have hn6 := Blk.new w6 39 (zb 32).toArray
  have hlt1 := h1.lt
  have hlt4 := h4.lt
  have H1 := Lib.hid ((h1.alloc (.cells (zb 32).toArray 39)).setRow_other (bv D).toArray (show w.heap.size ≠ w6.heap.size by omega))
  have H4 := Lib.hid ((h4.alloc (.cells (zb 32).toArray 39)).setRow_other (bv D).toArray (show w2.heap.size ≠ w6.heap.size by omega))
  have HN6 := Lib.hid hn6
  have H6 := Lib.hid (hn6.setRow (bv D))
  have HB6 := Lib.hid (below_setRow (hB6.alloc (by omega) (.cells (zb 32).toArray 39)) (show w.heap.size ≤ w6.heap.size by omega) (bv D).toArray)
  have HZD := Lib.hid (show (Tryd.prog.info? 39).map (·.size) = some (bv D).length by rw [bv_length, hDl]; exact Tryd.size39)
  have HLL := Lib.hid (show 0 + (bv D).length ≤ (zb 32).toArray.toList.length by rw [bv_length, hDl]; simp [zb_length])
  have HP := Lib.hid (splice_all (zb 32).toArray.toList (bv D) (by rw [bv_length, hDl]; simp [zb_length]))
  clear h1 h4 hB6 hn6
  go_wp2_with ((with_reducible refine wpList_store_part ?_ 39 (.tmp 7) (.tmp 18) ?_ w6.heap.size 0 (bv D) ?_ ?_ 39 _ HN6.out HZD.out HLL.out (bv_one _) ?_); rfl; rfl; rfl; rfl; rw [HP.out])
  simp only [Act.put]
  generalize (w6.alloc (.cells (zb 32).toArray 39)).setRow w6.heap.size (bv D).toArray = w7 at H1 H4 H6 HB6 ⊢
  clear HN6 HLL HP
  obtain ⟨SO, hSO⟩ : ∃ S : ByteArray, S = ⟨(mask 92 K).toArray⟩ := ⟨_, rfl⟩
  obtain ⟨SD, hSD⟩ : ∃ S : ByteArray, S = ⟨D.toArray⟩ := ⟨_, rfl⟩
  have hcv : ∀ w', Below w7.heap.size w7 w' → (convert 41 9 (.slice (some ⟨w6.heap.size, 0, none⟩) 32 32)).run Tryd.prog w' = .ok (.string SD) w' := fun w' hw' => by
    have := conv_bytes (H6.out.below hw' H6.out.lt)
    rw [hDl] at this
    rw [hSD]; exact this
  have HSO := Lib.hid hSO
  have HSD := Lib.hid hSD
  have hC : ∀ w', Below w7.heap.size w7 w' → ∀ j v, (bv K)[j]? = some v → w'.cell? ⟨w2.heap.size, 0 + j, none⟩ = some v := fun w' hw' => (H4.out.below hw' H4.out.lt).cells
  clear hSD hSO
  refine wp_region_free (P := Tryd.prog) 7 (fun w' => Below w7.heap.size w7 w') (fun i v w' => match i with
    | 0 => v = .agg (bv K).toArray
    | 1 => v = .string SO
    | 2 => v = .slice (some ⟨w6.heap.size, 0, none⟩) 32 32
    | 3 => v = .string SD
    | 4 => ∃ b, v = .slice (some ⟨b, 0, none⟩) 2 2 ∧ StrAt w' w'.heap.size (some ⟨b, 0, none⟩) b 0 [mask 92 K, D]
    | 5 => v = .agg (bv (digest (mask 92 K ++ D))).toArray
    | 6 => ∃ g, v = .pointer (some ⟨g, 0, none⟩) ∧ Blk w' g 39 (zb 32) ∧ w7.heap.size ≤ g
    | _ => True) (by kernel_rfl) (by kernel_rfl) (Below.refl _ _).drew ?gb ?vb ?steps ?fin
  case gb => exact fun a b h1 h2 => h1.trans (h2.mono h1.size)
  case vb =>
    intro i v a b h hb
    match i with
    | 0 => exact h
    | 1 => exact h
    | 2 => exact h
    | 3 => exact h
    | 4 => obtain ⟨g, h1, h2⟩ := h; exact ⟨g, h1, (h2.keep hb).more hb.size⟩
    | 5 => exact h
    | 6 => obtain ⟨g, h1, h2, h3⟩ := h; exact ⟨g, h1, h2.below hb h2.lt, h3⟩
    | _ + 7 => trivial
  case steps =>
    intro s
    simp only [List.take_succ_cons, List.take_zero, freeSteps, Act.put, List.setIfInBounds_toArray, List.set_cons_zero, List.set_cons_succ, Nat.reduceAdd]
    refine ⟨fun w8 hG hW => ?_, fun w8 hG hW => ?_, fun w8 hG hW => ?_, fun w8 hG hW => ?_, fun w8 hG hW => ?_, fun w8 hG hW => ?_, fun w8 hG hW => ?_, trivial⟩
    · exact stepAt_load_cells rfl rfl rfl 35 (.tmp 5) rfl w2.heap.size 0 (bv K) rfl 64 5 (hC w8 hG) Tryd.underlying35 HZ.out ⟨rfl, Below.refl _ _⟩
    · have q0 := hW 0 (by decide)
      simp only at q0
      rw [q0]
      refine stepAt_call rfl rfl rfl 13 #[.agg (bv K).toArray, .int .u8 92] (by go_simp) ((masked_any w8 K 92 hKl).mono fun e w' ⟨h1, h2⟩ => ⟨_, by rw [h1, HSO.out], rfl, h2⟩)
    · refine stepAt_value rfl rfl rfl (.slice (some ⟨w6.heap.size, 0, none⟩) 32 32) w8 ?_ ⟨rfl, Below.refl _ _⟩
      go_simp
    · have q2 := hW 2 (by decide)
      simp only at q2
      rw [q2]
      refine stepAt_value rfl rfl rfl (.string SD) w8 ?_ ⟨rfl, Below.refl _ _⟩
      have := hcv w8 hG
      go_simp
    · have q1 := hW 1 (by decide)
      have q3 := hW 3 (by decide)
      simp only at q1 q3
      rw [q1, q3]
      refine stepAt_value rfl rfl rfl (.slice (some ⟨w8.heap.size, 0, none⟩) 2 2) (w8.alloc (.cells #[.string SO, .string SD] 9)) ?_ ⟨⟨_, rfl, ?_⟩, (Below.refl _ _).alloc (Nat.le_refl _) _⟩
      · go_simp
      · rw [HSO.out, HSD.out]
        exact str_two w8 _ _
    · obtain ⟨b4, q4, hs4⟩ := hW 4 (by decide)
      rw [q4]
      refine stepAt_call rfl rfl rfl 14 #[.slice (some ⟨b4, 0, none⟩) 2 2] (by go_simp) ((of_any w8 _ 2 2 b4 0 [mask 92 K, D] ((HT.out.below HB6.out HT.out.size).below hG (by have := HT.out.size; have := HB6.out.size; omega)) rfl (by omega) hs4 (by simp [mask_length]; omega)).mono fun e w' ⟨h1, h2⟩ => ⟨_, h1, ?_, h2⟩)
      simp
    · refine stepAt_value rfl rfl rfl (.pointer (some ⟨w8.heap.size, 0, none⟩)) (w8.alloc (.cells (zb 32).toArray 39)) ?_ ⟨⟨_, rfl, Blk.new _ _ _, hG.size⟩, (Below.refl _ _).alloc (Nat.le_refl _) _⟩
      go_simp
  case fin =>
    intro s w8 hG hV
    have q5 := hV 5 (by omega)
    obtain ⟨g6, q6, hb6, hg6⟩ := hV 6 (by omega)
    simp only at q5
    simp only [List.take_succ_cons, List.take_zero, List.drop_succ_cons, List.drop_zero, putAll, Act.put, List.setIfInBounds_toArray, List.set_cons_zero, List.set_cons_succ, Nat.reduceAdd]
    rw [q5, q6]
    generalize s 0 = s0
    generalize s 1 = s1
    generalize s 2 = s2
    generalize s 3 = s3
    generalize s 4 = s4
    clear hV q5 q6 s hcv hC
    obtain ⟨D2, hD2⟩ : ∃ D2, D2 = digest (mask 92 K ++ D) := ⟨_, rfl⟩
    have hl2 : D2.length = 32 := by rw [hD2]; exact digest_length _
    rw [← hD2]
    have HD2 := Lib.hid (show D2 = outer k ss.flatten by rw [hD2, outer, ← HK.out, ← HD.out])
    have h1 := (H1.out.below hG H1.out.lt).setRow_other (bv D2).toArray (show w.heap.size ≠ g6 by have := HB6.out.size; have := H1.out.lt; omega)
    have HB8 := Lib.hid (below_setRow (HB6.out.trans (hG.mono HB6.out.size)) (show w.heap.size ≤ g6 by have := H1.out.lt; omega) (bv D2).toArray)
    have HG6 := Lib.hid hb6
    have H8 := Lib.hid (hb6.setRow (bv D2))
    have H1' := Lib.hid h1
    have HZ2 := Lib.hid (show (Tryd.prog.info? 39).map (·.size) = some (bv D2).length by rw [bv_length, hl2]; exact Tryd.size39)
    have HLL := Lib.hid (show 0 + (bv D2).length ≤ (zb 32).length by rw [bv_length, hl2, zb_length]; omega)
    have HP := Lib.hid (splice_all (zb 32) (bv D2) (by rw [bv_length, hl2, zb_length]))
    clear hD2 hb6 h1 H1 H4 H6 HB6 hG
    go_wp2_with ((with_reducible refine wpList_store_part ?_ 39 (.tmp 8) (.tmp 24) ?_ g6 0 (bv D2) ?_ ?_ 39 _ HG6.out HZ2.out HLL.out (bv_one _) ?_); rfl; rfl; rfl; rfl; rw [HP.out])
    have hg8 : g6 < w8.heap.size := by have := H8.out.lt; simp only [setRow_size'] at this; exact this
    have e8 : (w8.setRow g6 (bv D2).toArray).heap.size = w8.heap.size := setRow_size' _ _ _
    generalize w8.setRow g6 (bv D2).toArray = w9 at H8 H1' HB8 e8 ⊢
    rw [← e8] at hg8 ⊢
    have hn9 := Blk.new w9 24 (zb 16).toArray
    have HB9 := Lib.hid (HB8.out.alloc HB8.out.size (.cells (zb 16).toArray 24))
    have hr9 := H1'.out.alloc (.cells (zb 16).toArray 24)
    have hs9 := H8.out.alloc (.cells (zb 16).toArray 24)
    have hlt9 : w.heap.size < w9.heap.size := H1'.out.lt
    have HR9 := Lib.hid hr9
    have HS9 := Lib.hid hs9
    have HN9 := Lib.hid hn9
    generalize w9.alloc (.cells (zb 16).toArray 24) = w10 at HR9 HS9 HN9 HB9 ⊢
    clear hn9 hr9 hs9 H8 H1' HB8 HG6 HZ2 HLL HP e8
    refine wp_region_draws_tail 2 (by kernel_rfl) (by kernel_rfl) ?_
    simp only [List.take_succ_cons, List.take_zero, List.drop_succ_cons, List.drop_zero]
    repeat (go_big_quiet_step (fail))
    refine wpQuiet_nil ?_
    rintro _ ⟨nq, rfl⟩
    have g0 := HR9.out.drewN nq
    have g1 := HN9.out.drewN nq
    have gs := HS9.out.drewN nq
    have gb := below_drewN' HB9.out nq
    generalize w10.drewN nq = w11 at g0 g1 gs gb ⊢
    clear HR9 HN9 HS9 HB9
    refine wpList_copy_splice rfl (.tmp 25) (.tmp 26) 41 41 rfl 5 Tryd.underlying41 Tryd.size5 _ _ 16 16 32 32 rfl rfl w9.heap.size 0 (zb 16) 24 g1 (bv (D2.take 16)) ?_ (fun _ => ⟨rfl, ⟨g6, 0, none⟩, rfl, ?_⟩) ?_ (bv_one _) w9.heap.size w11 (Below.refl _ _) (Nat.le_refl _) ?_
    · rw [bv_length, List.length_take, hl2]; rfl
    · intro j v hj
      rw [Addr.add_lit, Nat.zero_add, gs.cell]
      have hjl : j < 16 := by have := (List.getElem?_eq_some_iff.1 hj).1; rw [bv_length, List.length_take] at this; omega
      rw [← hj, bv, bv, List.getElem?_map, List.getElem?_map, List.getElem?_take, if_pos hjl]
    · rw [bv_length, List.length_take, zb_length]; omega
    intro w12 HG12 hB12
    have hg12 := HG12.out
    have htk : (D2.take 16).length = 16 := by rw [List.length_take]; omega
    obtain ⟨T, hT⟩ : ∃ T, T = D2.take 16 := ⟨_, rfl⟩
    rw [splice_zb 16, htk] at hg12
    simp only [Nat.sub_self, List.replicate_zero, List.append_nil] at hg12
    rw [← hT] at hg12 htk ⊢
    have HTT := Lib.hid (show T = tag k ss.flatten by rw [hT, tag, HD2.out])
    have hr12 := g0.below hB12 (by omega)
    have HR := Lib.hid hr12
    have HC := Lib.hid (Blk.cells hg12)
    have HZT := Lib.hid (show (Tryd.prog.info? 24).map (·.size) = some (bv T).length by rw [bv_length, htk]; exact Tryd.size24)
    have HLL := Lib.hid (show 0 + (bv T).length ≤ (zb 16).length by rw [bv_length, htk, zb_length]; omega)
    have HP := Lib.hid (splice_all (zb 16) (bv T) (by rw [bv_length, htk, zb_length]))
    have HR2 := Lib.hid (hr12.setRow (bv T))
    have HB2 := Lib.hid (below_setRow (gb.trans (hB12.mono (by omega))) (Nat.le_refl w.heap.size) (bv T).toArray)
    clear HG12 hg12 hr12 g0 g1 gs gb hB12 hT HD2 HD
    go_wp2_with (first
      | ((with_reducible refine wpList_load_cells ?_ 24 (.tmp 9) ?_ _ 0 _ ?_ 16 5 HC.out Tryd.underlying24 HZT.out ?_); rfl; rfl; rfl)
      | ((with_reducible refine wpList_store_part ?_ 24 (.tmp 4) (.tmp 28) ?_ w.heap.size 0 (bv T) ?_ ?_ 24 _ HR.out HZT.out HLL.out (bv_one _) ?_); rfl; rfl; rfl; rfl; rw [HP.out]))
    refine bodyPost_ret (v := .agg (bv T).toArray) ?_ rfl ⟨by rw [HTT.out], HB2.out⟩
    exact results_cell_row rfl _ _ w.heap.size 24 _ (0, 0) (.array 16 5) rfl HR2.out Tryd.underlying24 rfl (by rw [List.size_toArray]; exact HZT.out)
end Go.Proofs.YtmkdcpnnnlihfaaDoor
