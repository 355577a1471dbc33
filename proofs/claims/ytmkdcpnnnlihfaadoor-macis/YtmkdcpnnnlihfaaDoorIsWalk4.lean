/-
  The walk of MacIs.
-/
import Derived.Test.YtmkdcpnnnlihfaaDoorRefTag
namespace Go.Proofs.YtmkdcpnnnlihfaaDoor
open Go.RowKit

set_option maxHeartbeats 4000000 in
theorem is_in (w : World) (k s : List UInt8) (cut : Int) (c : Nat) (hT : Tabs w) (hk : k.length ≤ 200) (hs : s.length ≤ 200) (hcl : c ≤ s.length) (hc : (cut < 0 ∧ c = 0) ∨ (0 ≤ cut ∧ cut ≤ (s.length : Int) ∧ cut = (c : Int)) ∨ ((s.length : Int) < cut ∧ c = s.length)) :
    Calls Tryd.prog 3 #[.string ⟨k.toArray⟩, .string ⟨s.toArray⟩, .int .i64 cut] w fun e w' => e = .returned (.bool true) ∧ Below w.heap.size w w' := by
  obtain ⟨SK, hSK⟩ : ∃ S : ByteArray, S = ⟨k.toArray⟩ := ⟨_, rfl⟩
  obtain ⟨SS, hSS⟩ : ∃ S : ByteArray, S = ⟨s.toArray⟩ := ⟨_, rfl⟩
  rw [← hSK, ← hSS]
  have zK : SK.size = k.length := by rw [hSK]; simp [ByteArray.size]
  have zS : SS.size = s.length := by rw [hSS]; simp [ByteArray.size]
  have c1 : ¬ ((200 : Int) < (k.length : Int)) := by omega
  have c2 : ¬ ((200 : Int) < (s.length : Int)) := by omega
  have HSK := Lib.hid hSK
  have HSS := Lib.hid hSS
  have HT := Lib.hid hT
  have HC := Lib.hid hc
  clear hSK hSS hT hc
  go_enter Tryd.func3, Tryd.ntmps3
  go_wp2_with fail
  refine (alive_any w HT.out).mono ?_
  rintro e w1 ⟨rfl, hb1⟩
  have HB1 := Lib.hid hb1
  clear hb1
  go_upto_region 5 with fail
  go_cut [7] (fun v wr => v = .int .i64 (c : Int) ∧ wr = w1)
  case first =>
    rcases HC.out with ⟨h1, h2⟩ | ⟨h1, h2, h3⟩ | ⟨h1, h2⟩
    · subst h2
      go_wp2_with fail
      all_goals (go_meet; exact ⟨rfl, rfl⟩)
    · subst h3
      go_wp2_with fail
      all_goals (go_meet; exact ⟨rfl, rfl⟩)
    · subst h2
      go_wp2_with fail
      all_goals (go_meet; exact ⟨rfl, rfl⟩)
  case rest =>
  obtain ⟨rfl, rfl⟩ := hcut
  clear HC
  have HTI := Lib.hid (show ∀ w', Below wc.heap.size wc w' → Tabs w' from fun w' h => (HT.out.below HB1.out HT.out.size).below h (by have := HT.out.size; have := HB1.out.size; omega))
  have heq := fun w' => tag_eq w' (tag k s) (tag k s) (tag_length _ _) (tag_length _ _)
  simp only [BEq.rfl] at heq
  obtain ⟨SA, hSA⟩ : ∃ S : ByteArray, S = ⟨(s.take c).toArray⟩ := ⟨_, rfl⟩
  obtain ⟨SB, hSB⟩ : ∃ S : ByteArray, S = ⟨(s.drop c).toArray⟩ := ⟨_, rfl⟩
  have xA : SS.extract 0 c = SA := by
    rw [HSS.out, hSA]; apply ByteArray.ext; rw [ByteArray.data_extract]; simp
  have xB : SS.extract c s.length = SB := by
    rw [HSS.out, hSB]; apply ByteArray.ext; rw [ByteArray.data_extract]; simp
    rw [List.take_of_length_le (by simp)]
  have HSA := Lib.hid hSA
  have HSB := Lib.hid hSB
  clear hSA hSB
  go_wp2_with fail
  refine wp_region_free (P := Tryd.prog) 24 (fun w' => Below wc.heap.size wc w') (fun i v w' => match i with
      | 0 => v = .string SK
      | 1 => v = .string SS
      | 2 => ∃ b, v = .slice (some ⟨b, 0, none⟩) 1 1 ∧ StrAt w' w'.heap.size (some ⟨b, 0, none⟩) b 0 [s]
      | 3 => v = .agg (bv (tag k s)).toArray
      | 4 => v = .string SK
      | 5 => v = .string SS
      | 6 => v = .agg (bv (tag k s)).toArray
      | 7 => v = .bool true
      | 8 => v = .bool true
      | 9 => v = .string SK
      | 10 => v = .string SS
      | 11 => v = .int .i64 (c : Int)
      | 12 => v = .string SA
      | 13 => v = .string SS
      | 14 => v = .int .i64 (c : Int)
      | 15 => v = .string SB
      | 16 => ∃ b, v = .slice (some ⟨b, 0, none⟩) 2 2 ∧ StrAt w' w'.heap.size (some ⟨b, 0, none⟩) b 0 [s.take c, s.drop c]
      | 17 => v = .agg (bv (tag k s)).toArray
      | 18 => v = .string SK
      | 19 => v = .string SS
      | 20 => v = .agg (bv (tag k s)).toArray
      | 21 => v = .bool true
      | 22 => v = .bool true
      | 23 => v = .bool true
      | _ => True) (by kernel_rfl) (by kernel_rfl) (Below.refl _ _).drew ?gb ?vb ?steps ?fin
  case gb => exact fun a b h1 h2 => h1.trans (h2.mono h1.size)
  case vb =>
    intro i v a b h hb
    match i with
    | 0 => exact h
    | 1 => exact h
    | 2 => obtain ⟨g, h1, h2⟩ := h; exact ⟨g, h1, (h2.keep hb).more hb.size⟩
    | 3 => exact h
    | 4 => exact h
    | 5 => exact h
    | 6 => exact h
    | 7 => exact h
    | 8 => exact h
    | 9 => exact h
    | 10 => exact h
    | 11 => exact h
    | 12 => exact h
    | 13 => exact h
    | 14 => exact h
    | 15 => exact h
    | 16 => obtain ⟨g, h1, h2⟩ := h; exact ⟨g, h1, (h2.keep hb).more hb.size⟩
    | 17 => exact h
    | 18 => exact h
    | 19 => exact h
    | 20 => exact h
    | 21 => exact h
    | 22 => exact h
    | 23 => exact h
    | _ + 24 => trivial
  case steps =>
    intro vals
    simp only [List.take_succ_cons, List.take_zero, freeSteps, Act.put, List.setIfInBounds_toArray, List.set_cons_zero, List.set_cons_succ, Nat.reduceAdd]
    refine ⟨fun w8 hG hW => ?_, fun w8 hG hW => ?_, fun w8 hG hW => ?_, fun w8 hG hW => ?_, fun w8 hG hW => ?_, fun w8 hG hW => ?_, fun w8 hG hW => ?_, fun w8 hG hW => ?_, fun w8 hG hW => ?_, fun w8 hG hW => ?_, fun w8 hG hW => ?_, fun w8 hG hW => ?_, fun w8 hG hW => ?_, fun w8 hG hW => ?_, fun w8 hG hW => ?_, fun w8 hG hW => ?_, fun w8 hG hW => ?_, fun w8 hG hW => ?_, fun w8 hG hW => ?_, fun w8 hG hW => ?_, fun w8 hG hW => ?_, fun w8 hG hW => ?_, fun w8 hG hW => ?_, fun w8 hG hW => ?_, trivial⟩
    · clear hW
      refine stepAt_value rfl rfl rfl (.string SK) w8 ?_ ⟨rfl, Below.refl _ _⟩
      go_simp
    · clear hW
      refine stepAt_value rfl rfl rfl (.string SS) w8 ?_ ⟨rfl, Below.refl _ _⟩
      go_simp
    · have q1 := hW 1 (by decide)
      simp only at q1
      rw [q1]
      clear hW
      refine stepAt_value rfl rfl rfl (.slice (some ⟨w8.heap.size, 0, none⟩) 1 1) (w8.alloc (.cells #[.string SS] 9)) (by go_simp) ⟨⟨_, rfl, ?_⟩, (Below.refl _ _).alloc (Nat.le_refl _) _⟩
      rw [HSS.out]
      exact str_one w8 s
    · have q0 := hW 0 (by decide)
      simp only at q0
      obtain ⟨b2, q2, hs2⟩ := hW 2 (by decide)
      rw [q0, q2]
      clear hW
      refine stepAt_call rfl rfl rfl 8 #[.string SK, .slice (some ⟨b2, 0, none⟩) 1 1] (by go_simp) ?_
      rw [HSK.out]
      refine (macOf_any w8 k _ 1 1 b2 0 [s] (HTI.out w8 hG) (by omega) rfl (by omega) hs2 (by simp; omega)).mono fun e w' ⟨h1, h2⟩ => ⟨_, h1, ?_, h2⟩
      simp
    · clear hW
      refine stepAt_value rfl rfl rfl (.string SK) w8 ?_ ⟨rfl, Below.refl _ _⟩
      go_simp
    · clear hW
      refine stepAt_value rfl rfl rfl (.string SS) w8 ?_ ⟨rfl, Below.refl _ _⟩
      go_simp
    · have q4 := hW 4 (by decide)
      simp only at q4
      have q5 := hW 5 (by decide)
      simp only at q5
      rw [q4, q5]
      clear hW
      refine stepAt_call rfl rfl rfl 9 #[.string SK, .string SS] (by go_simp) ?_
      rw [HSK.out, HSS.out]
      exact (refTag_any w8 k s (by omega) (by omega)).mono fun e w' ⟨h1, h2⟩ => ⟨_, h1, rfl, h2⟩
    · have q3 := hW 3 (by decide)
      simp only at q3
      have q6 := hW 6 (by decide)
      simp only at q6
      rw [q3, q6]
      clear hW
      refine stepAt_value rfl rfl rfl (.bool true) w8 ?_ ⟨rfl, Below.refl _ _⟩
      have he := heq w8
      go_simp
    · have q7 := hW 7 (by decide)
      simp only at q7
      rw [q7]
      clear hW
      refine stepAt_value rfl rfl rfl (.bool true) w8 ?_ ⟨rfl, Below.refl _ _⟩
      go_simp
    · have q8 := hW 8 (by decide)
      simp only at q8
      rw [q8]
      clear hW
      refine stepAt_value rfl rfl rfl (.string SK) w8 ?_ ⟨rfl, Below.refl _ _⟩
      go_simp
    · have q8 := hW 8 (by decide)
      simp only at q8
      rw [q8]
      clear hW
      refine stepAt_value rfl rfl rfl (.string SS) w8 ?_ ⟨rfl, Below.refl _ _⟩
      go_simp
    · have q8 := hW 8 (by decide)
      simp only at q8
      rw [q8]
      clear hW
      refine stepAt_value rfl rfl rfl (.int .i64 (c : Int)) w8 ?_ ⟨rfl, Below.refl _ _⟩
      go_simp
    · have q8 := hW 8 (by decide)
      simp only at q8
      have q10 := hW 10 (by decide)
      simp only at q10
      have q11 := hW 11 (by decide)
      simp only at q11
      rw [q8, q10, q11]
      clear hW
      refine stepAt_value rfl rfl rfl (.string SA) w8 ?_ ⟨rfl, Below.refl _ _⟩
      go_simp
    · have q8 := hW 8 (by decide)
      simp only at q8
      rw [q8]
      clear hW
      refine stepAt_value rfl rfl rfl (.string SS) w8 ?_ ⟨rfl, Below.refl _ _⟩
      go_simp
    · have q8 := hW 8 (by decide)
      simp only at q8
      rw [q8]
      clear hW
      refine stepAt_value rfl rfl rfl (.int .i64 (c : Int)) w8 ?_ ⟨rfl, Below.refl _ _⟩
      go_simp
    · have q8 := hW 8 (by decide)
      simp only at q8
      have q13 := hW 13 (by decide)
      simp only at q13
      have q14 := hW 14 (by decide)
      simp only at q14
      rw [q8, q13, q14]
      clear hW
      refine stepAt_value rfl rfl rfl (.string SB) w8 ?_ ⟨rfl, Below.refl _ _⟩
      go_simp
    · have q8 := hW 8 (by decide)
      simp only at q8
      have q12 := hW 12 (by decide)
      simp only at q12
      have q15 := hW 15 (by decide)
      simp only at q15
      rw [q8, q12, q15]
      clear hW
      refine stepAt_value rfl rfl rfl (.slice (some ⟨w8.heap.size, 0, none⟩) 2 2) (w8.alloc (.cells #[.string SA, .string SB] 9)) (by go_simp) ⟨⟨_, rfl, ?_⟩, (Below.refl _ _).alloc (Nat.le_refl _) _⟩
      rw [HSA.out, HSB.out]
      exact str_two w8 _ _
    · have q8 := hW 8 (by decide)
      simp only at q8
      have q9 := hW 9 (by decide)
      simp only at q9
      obtain ⟨b2, q2, hs2⟩ := hW 16 (by decide)
      rw [q8, q9, q2]
      clear hW
      refine stepAt_call rfl rfl rfl 8 #[.string SK, .slice (some ⟨b2, 0, none⟩) 2 2] (by go_simp) ?_
      rw [HSK.out]
      refine (macOf_any w8 k _ 2 2 b2 0 [s.take c, s.drop c] (HTI.out w8 hG) (by omega) rfl (by omega) hs2 (by simp; omega)).mono fun e w' ⟨h1, h2⟩ => ⟨_, h1, ?_, h2⟩
      simp
    · have q8 := hW 8 (by decide)
      simp only at q8
      rw [q8]
      clear hW
      refine stepAt_value rfl rfl rfl (.string SK) w8 ?_ ⟨rfl, Below.refl _ _⟩
      go_simp
    · have q8 := hW 8 (by decide)
      simp only at q8
      rw [q8]
      clear hW
      refine stepAt_value rfl rfl rfl (.string SS) w8 ?_ ⟨rfl, Below.refl _ _⟩
      go_simp
    · have q8 := hW 8 (by decide)
      simp only at q8
      have q18 := hW 18 (by decide)
      simp only at q18
      have q19 := hW 19 (by decide)
      simp only at q19
      rw [q8, q18, q19]
      clear hW
      refine stepAt_call rfl rfl rfl 9 #[.string SK, .string SS] (by go_simp) ?_
      rw [HSK.out, HSS.out]
      exact (refTag_any w8 k s (by omega) (by omega)).mono fun e w' ⟨h1, h2⟩ => ⟨_, h1, rfl, h2⟩
    · have q8 := hW 8 (by decide)
      simp only at q8
      have q17 := hW 17 (by decide)
      simp only at q17
      have q20 := hW 20 (by decide)
      simp only at q20
      rw [q8, q17, q20]
      clear hW
      refine stepAt_value rfl rfl rfl (.bool true) w8 ?_ ⟨rfl, Below.refl _ _⟩
      have he := heq w8
      go_simp
    · have q8 := hW 8 (by decide)
      simp only at q8
      have q21 := hW 21 (by decide)
      simp only at q21
      rw [q8, q21]
      clear hW
      refine stepAt_value rfl rfl rfl (.bool true) w8 ?_ ⟨rfl, Below.refl _ _⟩
      go_simp
    · have q22 := hW 22 (by decide)
      simp only at q22
      rw [q22]
      clear hW
      refine stepAt_value rfl rfl rfl (.bool true) w8 ?_ ⟨rfl, Below.refl _ _⟩
      go_simp
  case fin =>
    intro vals w8 hG hV
    have q23 := hV 23 (by omega)
    simp only at q23
    simp only [List.take_succ_cons, List.take_zero, List.drop_succ_cons, List.drop_zero, putAll, Act.put, List.setIfInBounds_toArray, List.set_cons_zero, List.set_cons_succ, Nat.reduceAdd]
    rw [q23]
    have HB := Lib.hid (HB1.out.trans (hG.mono HB1.out.size))
    clear hV q23
    go_wp2_with fail
    go_ret
    exact ⟨rfl, HB.out⟩
end Go.Proofs.YtmkdcpnnnlihfaaDoor
