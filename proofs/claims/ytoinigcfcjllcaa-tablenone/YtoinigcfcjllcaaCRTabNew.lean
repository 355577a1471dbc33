/-
  The texts RTabNew, one behind the other.
-/
import Derived.Test.YtoinigcfcjllcaaNoneM8
import Derived.Test.YtoinigcfcjllcaaNoneM2
import Derived.Test.YtoinigcfcjllcaaNoneM3
/-
  The document's table: New.
-/
namespace Go.Proofs.Ytoinigcfcjllcaa
open Go Go.RowKit
set_option maxRecDepth 10000

theorem tab_zero : (Try.prog.info? 69).map (fun i => (i.zero.isSome, i.size)) = some (true, 6) := by kernel_rfl
theorem lrow_new (n k : Nat) : lrow (newT n k) = fun _ => vcl vt0 := by
  funext i
  unfold lrow
  rw [newT_lt]
set_option maxHeartbeats 4000000 in
theorem rtnew_bad (w : World) (n k : Int) (h : ¬ (1 ≤ n ∧ n ≤ 64 ∧ 1 ≤ k ∧ k ≤ 32)) : Calls Try.prog 17 #[.int .i64 n, .int .i64 k] w fun e w' => e = .returned (.tuple #[.pointer none, .bool false]) ∧ w' = w := by
  by_cases h1 : n < 1
  · clear h
    go_enter Try.func17, Try.ntmps17
    go_wp2_with fail
    go_ret2
    exact ⟨rfl, rfl⟩
  · by_cases h2 : (64 : Int) < n
    · clear h
      go_enter Try.func17, Try.ntmps17
      go_wp2_with fail
      go_ret2
      exact ⟨rfl, rfl⟩
    · by_cases h3 : k < 1
      · clear h
        go_enter Try.func17, Try.ntmps17
        go_wp2_with fail
        go_ret2
        exact ⟨rfl, rfl⟩
      · have h4 : (32 : Int) < k := by omega
        clear h
        go_enter Try.func17, Try.ntmps17
        go_wp2_with fail
        go_ret2
        exact ⟨rfl, rfl⟩
set_option maxHeartbeats 4000000 in
theorem rtnew_any (w : World) (n k : Int) (h1 : 1 ≤ n) (h2 : n ≤ 64) (h3 : 1 ≤ k) (h4 : k ≤ 32) : Calls Try.prog 17 #[.int .i64 n, .int .i64 k] w fun e w' =>
    ∃ F b, e = .returned (.tuple #[.pointer (some ⟨b, 0, none⟩), .bool true]) ∧ (∃ g1 g2 g3 v, RP w' F b g1 g2 g3 v (newT n.toNat k.toNat)) ∧ High w.heap.size F ∧ Below w.heap.size w w' := by
  obtain ⟨N, rfl⟩ : ∃ N : Nat, n = (N : Int) := ⟨n.toNat, by omega⟩
  obtain ⟨K, rfl⟩ : ∃ K : Nat, k = (K : Int) := ⟨k.toNat, by omega⟩
  rw [Int.toNat_natCast, Int.toNat_natCast]
  obtain ⟨i0, hi0, hz0, hz1, hz2⟩ := info_parts Try.infoVote
  obtain ⟨i1, hi1, hy0, hy1, hy2⟩ := info_parts Try.infoB
  have hmk := fun W => run_makeSlice (P := Try.prog) W 50 29 i0 (.agg (vcl vt0).toArray) Try.underlying50 hi0 hz0 .i64 .i64 (N : Int) (N : Int) (by omega) (by omega) (by rw [hz1]; simp; omega) (by rw [hz2]; omega) (by omega)
  simp only [hz1, Int.toNat_natCast] at hmk
  have HMV := Lib.hid hmk
  clear hmk
  have hmk := fun W => run_makeSlice (P := Try.prog) W 51 4 i1 (.bool false) Try.underlying51 hi1 hy0 .i64 .i64 (N : Int) (N : Int) (by omega) (by omega) (by rw [hy1]; simp; omega) (by rw [hy2]; omega) (by omega)
  simp only [hy1, Nat.mul_one, Int.toNat_natCast] at hmk
  have HMB := Lib.hid hmk
  have HNN := Lib.hid h1
  clear hmk
  have h5 : ¬ (N : Int) < 1 := by omega
  have h6 : ¬ (64 : Int) < (N : Int) := by omega
  have h7 : ¬ (K : Int) < 1 := by omega
  have h8 : ¬ (32 : Int) < (K : Int) := by omega
  go_enter Try.func17, Try.ntmps17
  go_upto_region 3 with fail
  refine wp_region_freeO (P := Try.prog) 8 5 7 (by decide) (by decide) (by decide) (fun w' => Below w.heap.size w w') (fun oq v w' => match oq with
      | 0 => v = .int .i64 (N : Int)
      | 1 => v = .int .i64 (K : Int)
      | 2 => v = .int .i64 (N : Int)
      | 3 => ∃ g, v = .slice (some ⟨g, 0, none⟩) N N ∧ Blk w' g 29 (rowsOf N (fun _ => vcl vt0)) ∧ w.heap.size ≤ g
      | 4 => v = .int .i64 (N : Int)
      | 5 => ∃ g, v = .slice (some ⟨g, 0, none⟩) N N ∧ Blk w' g 4 (ov (List.replicate N false)) ∧ w.heap.size ≤ g
      | 6 => v = .int .i64 (N : Int)
      | 7 => ∃ g, v = .slice (some ⟨g, 0, none⟩) N N ∧ Blk w' g 4 (ov (List.replicate N false)) ∧ w.heap.size ≤ g
      | _ => True) (by kernel_rfl) (by kernel_rfl) (Below.refl _ _).drew ?gb ?vb ?o1 ?o2 ?steps ?fin
  case gb => exact fun a b h1 h2 => h1.trans (h2.mono h1.size)
  case vb =>
    intro oq v a b h hb
    match oq with
    | 0 => exact h
    | 1 => exact h
    | 2 => exact h
    | 3 => obtain ⟨g, h1, h2, h3⟩ := h; exact ⟨g, h1, h2.below hb h2.lt, h3⟩
    | 4 => exact h
    | 5 => obtain ⟨g, h1, h2, h3⟩ := h; exact ⟨g, h1, h2.below hb h2.lt, h3⟩
    | 6 => exact h
    | 7 => obtain ⟨g, h1, h2, h3⟩ := h; exact ⟨g, h1, h2.below hb h2.lt, h3⟩
    | _ + 8 => trivial
  case o1 => exact fun v w h => (by obtain ⟨g, h1, h2, h3⟩ := h; exact ⟨g, by rw [h1]; rfl, h2.lt⟩)
  case o2 => exact fun v w h => (by obtain ⟨g, h1, h2, h3⟩ := h; exact ⟨g, by rw [h1]; rfl, h2.lt⟩)
  case steps =>
    intro vals
    simp only [List.take_succ_cons, List.take_zero, freeStepsO, Act.put, List.setIfInBounds_toArray, List.set_cons_zero, List.set_cons_succ, Nat.reduceAdd, Nat.reduceEqDiff, reduceIte]
    refine ⟨fun w8 hG hW => ?_, fun w8 hG hW => ?_, fun w8 hG hW => ?_, fun w8 hG hW => ?_, fun w8 hG hW => ?_, fun w8 hG hW => ?_, fun w8 hG hW => ?_, fun w8 hG hW => ?_, trivial⟩
    · clear hW
      refine stepAt_value rfl rfl rfl (.int .i64 (N : Int)) w8 ?_ ⟨rfl, Below.refl _ _⟩
      go_simp
    · clear hW
      refine stepAt_value rfl rfl rfl (.int .i64 (K : Int)) w8 ?_ ⟨rfl, Below.refl _ _⟩
      go_simp
    · clear hW
      refine stepAt_value rfl rfl rfl (.int .i64 (N : Int)) w8 ?_ ⟨rfl, Below.refl _ _⟩
      go_simp
    · have q2 := hW 2 (by decide)
      simp only at q2
      rw [q2]
      clear hW
      have hmk := HMV.out w8
      refine stepAt_value rfl rfl rfl (.slice (some ⟨w8.heap.size, 0, none⟩) N N) (w8.alloc (.cells (madeCells (Value.agg (vcl vt0).toArray).cells (N * 34)) 29)) (by go_simp) ⟨⟨w8.heap.size, rfl, by rw [← made_rows (vcl vt0) (vcl_length vt0_len) N]; exact Blk.new w8 29 _, hG.size⟩, (Below.refl _ _).alloc (Nat.le_refl _) _⟩
    · clear hW
      refine stepAt_value rfl rfl rfl (.int .i64 (N : Int)) w8 ?_ ⟨rfl, Below.refl _ _⟩
      go_simp
    · have q4 := hW 4 (by decide)
      simp only at q4
      rw [q4]
      clear hW
      have hmk := HMB.out w8
      refine stepAt_value rfl rfl rfl (.slice (some ⟨w8.heap.size, 0, none⟩) N N) (w8.alloc (.cells (madeCells (Value.bool false).cells N) 4)) (by go_simp) ?_
      exact ⟨⟨w8.heap.size, rfl, by rw [← made_no]; exact Blk.new w8 4 _, hG.size⟩, (Below.refl _ _).alloc (Nat.le_refl _) _, rfl⟩
    · clear hW
      refine stepAt_value rfl rfl rfl (.int .i64 (N : Int)) w8 ?_ ⟨rfl, Below.refl _ _⟩
      go_simp
    · have q6 := hW 6 (by decide)
      simp only at q6
      rw [q6]
      clear hW
      have hmk := HMB.out w8
      refine stepAt_value rfl rfl rfl (.slice (some ⟨w8.heap.size, 0, none⟩) N N) (w8.alloc (.cells (madeCells (Value.bool false).cells N) 4)) (by go_simp) ?_
      exact ⟨⟨w8.heap.size, rfl, by rw [← made_no]; exact Blk.new w8 4 _, hG.size⟩, (Below.refl _ _).alloc (Nat.le_refl _) _, rfl⟩
  case fin =>
    intro vals w9 hB hV hO
    have q0 := hV 0 (by omega)
    have q1 := hV 1 (by omega)
    obtain ⟨g1, q3, hg1, hL1⟩ := hV 3 (by omega)
    obtain ⟨g2, q5, hg2, hL2⟩ := hV 5 (by omega)
    obtain ⟨g3, q7, hg3, hL3⟩ := hV 7 (by omega)
    simp only at q0 q1
    rw [q5, q7] at hO
    simp only [List.take_succ_cons, List.take_zero, List.drop_succ_cons, List.drop_zero, putAll, Act.put, List.setIfInBounds_toArray, List.set_cons_zero, List.set_cons_succ, Nat.reduceAdd]
    rw [q0, q1, q3, q5, q7]
    clear hV q0 q1 q3 q5 q7
    have hne23 : g2 ≠ g3 := fun e => hO (by rw [e])
    have hne12 : g1 ≠ g2 := fun e => by subst e; unfold Blk at hg1 hg2; rw [hg1] at hg2; simp at hg2
    have hne13 : g1 ≠ g3 := fun e => by subst e; unfold Blk at hg1 hg3; rw [hg1] at hg3; simp at hg3
    have b1 := hg1.lt
    have b2 := hg2.lt
    have b3 := hg3.lt
    have HT := Lib.hid (show RP (w9.alloc (.cells #[.int .i64 (N : Int), .int .i64 (K : Int), .slice none 0 0, .slice (some ⟨g1, 0, none⟩) N N, .slice (some ⟨g2, 0, none⟩) N N, .slice (some ⟨g3, 0, none⟩) N N] 69)) [w9.heap.size, g1, g2, g3] w9.heap.size g1 g2 g3 (.slice none 0 0) (newT N K) from
      ⟨.new (by omega) (by omega) (by omega) (by omega), Blk.new w9 _ _, wide_nil0 _ _ _, by rw [lrow_new]; exact hg1.alloc _, hg2.alloc _, hg3.alloc _, ⟨by omega, by omega, by omega, hne12, hne13, hne23⟩, fun j hj => (by cases hj), ⟨by simp, by simp, by simp, by simp⟩, fun j hj => (by cases hj), fun x hx => by simp at hx; simp; omega⟩)
    have HHI := Lib.hid (show High w.heap.size [w9.heap.size, g1, g2, g3] from fun x hx => by have := hB.size; simp at hx; omega)
    have HB := Lib.hid (hB.alloc hB.size (.cells #[.int .i64 (N : Int), .int .i64 (K : Int), .slice none 0 0, .slice (some ⟨g1, 0, none⟩) N N, .slice (some ⟨g2, 0, none⟩) N N, .slice (some ⟨g3, 0, none⟩) N N] 69))
    clear hO hne12 hne13 hne23 hg1 hg2 hg3 b1 b2 b3 hL1 hL2 hL3 hB
    generalize vals 2 = y2
    generalize vals 4 = y4
    generalize vals 6 = y6
    go_wp2_with fail
    go_ret2
    exact ⟨_, _, rfl, ⟨_, _, _, _, HT.out⟩, HHI.out, HB.out⟩
end Go.Proofs.Ytoinigcfcjllcaa
