/-
  The document's own tree: its New, Below, Kids.
-/
import Derived.Test.YtmchjmcdlapegaaRefAdd
namespace Go.Proofs.Ytmchjmcdlapegaa
open Go Go.RowKit
set_option maxRecDepth 10000

theorem wpList_build_row {P : Program} {ops : Array Oper} {rest : List Oper} {o : Oper} {a : Act} {w : World} {Q : Exit → Act → World → Prop} (hgd : Region.wanted o (yielded ops a.tmps) = true) (t e : TypeId) (x : Operand) (ho : o.op = .buildSlice t 1 #[(0, x)]) (r : List Value) (hx : a.eval x = .agg r.toArray)
    (ie : TypeInfo) (z : Value) {s : Nat} (hs : 0 < s) (hr : r.length = s) (hu : P.underlying t = some (.slice e)) (hie : P.info? e = some ie) (hz : ie.zero = some z) (hsz : ie.size = s) (hsmall : 1 * s ≤ 2 ^ 24)
    (h : wpList P ops Q rest (a.put o.dst (.slice (some ⟨w.heap.size, 0, none⟩) 1 1)) (w.alloc (.cells r.toArray e))) : wpList P ops Q (o :: rest) a w := by
  have := run_build_rows (P := P) w t e 1 #[(0, .agg r.toArray)] ie z hs [r] (fun y hy => by simp at hy; rw [hy]; exact hr) hu hie hz hsz rfl (by omega) hsmall rfl
  rw [show ([r] : List (List Value)).flatten = r by simp] at this
  refine wpList_step fun K hK => ?_
  rw [if_pos hgd]
  unfold Oper.wp execOp
  simp only [ho, List.map_toArray, List.map_cons, List.map_nil, hx, Sem.run_bind, this, Result.andThen_ok]
  exact hK _ _ h

theorem ref_start (w : World) (r : List UInt8) (s most : Int) (hr : r.length = 32) (A B C D : Nat) (hA : A = w.heap.size) (hB : B = w.heap.size + 1) (hC : C = w.heap.size + 2) (hD : D = w.heap.size + 3) :
    Sls ((((w.alloc (.cells (bv r).toArray 23)).alloc (.cells #[.int .i64 s] 3)).alloc (.cells (bv zero32).toArray 23)).alloc (.cells #[.slice (some ⟨A, 0, none⟩) 1 1, .slice (some ⟨B, 0, none⟩) 1 1, .slice (some ⟨C, 0, none⟩) 1 1, .int .i64 most] 69)) [A, B, C, D] D 69 (refItems (.slice (some ⟨A, 0, none⟩) 1 1) (.slice (some ⟨B, 0, none⟩) 1 1) (.slice (some ⟨C, 0, none⟩) 1 1) [(r, s, -1)]) [.int .i64 most] := by
  have e1 : rv (rs [(r, s, (-1 : Int))]) = bv r := by simp [rs, rv]
  have e2 : zs [(r, s, (-1 : Int))] = [.int .i64 s] := rfl
  have e3 : rv (pns [(r, s, (-1 : Int))]) = bv zero32 := by rw [pns_one]; simp [rv]
  have s1 : (w.alloc (.cells (bv r).toArray 23)).heap.size = w.heap.size + 1 := by simp
  have s2 : ((w.alloc (.cells (bv r).toArray 23)).alloc (.cells #[.int .i64 s] 3)).heap.size = w.heap.size + 2 := by simp
  have s3 : (((w.alloc (.cells (bv r).toArray 23)).alloc (.cells #[.int .i64 s] 3)).alloc (.cells (bv zero32).toArray 23)).heap.size = w.heap.size + 3 := by simp
  have w1 := (((wide_new 32 1 w 23 (bv r) (by rw [bv_length, hr]) (by unfold maxLen; omega)).alloc (.cells #[.int .i64 s] 3)).alloc (.cells (bv zero32).toArray 23)).alloc (.cells #[.slice (some ⟨A, 0, none⟩) 1 1, .slice (some ⟨B, 0, none⟩) 1 1, .slice (some ⟨C, 0, none⟩) 1 1, .int .i64 most] 69)
  have w2 := ((wide_new 1 1 (w.alloc (.cells (bv r).toArray 23)) 3 [.int .i64 s] rfl (by unfold maxLen; omega)).alloc (.cells (bv zero32).toArray 23)).alloc (.cells #[.slice (some ⟨A, 0, none⟩) 1 1, .slice (some ⟨B, 0, none⟩) 1 1, .slice (some ⟨C, 0, none⟩) 1 1, .int .i64 most] 69)
  have w3 := (wide_new 32 1 ((w.alloc (.cells (bv r).toArray 23)).alloc (.cells #[.int .i64 s] 3)) 23 (bv zero32) (by rw [bv_length, zero32_len]) (by unfold maxLen; omega)).alloc (.cells #[.slice (some ⟨A, 0, none⟩) 1 1, .slice (some ⟨B, 0, none⟩) 1 1, .slice (some ⟨C, 0, none⟩) 1 1, .int .i64 most] 69)
  rw [s1, ← hB] at w2
  rw [s2, ← hC] at w3
  rw [← hA] at w1
  refine ⟨?_, fun x hx => ?_, fun x hx => ?_, ?_, by simp, fun x hx k hk => ?_, fun x hx => ?_⟩
  · exact Blk.newAt (((w.alloc (.cells (bv r).toArray 23)).alloc (.cells #[.int .i64 s] 3)).alloc (.cells (bv zero32).toArray 23)) 69 #[.slice (some ⟨A, 0, none⟩) 1 1, .slice (some ⟨B, 0, none⟩) 1 1, .slice (some ⟨C, 0, none⟩) 1 1, .int .i64 most] D (by rw [s3]; exact hD)
  · simp only [refItems, List.mem_cons, List.not_mem_nil, or_false] at hx
    rcases hx with rfl | rfl | rfl
    · simp only [e1]; exact w1.mono (Nat.zero_le _)
    · exact w2.mono (Nat.zero_le _)
    · simp only [e3]; exact w3.mono (Nat.zero_le _)
  · simp only [refItems, List.mem_cons, List.not_mem_nil, or_false] at hx
    rcases hx with rfl | rfl | rfl <;> simp [Value.ownBlock] <;> omega
  · intro i j x y hij hx hy k hk
    have hxl := (List.getElem?_eq_some_iff.1 hx).1
    have hyl := (List.getElem?_eq_some_iff.1 hy).1
    simp [refItems] at hxl hyl
    have hi : i = 0 ∨ i = 1 ∨ i = 2 := by omega
    have hj : j = 0 ∨ j = 1 ∨ j = 2 := by omega
    rcases hi with rfl | rfl | rfl <;> rcases hj with rfl | rfl | rfl <;> simp [refItems] at hx hy <;> subst hx <;> subst hy <;> simp [Value.ownBlock] at hk ⊢ <;> omega
  · simp only [refItems, List.mem_cons, List.not_mem_nil, or_false] at hx
    rcases hx with rfl | rfl | rfl <;> simp [Value.ownBlock] at hk <;> simp [hk]
  · simp at hx
    simp
    omega

set_option maxHeartbeats 4000000 in
theorem refnew_ok (w : World) (r : List UInt8) (s most : Int) (hr : r.length = 32) (h1 : 1 ≤ most) (h2 : most ≤ 256) (h3 : 0 ≤ s) (h4 : s ≤ 1073741824) :
    Calls Try.prog 18 #[.agg (bv r).toArray, .int .i64 s, .int .i64 most] w fun e w' => ∃ F b, e = .returned (.tuple #[.pointer (some ⟨b, 0, none⟩), .bool true]) ∧ Ref w' F b [(r, s, -1)] most ∧ High w.heap.size F ∧ Below w.heap.size w w' := by
  obtain ⟨i0, hi0, hz0, hz1, hz2⟩ := info_parts Try.infoRootB
  have HX := Lib.hid (Blk.new w 23 (bv r).toArray)
  obtain ⟨X, hX⟩ : ∃ X, X = w.heap.size := ⟨_, rfl⟩
  have HB := Lib.hid (show Below w.heap.size w (w.alloc (.cells (bv r).toArray 23)) from (Below.refl _ w).alloc (Nat.le_refl _) _)
  have d1 : ¬ (most < (1 : Int)) := by omega
  have d2 : ¬ ((256 : Int) < most) := by omega
  have d3 : ¬ (s < (0 : Int)) := by omega
  have d4 : ¬ ((1073741824 : Int) < s) := by omega
  go_enter Try.func18, Try.ntmps18
  go_upto_region 3 with fail
  rw [← hX] at HX ⊢
  generalize w.alloc (.cells (bv r).toArray 23) = w1 at HX HB ⊢
  clear hX
  have HXA := Lib.hid HX.out.rootAll
  have HR32 := Lib.hid (show (bv r).length = 32 by rw [bv_length, hr])
  have HZ32 := Lib.hid (show (bv zero32).length = 32 by rw [bv_length, zero32_len])
  have HP32 := Lib.hid (show 0 < 32 by omega)
  have HP24 := Lib.hid (show 1 * 32 ≤ 2 ^ 24 by omega)
  have HS := Lib.hid (ref_start w1 r s most hr w1.heap.size (w1.heap.size + 1) (w1.heap.size + 2) (w1.heap.size + 3) rfl rfl rfl rfl)
  have HG := Lib.hid (Good.one hr h3 h4 h1 h2)
  have HF := Lib.hid (show High w.heap.size [w1.heap.size, w1.heap.size + 1, w1.heap.size + 2, w1.heap.size + 3] from fun x hx => by have := HB.out.size; simp at hx; omega)
  have HB4 := Lib.hid (show Below w.heap.size w ((((w1.alloc (.cells (bv r).toArray 23)).alloc (.cells #[.int .i64 s] 3)).alloc (.cells (bv zero32).toArray 23)).alloc (.cells #[.slice (some ⟨w1.heap.size, 0, none⟩) 1 1, .slice (some ⟨w1.heap.size + 1, 0, none⟩) 1 1, .slice (some ⟨w1.heap.size + 2, 0, none⟩) 1 1, .int .i64 most] 69)) from (((HB.out.alloc HB.out.size _).alloc (by have := HB.out.size; simp; omega) _).alloc (by have := HB.out.size; simp; omega) _).alloc (by have := HB.out.size; simp; omega) _)
  go_wp2_with (first
    | ((with_reducible refine wpList_load_name (.tmp 3) ?_ ?_ X 0 r ?_ hr HXA.out ?_); rfl; rfl; rfl)
    | ((with_reducible refine wpList_build_row ?_ 32 23 (.tmp 22) ?_ (bv r) ?_ i0 (.agg (bv zero32).toArray) (s := 32) HP32.out HR32.out Try.underlying32 hi0 hz0 hz1 HP24.out ?_); rfl; rfl; rfl)
    | ((with_reducible refine wpList_build_row ?_ 32 23 (.tmp 26) ?_ (bv zero32) ?_ i0 (.agg (bv zero32).toArray) (s := 32) HP32.out HZ32.out Try.underlying32 hi0 hz0 hz1 HP24.out ?_); rfl; rfl; rfl))
  try simp only [Nat.add_assoc, Nat.reduceAdd]
  go_ret2
  exact ⟨_, _, rfl, ⟨HG.out, _, _, _, HS.out⟩, HF.out, HB4.out⟩

theorem refnew_bad (w : World) (r : List UInt8) (s most : Int) (h : ¬ (1 ≤ most ∧ most ≤ 256 ∧ 0 ≤ s ∧ s ≤ 1073741824)) :
    Calls Try.prog 18 #[.agg (bv r).toArray, .int .i64 s, .int .i64 most] w fun e w' => e = .returned (.tuple #[.pointer none, .bool false]) ∧ Below w.heap.size w w' := by
  have HB := Lib.hid (show Below w.heap.size w (w.alloc (.cells (bv r).toArray 23)) from (Below.refl _ w).alloc (Nat.le_refl _) _)
  go_enter Try.func18, Try.ntmps18
  by_cases h1 : most < 1
  · clear h
    go_wp2_with fail
    go_ret2
    exact ⟨rfl, HB.out⟩
  · by_cases h2 : 256 < most
    · clear h
      go_wp2_with fail
      go_ret2
      exact ⟨rfl, HB.out⟩
    · by_cases h3 : s < 0
      · clear h
        go_wp2_with fail
        go_ret2
        exact ⟨rfl, HB.out⟩
      · have h4 : (1073741824 : Int) < s := by omega
        clear h
        go_wp2_with fail
        go_ret2
        exact ⟨rfl, HB.out⟩
end Go.Proofs.Ytmchjmcdlapegaa
