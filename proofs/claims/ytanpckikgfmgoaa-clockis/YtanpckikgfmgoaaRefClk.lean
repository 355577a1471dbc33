/-
  What the document's own clock (tollerref09) does, call by call.
-/
import Derived.Test.YtanpckikgfmgoaaClk
namespace Go.Proofs.Ytanpckikgfmgoaa
open Go.RowKit
set_option maxRecDepth 10000

def Cm (w : World) (b : Nat) (n W : Int) : Prop := w.heap[b]? = some (.cells #[.int .i64 n, .int .i64 W] 32 (0, 0))

theorem Cm.cell0 {w : World} {b : Nat} {n W : Int} (h : Cm w b n W) : w.cell? ⟨b, 0, none⟩ = some (.int .i64 n) := by
  unfold Cm at h; simp [World.cell?, h]
theorem Cm.cell1 {w : World} {b : Nat} {n W : Int} (h : Cm w b n W) : w.cell? ⟨b, 1, none⟩ = some (.int .i64 W) := by
  unfold Cm at h; simp [World.cell?, h]
theorem Cm.free {w : World} {b : Nat} {n W : Int} (h : Cm w b n W) (j : Nat) : w.frozen? ⟨b, j, none⟩ = false := by
  unfold Cm at h; simp [World.frozen?, h]
theorem Cm.lt {w : World} {b : Nat} {n W : Int} (h : Cm w b n W) : b < w.heap.size := by
  unfold Cm at h; exact (Array.getElem?_eq_some_iff.1 h).1
theorem Cm.set {w : World} {b : Nat} {n W : Int} (h : Cm w b n W) (m : Int) : Cm (w.setCell ⟨b, 0, none⟩ (.int .i64 m)) b m W := by
  unfold Cm at h ⊢; simp [World.setCell, Array.getElem?_modify, h]
theorem Cm.keep {w w' : World} {b : Nat} {n W : Int} (h : Cm w b n W) (hb : w'.heap[b]? = w.heap[b]?) : Cm w' b n W := by
  unfold Cm at h ⊢; rw [hb, h]
theorem Cm.below {w w' : World} {b : Nat} {n W : Int} (h : Cm w b n W) (hb : Below w.heap.size w w') : Cm w' b n W := h.keep (hb.block b h.lt)
theorem Cm.grown {w w' : World} {b : Nat} {n W : Int} {row : Option Nat} (h : Cm w b n W) (hb : w.grownBy w' row) (hne : some b ≠ row) : Cm w' b n W := h.keep (hb.block b h.lt hne)


theorem cm_new (w : World) (n W : Int) : Cm (w.alloc (.cells #[.int .i64 n, .int .i64 W] 32)) w.heap.size n W := heap_alloc_new w _

theorem refcnew_any (w : World) (x : Int) : Calls Try.prog 15 #[.int .i64 x] w fun e w' => e = .returned (.pointer (some ⟨w.heap.size, 0, none⟩)) ∧ w' = w.alloc (.cells #[.int .i64 0, .int .i64 (ckWin x)] 32) := by
  by_cases h1 : x < 1
  · rw [show ckWin x = 1 by unfold ckWin; omega]
    go_enter Try.func15, Try.ntmps15
    go_wp2_with fail
    go_ret
    exact ⟨rfl, rfl⟩
  · by_cases h2 : 64 < x
    · rw [show ckWin x = 64 by unfold ckWin; omega]
      go_enter Try.func15, Try.ntmps15
      go_wp2_with fail
      go_ret
      exact ⟨rfl, rfl⟩
    · rw [show ckWin x = x by unfold ckWin; omega]
      go_enter Try.func15, Try.ntmps15
      go_wp2_with fail
      go_ret
      exact ⟨rfl, rfl⟩

theorem reftick_any (w : World) (b : Nat) (n W : Int) (h : Cm w b n W) (hn0 : 0 ≤ n) (hn : n < 1073741824) :
    Calls Try.prog 16 #[.pointer (some ⟨b, 0, none⟩)] w fun e w' => e = .returned (.bool true) ∧ Cm w' b (n + 1) W ∧ w.grownBy w' (some b) := by
  have h0 := h.cell0
  have f0 := h.free 0
  have d1 : ¬ (n = (1073741824 : Int)) := by omega
  go_enter Try.func16, Try.ntmps16
  go_wp2_with fail
  go_ret
  exact ⟨rfl, h.set _, ck_set (ck_refl _ _) _ _⟩

theorem reffirst_any (w : World) (b : Nat) (n W : Int) (h : Cm w b n W) (hn0 : 0 ≤ n) (hn : n ≤ 1073741824) (hW0 : 1 ≤ W) (hW : W ≤ 64) :
    Calls Try.prog 20 #[.pointer (some ⟨b, 0, none⟩)] w fun e w' => e = .returned (.int .i64 (ckFirst n W)) ∧ ∃ m, w' = w.drewN m := by
  have H := Lib.hid h
  have h0 := h.cell0
  have h1 := h.cell1
  clear h
  by_cases hl : n < W
  · rw [show ckFirst n W = 0 by unfold ckFirst; omega]
    go_enter Try.func20, Try.ntmps20
    go_wp2_with fail
    go_quiet (fail)
    go_wp2_with fail
    go_ret
    exact ⟨rfl, _, rfl⟩
  · rw [show ckFirst n W = n - W by unfold ckFirst; omega]
    go_enter Try.func20, Try.ntmps20
    go_wp2_with fail
    go_quiet (fail)
    go_wp2_with fail
    go_quiet (fail)
    go_wp2_with fail
    go_ret
    exact ⟨rfl, _, World.drewN_drewN _ _ _⟩

theorem refblock_any (w : World) (b : Nat) (n W f s : Int) (h : Cm w b n W) :
    Calls Try.prog 17 #[.pointer (some ⟨b, 0, none⟩), .int .i64 f, .int .i64 s] w fun e w' => e = .returned (.bool (ckBlock n f s)) ∧ ∃ m, w' = w.drewN m := by
  have h0 := h.cell0
  by_cases h1 : f < s
  · rw [show ckBlock n f s = decide (s ≤ n) by simp only [ckBlock, h1, decide_true, Bool.true_and]]
    go_enter Try.func17, Try.ntmps17
    go_wp2_with fail
    go_ret
    exact ⟨rfl, 0, rfl⟩
  · rw [ckBlock_low h1]
    go_enter Try.func17, Try.ntmps17
    go_wp2_with fail
    go_ret
    exact ⟨rfl, 0, rfl⟩

theorem refripe_any (w : World) (b : Nat) (n W s : Int) (h : Cm w b n W) :
    Calls Try.prog 19 #[.pointer (some ⟨b, 0, none⟩), .int .i64 s] w fun e w' => e = .returned (.bool (decide (s < n))) ∧ ∃ m, w' = w.drewN m := by
  have h0 := h.cell0
  go_enter Try.func19, Try.ntmps19
  go_wp2_with fail
  go_ret
  exact ⟨rfl, 0, rfl⟩

theorem refvote_any (w : World) (b : Nat) (n W s : Int) (h : Cm w b n W) (hn0 : 0 ≤ n) (hn : n ≤ 1073741824) (hW0 : 1 ≤ W) (hW : W ≤ 64) (hs : -9223372036854775808 < s) (hs1 : s ≤ 9223372036854775807) :
    Calls Try.prog 18 #[.pointer (some ⟨b, 0, none⟩), .int .i64 s] w fun e w' => e = .returned (.bool (ckVote n W s)) ∧ ∃ m, w' = w.drewN m := by
  have HF := Lib.hid (reffirst_any w b n W h hn0 hn hW0 hW)
  obtain ⟨F, hF⟩ : ∃ F, F = ckFirst n W := ⟨_, rfl⟩
  rw [← hF] at HF
  have H := Lib.hid h
  clear h
  by_cases h1 : F ≤ s
  · by_cases h3 : s - 1 ≤ n
    · rw [show ckVote n W s = decide (s ≤ 1073741824) by simp only [ckVote, ← hF, h1, decide_true, Bool.true_and, decide_eq_decide]; omega]
      clear hF
      go_enter Try.func18, Try.ntmps18
      go_wp2_with fail
      refine HF.out.mono ?_
      rintro e w1 ⟨rfl, m1, rfl⟩
      have c0 := (H.out.keep (w' := w.drewN m1) rfl).cell0
      go_wp2_with fail
      go_ret
      exact ⟨rfl, m1, rfl⟩
    · rw [show ckVote n W s = false by simp only [ckVote, ← hF, h1, decide_true, Bool.true_and, decide_eq_false_iff_not]; omega]
      clear hF
      go_enter Try.func18, Try.ntmps18
      go_wp2_with fail
      refine HF.out.mono ?_
      rintro e w1 ⟨rfl, m1, rfl⟩
      have c0 := (H.out.keep (w' := w.drewN m1) rfl).cell0
      go_wp2_with fail
      go_ret
      exact ⟨rfl, m1, rfl⟩
  · rw [show ckVote n W s = false by simp [ckVote, ← hF, h1]]
    clear hF
    go_enter Try.func18, Try.ntmps18
    go_wp2_with fail
    refine HF.out.mono ?_
    rintro e w1 ⟨rfl, m1, rfl⟩
    have c0 := (H.out.keep (w' := w.drewN m1) rfl).cell0
    go_wp2_with fail
    go_ret
    exact ⟨rfl, m1, rfl⟩
end Go.Proofs.Ytanpckikgfmgoaa
