/-
  What the clock does, call by call: 'Clk w b n W' says that a clock of the slot n and the window W lies at the block b.
-/
import Derived.Test.YtanpckikgfmgoaaBase
import Derived.Test.YtanpckikgfmgoaaRows
import Derived.Lib.Hide
import Derived.WalkKit
import Derived.IntWalk
import Derived.Deep.QuietTactic
import Derived.BigQuiet
namespace Go.Proofs.Ytanpckikgfmgoaa
open Go.RowKit
set_option maxRecDepth 10000

def Clk (w : World) (b : Nat) (n W : Int) : Prop := w.heap[b]? = some (.cells #[.int .i64 n, .int .i64 W] 37 (0, 0))

theorem Clk.cell0 {w : World} {b : Nat} {n W : Int} (h : Clk w b n W) : w.cell? ⟨b, 0, none⟩ = some (.int .i64 n) := by
  unfold Clk at h; simp [World.cell?, h]
theorem Clk.cell1 {w : World} {b : Nat} {n W : Int} (h : Clk w b n W) : w.cell? ⟨b, 1, none⟩ = some (.int .i64 W) := by
  unfold Clk at h; simp [World.cell?, h]
theorem Clk.free {w : World} {b : Nat} {n W : Int} (h : Clk w b n W) (j : Nat) : w.frozen? ⟨b, j, none⟩ = false := by
  unfold Clk at h; simp [World.frozen?, h]
theorem Clk.lt {w : World} {b : Nat} {n W : Int} (h : Clk w b n W) : b < w.heap.size := by
  unfold Clk at h; exact (Array.getElem?_eq_some_iff.1 h).1
theorem Clk.set {w : World} {b : Nat} {n W : Int} (h : Clk w b n W) (m : Int) : Clk (w.setCell ⟨b, 0, none⟩ (.int .i64 m)) b m W := by
  unfold Clk at h ⊢; simp [World.setCell, Array.getElem?_modify, h]
theorem Clk.keep {w w' : World} {b : Nat} {n W : Int} (h : Clk w b n W) (hb : w'.heap[b]? = w.heap[b]?) : Clk w' b n W := by
  unfold Clk at h ⊢; rw [hb, h]
theorem Clk.below {w w' : World} {b : Nat} {n W : Int} (h : Clk w b n W) (hb : Below w.heap.size w w') : Clk w' b n W := h.keep (hb.block b h.lt)
theorem Clk.grown {w w' : World} {b : Nat} {n W : Int} {row : Option Nat} (h : Clk w b n W) (hb : w.grownBy w' row) (hne : some b ≠ row) : Clk w' b n W := h.keep (hb.block b h.lt hne)

theorem ck_refl (w : World) (row : Option Nat) : w.grownBy w row := ⟨rfl, rfl, rfl, Nat.le_refl _, fun _ _ _ => rfl⟩
theorem ck_set {w w' : World} {b : Nat} (h : w.grownBy w' (some b)) (j : Nat) (u : Value) : w.grownBy (w'.setCell ⟨b, j, none⟩ u) (some b) :=
  ⟨h.os, h.tape, h.output, by simpa [World.setCell] using h.size, fun k hk hne => (Below.heap_setCell w' ⟨b, j, none⟩ u k (fun e => hne (by rw [e]))).trans (h.block k hk hne)⟩
theorem ck_below {w w' : World} {b B : Nat} (h : w.grownBy w' (some b)) (hB : B ≤ w.heap.size) (hb : B ≤ b) : Below B w w' :=
  (Below.refl _ _).grown h hB fun k e => by cases e; exact hb

theorem ck_drewN {B : Nat} {a w : World} (h : Below B a w) (k : Nat) : Below B a (w.drewN k) := ⟨h.os, h.tape, h.output, h.size, h.block⟩

def ckWin (W : Int) : Int := min (max W 1) 64
def ckFirst (n W : Int) : Int := max (n - W) 0
def ckVote (n W s : Int) : Bool := decide (ckFirst n W ≤ s) && decide (s ≤ min (n + 1) 1073741824)
def ckBlock (n f s : Int) : Bool := decide (f < s) && decide (s ≤ n)

theorem ckWin_one (W : Int) : 1 ≤ ckWin W := by unfold ckWin; omega
theorem ckWin_most (W : Int) : ckWin W ≤ 64 := by unfold ckWin; omega
theorem ckVote_eq {n W s : Int} (hn : n < 1073741824) : ckVote n W s = (decide (ckFirst n W ≤ s) && decide (s ≤ n + 1)) := by
  unfold ckVote; rw [Int.min_eq_left (by omega)]
theorem ckBlock_true {n f s : Int} (h1 : f < s) (h2 : s ≤ n) : ckBlock n f s = true := by simp [ckBlock, h1, h2]
theorem ckBlock_low {n f s : Int} (h1 : ¬ f < s) : ckBlock n f s = false := by simp [ckBlock, h1]
theorem ckBlock_high {n f s : Int} (h1 : ¬ s ≤ n) : ckBlock n f s = false := by simp [ckBlock, h1]

theorem clk_new (w : World) (n W : Int) : Clk (w.alloc (.cells #[.int .i64 n, .int .i64 W] 37)) w.heap.size n W := heap_alloc_new w _

theorem cnew_any (w : World) (x : Int) : Calls Try.prog 14 #[.int .i64 x] w fun e w' => e = .returned (.pointer (some ⟨w.heap.size, 0, none⟩)) ∧ w' = w.alloc (.cells #[.int .i64 0, .int .i64 (ckWin x)] 37) := by
  by_cases h1 : x < 1
  · rw [show ckWin x = 1 by unfold ckWin; omega]
    go_enter Try.func14, Try.ntmps14
    go_wp2_with fail
    go_ret
    exact ⟨rfl, rfl⟩
  · by_cases h2 : 64 < x
    · rw [show ckWin x = 64 by unfold ckWin; omega]
      go_enter Try.func14, Try.ntmps14
      go_wp2_with fail
      go_ret
      exact ⟨rfl, rfl⟩
    · rw [show ckWin x = x by unfold ckWin; omega]
      go_enter Try.func14, Try.ntmps14
      go_wp2_with fail
      go_ret
      exact ⟨rfl, rfl⟩

theorem now_nil (w : World) : Calls Try.prog 8 #[.pointer none] w fun e w' => e = .returned (.int .i64 0) ∧ ∃ m, w' = w.drewN m := by
  go_enter Try.func8, Try.ntmps8
  go_wp2_with fail
  go_ret
  exact ⟨rfl, 0, rfl⟩
theorem tick_nil (w : World) : Calls Try.prog 9 #[.pointer none] w fun e w' => e = .returned (.bool false) ∧ ∃ m, w' = w.drewN m := by
  go_enter Try.func9, Try.ntmps9
  go_wp2_with fail
  go_ret
  exact ⟨rfl, 0, rfl⟩
theorem first_nil (w : World) : Calls Try.prog 10 #[.pointer none] w fun e w' => e = .returned (.int .i64 0) ∧ ∃ m, w' = w.drewN m := by
  go_enter Try.func10, Try.ntmps10
  go_wp2_with fail
  go_ret
  exact ⟨rfl, 0, rfl⟩
theorem block_nil (w : World) (f s : Int) : Calls Try.prog 11 #[.pointer none, .int .i64 f, .int .i64 s] w fun e w' => e = .returned (.bool false) ∧ ∃ m, w' = w.drewN m := by
  go_enter Try.func11, Try.ntmps11
  go_wp2_with fail
  go_ret
  exact ⟨rfl, 0, rfl⟩
theorem vote_nil (w : World) (s : Int) : Calls Try.prog 12 #[.pointer none, .int .i64 s] w fun e w' => e = .returned (.bool false) ∧ ∃ m, w' = w.drewN m := by
  go_enter Try.func12, Try.ntmps12
  go_wp2_with fail
  go_ret
  exact ⟨rfl, 0, rfl⟩
theorem ripe_nil (w : World) (s : Int) : Calls Try.prog 13 #[.pointer none, .int .i64 s] w fun e w' => e = .returned (.bool false) ∧ ∃ m, w' = w.drewN m := by
  go_enter Try.func13, Try.ntmps13
  go_wp2_with fail
  go_ret
  exact ⟨rfl, 0, rfl⟩

theorem now_any (w : World) (b : Nat) (n W : Int) (h : Clk w b n W) : Calls Try.prog 8 #[.pointer (some ⟨b, 0, none⟩)] w fun e w' => e = .returned (.int .i64 n) ∧ ∃ m, w' = w.drewN m := by
  have h0 := h.cell0
  go_enter Try.func8, Try.ntmps8
  go_wp2_with fail
  go_ret
  exact ⟨rfl, 0, rfl⟩

/-- A tick, where there is a next slot. -/
theorem tick_any (w : World) (b : Nat) (n W : Int) (h : Clk w b n W) (hn0 : 0 ≤ n) (hn : n < 1073741824) :
    Calls Try.prog 9 #[.pointer (some ⟨b, 0, none⟩)] w fun e w' => e = .returned (.bool true) ∧ Clk w' b (n + 1) W ∧ w.grownBy w' (some b) := by
  have h0 := h.cell0
  have f0 := h.free 0
  have d1 : ¬ ((1073741824 : Int) ≤ n) := by omega
  go_enter Try.func9, Try.ntmps9
  go_wp2_with fail
  go_ret
  exact ⟨rfl, h.set _, ck_set (ck_refl _ _) _ _⟩

theorem first_any (w : World) (b : Nat) (n W : Int) (h : Clk w b n W) (hn0 : 0 ≤ n) (hn : n ≤ 1073741824) (hW0 : 1 ≤ W) (hW : W ≤ 64) :
    Calls Try.prog 10 #[.pointer (some ⟨b, 0, none⟩)] w fun e w' => e = .returned (.int .i64 (ckFirst n W)) ∧ ∃ m, w' = w.drewN m := by
  have h0 := h.cell0
  have h1 := h.cell1
  by_cases hl : n - W < 0
  · rw [show ckFirst n W = 0 by unfold ckFirst; omega]
    go_enter Try.func10, Try.ntmps10
    go_wp2_with fail
    go_quiet (fail)
    go_wp2_with fail
    go_ret
    exact ⟨rfl, _, rfl⟩
  · rw [show ckFirst n W = n - W by unfold ckFirst; omega]
    go_enter Try.func10, Try.ntmps10
    go_wp2_with fail
    go_quiet (fail)
    go_wp2_with fail
    go_ret
    exact ⟨rfl, _, rfl⟩

theorem block_any (w : World) (b : Nat) (n W f s : Int) (h : Clk w b n W) :
    Calls Try.prog 11 #[.pointer (some ⟨b, 0, none⟩), .int .i64 f, .int .i64 s] w fun e w' => e = .returned (.bool (ckBlock n f s)) ∧ ∃ m, w' = w.drewN m := by
  have h0 := h.cell0
  by_cases h1 : f < s
  · by_cases h2 : s ≤ n
    · rw [show ckBlock n f s = true by simp [ckBlock, h1, h2]]
      go_enter Try.func11, Try.ntmps11
      go_wp2_with fail
      go_ret
      exact ⟨rfl, 0, rfl⟩
    · rw [show ckBlock n f s = false by simp [ckBlock, h2]]
      go_enter Try.func11, Try.ntmps11
      go_wp2_with fail
      go_ret
      exact ⟨rfl, 0, rfl⟩
  · rw [show ckBlock n f s = false by simp [ckBlock, h1]]
    go_enter Try.func11, Try.ntmps11
    go_wp2_with fail
    go_ret
    exact ⟨rfl, 0, rfl⟩

theorem ripe_any (w : World) (b : Nat) (n W s : Int) (h : Clk w b n W) :
    Calls Try.prog 13 #[.pointer (some ⟨b, 0, none⟩), .int .i64 s] w fun e w' => e = .returned (.bool (decide (s < n))) ∧ ∃ m, w' = w.drewN m := by
  have h0 := h.cell0
  by_cases h1 : s < n
  · rw [show decide (s < n) = true by simp [h1]]
    go_enter Try.func13, Try.ntmps13
    go_wp2_with fail
    go_ret
    exact ⟨rfl, 0, rfl⟩
  · rw [show decide (s < n) = false by simp [h1]]
    go_enter Try.func13, Try.ntmps13
    go_wp2_with fail
    go_ret
    exact ⟨rfl, 0, rfl⟩

theorem vote_any (w : World) (b : Nat) (n W s : Int) (h : Clk w b n W) (hn0 : 0 ≤ n) (hn : n ≤ 1073741824) (hW0 : 1 ≤ W) (hW : W ≤ 64) :
    Calls Try.prog 12 #[.pointer (some ⟨b, 0, none⟩), .int .i64 s] w fun e w' => e = .returned (.bool (ckVote n W s)) ∧ ∃ m, w' = w.drewN m := by
  have HF := Lib.hid (first_any w b n W h hn0 hn hW0 hW)
  obtain ⟨F, hF⟩ : ∃ F, F = ckFirst n W := ⟨_, rfl⟩
  rw [← hF] at HF
  have H := Lib.hid h
  clear h
  by_cases h1 : F ≤ s
  · by_cases h3 : n + 1 ≤ 1073741824
    · rw [show ckVote n W s = decide (s ≤ n + 1) by simp only [ckVote, ← hF, h1, decide_true, Bool.true_and, decide_eq_decide]; omega]
      clear hF
      go_enter Try.func12, Try.ntmps12
      go_wp2_with fail
      refine HF.out.mono ?_
      rintro e w1 ⟨rfl, m1, rfl⟩
      have c0 := (H.out.keep (w' := w.drewN m1) rfl).cell0
      go_wp2_with fail
      go_ret
      exact ⟨rfl, m1, rfl⟩
    · rw [show ckVote n W s = decide (s ≤ 1073741824) by simp only [ckVote, ← hF, h1, decide_true, Bool.true_and, decide_eq_decide]; omega]
      clear hF
      go_enter Try.func12, Try.ntmps12
      go_wp2_with fail
      refine HF.out.mono ?_
      rintro e w1 ⟨rfl, m1, rfl⟩
      have c0 := (H.out.keep (w' := w.drewN m1) rfl).cell0
      go_wp2_with fail
      go_ret
      exact ⟨rfl, m1, rfl⟩
  · rw [show ckVote n W s = false by simp [ckVote, ← hF, h1]]
    clear hF
    go_enter Try.func12, Try.ntmps12
    go_wp2_with fail
    refine HF.out.mono ?_
    rintro e w1 ⟨rfl, m1, rfl⟩
    go_wp2_with fail
    go_ret
    exact ⟨rfl, m1, rfl⟩
end Go.Proofs.Ytanpckikgfmgoaa
