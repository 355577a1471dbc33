/-
  What the document's Good (layer 7), and the statements' great, answer.
-/
import Derived.Test.YtnbdpalbompjlaaDoorM12
namespace Go.Proofs.YtnbdpalbompjlaaDoor
open Go.RowKit
set_option maxRecDepth 10000

/-- How many say yes. -/
def yesN (l : List Bool) : Nat := (l.filter id).length
theorem yesN_succ {l : List Bool} {k : Nat} {x : Bool} (h : l[k]? = some x) : yesN (l.take (k + 1)) = yesN (l.take k) + x.toNat := by
  unfold yesN
  rw [List.take_add_one, h]
  cases x <;> simp
theorem yesN_le (l : List Bool) : yesN l ≤ l.length := List.length_filter_le _ _
theorem yesN_pos (l : List Bool) : decide (0 < yesN l) = l.any id := by
  rw [Bool.eq_iff_iff]
  unfold yesN
  rw [decide_eq_true_eq, List.length_pos_iff_exists_mem, List.any_eq_true]
  constructor
  · rintro ⟨x, hx⟩
    obtain ⟨h1, h2⟩ := List.mem_filter.1 hx
    exact ⟨x, h1, h2⟩
  · rintro ⟨x, h1, h2⟩
    exact ⟨x, List.mem_filter.2 ⟨h1, h2⟩⟩

theorem msg_none {M : Msg} (h : M.k < 1 ∨ 3 < M.k) : msgGood M = false := by
  unfold msgGood
  rw [if_neg (by omega), if_neg (by omega), if_neg (by omega), Bool.and_false]

set_option maxHeartbeats 4000000 in
theorem refgood_out (w : World) (M : Msg) (sl : Value) (hf : M.Fits) (h : M.k < 1 ∨ 3 < M.k ∨ M.s < 0 ∨ 1073741824 < M.s ∨ M.m < 0 ∨ 65535 < M.m) :
    Calls Tryd.prog 32 #[.agg (mc M sl).toArray] w fun e w' => e = .returned (.bool false) ∧ Below w.heap.size w w' := by
  have hk0 := Blk.new w 32 (mc M sl).toArray
  have hb0 := (Below.refl w.heap.size w).alloc (Nat.le_refl _) (.cells (mc M sl).toArray 32)
  obtain ⟨c0, c1, c34, _, _⟩ := Blk.msg (g := w.heap.size) (M := M) (sl := sl) hk0 hf
  have HB := Lib.hid hb0
  clear hk0 hb0
  generalize (mc M sl).toArray = C at *
  by_cases d1 : M.k < 1
  · go_enter Tryd.func32, Tryd.ntmps32
    go_wp2
    go_ret
    exact ⟨rfl, HB.out⟩
  · by_cases d2 : 3 < M.k
    · go_enter Tryd.func32, Tryd.ntmps32
      go_wp2
      go_ret
      exact ⟨rfl, HB.out⟩
    · by_cases d3 : M.s < 0
      · go_enter Tryd.func32, Tryd.ntmps32
        go_wp2
        go_ret
        exact ⟨rfl, HB.out⟩
      · by_cases d4 : 1073741824 < M.s
        · go_enter Tryd.func32, Tryd.ntmps32
          go_wp2
          go_ret
          exact ⟨rfl, HB.out⟩
        · by_cases d5 : M.m < 0
          · go_enter Tryd.func32, Tryd.ntmps32
            go_wp2
            go_ret
            exact ⟨rfl, HB.out⟩
          · have d6 : 65535 < M.m := by omega
            go_enter Tryd.func32, Tryd.ntmps32
            go_wp2
            go_ret
            exact ⟨rfl, HB.out⟩

set_option maxHeartbeats 4000000 in
theorem refgood_in (w : World) (M : Msg) (sl : Value) (hf : M.Fits) (hr : BRow w w.heap.size sl M.l) (hl : M.l.length ≤ 1000) (h : 1 ≤ M.k ∧ M.k ≤ 3 ∧ 0 ≤ M.s ∧ M.s ≤ 1073741824 ∧ 0 ≤ M.m ∧ M.m ≤ 65535) :
    Calls Tryd.prog 32 #[.agg (mc M sl).toArray] w fun e w' => e = .returned (.bool (msgGood M)) ∧ Below w.heap.size w w' := by
  have hk0 := Blk.new w 32 (mc M sl).toArray
  have hb0 := (Below.refl w.heap.size w).alloc (Nat.le_refl _) (.cells (mc M sl).toArray 32)
  have hrr := hr.bits hb0
  obtain ⟨c0, c1, c34, c35, c36⟩ := Blk.msg (g := w.heap.size) (M := M) (sl := sl) hk0 hf
  obtain ⟨ao, cap, b, off, hsl, _, _, hat⟩ := hrr
  replace c36 := c36.trans (congrArg some hsl)
  have HB := Lib.hid hb0
  have HAT := Lib.hid hat
  obtain ⟨i0, i1, i2, i3, i4, i5⟩ := h
  have d1 : ¬ M.k < 1 := by omega
  have d2 : ¬ 3 < M.k := by omega
  have d3 : ¬ M.s < 0 := by omega
  have d4 : ¬ 1073741824 < M.s := by omega
  have d5 : ¬ M.m < 0 := by omega
  have d6 : ¬ 65535 < M.m := by omega
  have HM := Lib.hid (msg_in ⟨i2, i3, i4, i5⟩)
  have HE := Lib.hid (nat_eq0 M.l.length)
  have HEb := Lib.hid (nat_eq0 M.b)
  have HEm := Lib.hid (int_eq0 M.m)
  have HY := Lib.hid (yesN_pos M.l)
  obtain ⟨L, hL⟩ : ∃ L, L = M.l.length := ⟨_, rfl⟩
  rw [← hL] at hl c36 HE HM
  have HL := Lib.hid hL
  clear hk0 hr hb0 hsl hat hL
  generalize (mc M sl).toArray = C at *
  obtain ⟨w0, hw0⟩ : ∃ x, w.alloc (.cells C 32) = x := ⟨_, rfl⟩
  obtain ⟨g, hg⟩ : ∃ x, w.heap.size = x := ⟨_, rfl⟩
  rw [hw0] at c0 c1 c34 c35 c36 HB HAT
  rw [hg] at c0 c1 c34 c35 c36
  have HW0 := Lib.hid hw0
  have HG := Lib.hid hg
  clear hw0 hg
  go_enter Tryd.func32, Tryd.ntmps32
  go_upto_region 1 with fail
  rw [HW0.out, HG.out]
  go_wp2_with fail
  go_loop [3, 5, 37] (fun y _ i => ∃ k : Nat, k ≤ L ∧ i = .int .i64 k ∧ y = .int .i64 (yesN (M.l.take k) : Int)) (fun _ _ i => L - (intOf i).toNat)
  case atStart => exact ⟨0, Nat.zero_le _, rfl, rfl⟩
  case round =>
    obtain ⟨k, hk, rfl, rfl⟩ := hrel
    by_cases hlt : k < L
    · have hkl : k < M.l.length := by rw [← HL.out]; exact hlt
      obtain ⟨x, hx⟩ : ∃ x, M.l[k]? = some x := ⟨_, List.getElem?_eq_getElem hkl⟩
      obtain rfl := HAT.out.addr (by omega)
      have cx := HAT.out.cells k x hx
      have HS := Lib.hid (yesN_succ hx)
      have hyl := yesN_le (M.l.take k)
      rw [List.length_take] at hyl
      have hyl2 : yesN (M.l.take k) ≤ 1000 := by omega
      generalize yesN (M.l.take k) = Y at *
      clear hx hkl hyl
      cases x
      · go_wp2
        go_round
        case rel => exact ⟨k + 1, by omega, by go_num, by rw [HS.out]; simp⟩
        case measure => simp [intOf]; omega
      · go_wp2
        go_round
        case rel => exact ⟨k + 1, by omega, by go_num, by rw [HS.out]; go_num⟩
        case measure => simp [intOf]; omega
    · have hall : M.l.take k = M.l := List.take_of_length_le (by rw [← HL.out]; omega)
      rw [hall]
      clear hall
      generalize yesN M.l = Y at *
      rcases (show M.k = 1 ∨ M.k = 2 ∨ M.k = 3 by omega) with q | q | q
      · rw [q] at c0 HM
        rw [if_pos rfl, ← HE.out] at HM
        by_cases h0 : L = 0
        · have hE : ((L : Int) == 0) = true := by rw [HE.out]; simpa using h0
          rw [hE] at HM
          go_wp2
          go_ret
          exact ⟨by rw [HM.out]; rfl, HB.out⟩
        · have hE : ((L : Int) == 0) = false := by rw [HE.out]; simpa using h0
          rw [hE] at HM
          go_wp2
          go_ret
          exact ⟨by rw [HM.out]; rfl, HB.out⟩
      · rw [q] at c0 HM
        rw [if_neg (by omega), if_pos rfl, ← HE.out, ← HEb.out] at HM
        by_cases h0 : L = 0
        · have hE : ((L : Int) == 0) = true := by rw [HE.out]; simpa using h0
          rw [hE, Bool.true_and] at HM
          go_wp2
          go_ret
          exact ⟨by rw [HM.out]; rfl, HB.out⟩
        · have hE : ((L : Int) == 0) = false := by rw [HE.out]; simpa using h0
          rw [hE, Bool.false_and] at HM
          go_wp2
          go_ret
          exact ⟨by rw [HM.out]; rfl, HB.out⟩
      · rw [q] at c0 HM
        rw [if_neg (by omega), if_neg (by omega), if_pos rfl, ← HEm.out, ← HEb.out, ← HY.out] at HM
        by_cases hm : M.m = 0
        · have e1 : (M.m == 0) = true := by simpa using hm
          rw [e1, Bool.true_and] at HM
          by_cases hb : M.b = 0
          · have e2 : ((M.b : Int) == 0) = true := by rw [HEb.out]; simpa using hb
            rw [e2, Bool.true_and] at HM
            by_cases h16 : L ≤ 16
            · have e3 : decide ((L : Int) ≤ 16) = true := by simp; omega
              rw [show decide (L ≤ 16) = true by simp; omega, Bool.true_and] at HM
              go_wp2
              go_ret
              exact ⟨by rw [HM.out]; rfl, HB.out⟩
            · have e3 : decide ((L : Int) ≤ 16) = false := by simp; omega
              rw [show decide (L ≤ 16) = false by simp; omega, Bool.false_and] at HM
              go_wp2
              go_ret
              exact ⟨by rw [HM.out]; rfl, HB.out⟩
          · have e2 : ((M.b : Int) == 0) = false := by rw [HEb.out]; simpa using hb
            rw [e2, Bool.false_and] at HM
            go_wp2
            go_ret
            exact ⟨by rw [HM.out]; rfl, HB.out⟩
        · have e1 : (M.m == 0) = false := by simpa using hm
          rw [e1, Bool.false_and, Bool.false_and] at HM
          go_wp2
          go_ret
          exact ⟨by rw [HM.out]; rfl, HB.out⟩

theorem refgood_any (w : World) (M : Msg) (sl : Value) (hf : M.Fits) (hr : BRow w w.heap.size sl M.l) (hl : M.l.length ≤ 1000) :
    Calls Tryd.prog 32 #[.agg (mc M sl).toArray] w fun e w' => e = .returned (.bool (msgGood M)) ∧ Below w.heap.size w w' := by
  by_cases h : M.k < 1 ∨ 3 < M.k ∨ M.s < 0 ∨ 1073741824 < M.s ∨ M.m < 0 ∨ 65535 < M.m
  · have hg : msgGood M = false := by
      by_cases hk : M.k < 1 ∨ 3 < M.k
      · exact msg_none hk
      · exact msg_out (by omega)
    rw [hg]
    exact refgood_out w M sl hf h
  · exact refgood_in w M sl hf hr hl (by omega)
end Go.Proofs.YtnbdpalbompjlaaDoor
