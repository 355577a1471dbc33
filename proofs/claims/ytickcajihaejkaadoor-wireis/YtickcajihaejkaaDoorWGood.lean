/-
  What wire.Good, and what it calls, answer.
-/
import Derived.Test.YtickcajihaejkaaDoorMsgMem
import Derived.Deep.DeepCutAuto
namespace Go.Proofs.YtickcajihaejkaaDoor
open Go.RowKit
set_option maxRecDepth 10000

theorem any_take_succ {l : List Bool} {k : Nat} {x : Bool} (h : l[k]? = some x) : (l.take (k + 1)).any id = ((l.take k).any id || x) := by
  rw [List.take_add_one, h]
  simp

set_option maxHeartbeats 1000000 in
theorem bindex_any (w : World) (u : Value) (l : List Bool) (hu : BRow w w.heap.size u l) (hl : l.length ≤ 1000) :
    Calls Tryd.prog 40 #[u, .bool true] w fun e w' => ∃ z : Int, e = .returned (.int .i64 z) ∧ Hid (decide (0 ≤ z) = l.any id) ∧ w = w' := by
  obtain ⟨ao, cap, b, off, rfl, _, _, hr⟩ := hu
  obtain ⟨L, hL⟩ : ∃ L, L = l.length := ⟨_, rfl⟩
  rw [← hL] at hl
  rw [← hL]
  have HL := Lib.hid hL
  have HR := Lib.hid hr
  clear hL hr
  go_enter Tryd.func40, Tryd.ntmps40
  go_wp2_with fail
  go_loop [5, 8] (fun _ i => ∃ k : Nat, k ≤ L ∧ i = .int .i64 k ∧ Hid ((l.take k).any id = false)) (fun _ i => L - (intOf i).toNat)
  case atStart => exact ⟨0, Nat.zero_le _, rfl, Lib.hid rfl⟩
  case round =>
    obtain ⟨k, hk, rfl, HN⟩ := hrel
    by_cases hlt : k < L
    · have hkl : k < l.length := by rw [← HL.out]; exact hlt
      obtain ⟨x, hx⟩ : ∃ x, l[k]? = some x := ⟨_, List.getElem?_eq_getElem hkl⟩
      obtain rfl := HR.out.addr (by omega)
      have c1 := HR.out.cells k x hx
      have HS := Lib.hid (any_take_succ hx)
      have HX := Lib.hid hx
      clear hx hkl
      cases x
      · go_wp2
        go_round
        case rel => exact ⟨k + 1, by omega, by go_num, Lib.hid (by rw [HS.out, HN.out]; rfl)⟩
        case measure => simp [intOf]; omega
      · go_wp2
        go_ret
        refine ⟨_, rfl, Lib.hid ?_, rfl⟩
        have : l.any id = true := List.any_eq_true.2 ⟨true, List.mem_of_getElem? HX.out, rfl⟩
        rw [this]
        simp
    · have HA := Lib.hid (show l.any id = false by rw [← HN.out, List.take_of_length_le (by rw [← HL.out]; omega)])
      go_wp2
      go_ret
      exact ⟨_, rfl, Lib.hid (by rw [HA.out]; rfl), rfl⟩

theorem bcontains_any (w : World) (u : Value) (l : List Bool) (hu : BRow w w.heap.size u l) (hl : l.length ≤ 1000) :
    Calls Tryd.prog 30 #[u, .bool true] w fun e w' => e = .returned (.bool (l.any id)) ∧ w = w' := by
  have H := Lib.hid (bindex_any w u l hu hl)
  clear hu
  go_enter Tryd.func30, Tryd.ntmps30
  go_wp2_with fail
  refine H.out.mono ?_
  rintro e w1 ⟨z, rfl, HZ, rfl⟩
  go_wp2
  go_ret
  exact ⟨by rw [← HZ.out]; rfl, rfl⟩

set_option maxHeartbeats 1000000 in
theorem goodRow_any (w : World) (u : Value) (l : List Bool) (hu : BRow w w.heap.size u l) :
    Calls Tryd.prog 16 #[u] w fun e w' => e = .returned (.bool (decide (l.length ≤ 16) && l.any id)) ∧ w = w' := by
  by_cases h16 : l.length ≤ 16
  · have H := Lib.hid (bcontains_any w u l hu (by omega))
    obtain ⟨ao, cap, rfl⟩ := hu.form
    rw [show decide (l.length ≤ 16) = true by simp; omega, Bool.true_and]
    have h1 : (l.length : Int) ≤ 16 := by omega
    generalize l.any id = A at H ⊢
    generalize l.length = L at *
    clear hu
    go_enter Tryd.func16, Tryd.ntmps16
    go_wp2_with fail
    refine H.out.mono ?_
    rintro e w1 ⟨rfl, rfl⟩
    go_wp2
    go_ret
    exact ⟨rfl, rfl⟩
  · obtain ⟨ao, cap, rfl⟩ := hu.form
    rw [show decide (l.length ≤ 16) = false by simp; omega, Bool.false_and]
    have h1 : ¬ (l.length : Int) ≤ 16 := by omega
    generalize l.length = L at *
    clear hu
    go_enter Tryd.func16, Tryd.ntmps16
    go_wp2
    go_ret
    exact ⟨rfl, rfl⟩

theorem msg_out {M : Msg} (h : ¬ (0 ≤ M.s ∧ M.s ≤ 1073741824 ∧ 0 ≤ M.m ∧ M.m ≤ 65535)) : msgGood M = false := by
  unfold msgGood
  rw [show decide (0 ≤ M.s ∧ M.s ≤ 1073741824 ∧ 0 ≤ M.m ∧ M.m ≤ 65535) = false by simpa using h, Bool.false_and]
theorem msg_in {M : Msg} (h : 0 ≤ M.s ∧ M.s ≤ 1073741824 ∧ 0 ≤ M.m ∧ M.m ≤ 65535) : msgGood M = (if M.k = 1 then decide (M.l.length = 0) else if M.k = 2 then decide (M.l.length = 0) && decide (M.b = 0) else if M.k = 3 then decide (M.m = 0) && decide (M.b = 0) && (decide (M.l.length ≤ 16) && M.l.any id) else false) := by
  unfold msgGood
  rw [show decide (0 ≤ M.s ∧ M.s ≤ 1073741824 ∧ 0 ≤ M.m ∧ M.m ≤ 65535) = true by simpa using h, Bool.true_and]

theorem nat_eq0 (n : Nat) : (((n : Nat) : Int) == 0) = decide (n = 0) := by
  rw [Bool.eq_iff_iff]; simp
theorem int_eq0 (n : Int) : (n == 0) = decide (n = 0) := by
  rw [Bool.eq_iff_iff]; simp

set_option maxHeartbeats 4000000 in
theorem wgood_any (w : World) (M : Msg) (sl : Value) (hf : M.Fits) (hr : BRow w w.heap.size sl M.l) :
    Calls Tryd.prog 8 #[.agg (mc M sl).toArray] w fun e w' => e = .returned (.bool (msgGood M)) ∧ Below w.heap.size w w' := by
  have hk0 := Blk.new w 29 (mc M sl).toArray
  have hb0 := (Below.refl w.heap.size w).alloc (Nat.le_refl _) (.cells (mc M sl).toArray 29)
  have HR := Lib.hid (hr.bits hb0)
  obtain ⟨c0, c1, c34, c35, c36⟩ := Blk.msg (g := w.heap.size) (M := M) (sl := sl) hk0 hf
  obtain ⟨ao, cap, hsl⟩ := hr.form
  replace c36 := c36.trans (congrArg some hsl)
  have HSL := Lib.hid hsl
  have HB := Lib.hid hb0
  clear hk0 hr hb0 hsl
  by_cases hin : 0 ≤ M.s ∧ M.s ≤ 1073741824 ∧ 0 ≤ M.m ∧ M.m ≤ 65535
  · have HM := Lib.hid (msg_in hin)
    obtain ⟨i1, i2, i3, i4⟩ := hin
    have d1 : ¬ M.s < 0 := by omega
    have d2 : ¬ 1073741824 < M.s := by omega
    have d3 : ¬ M.m < 0 := by omega
    have d4 : ¬ 65535 < M.m := by omega
    have HE := Lib.hid (nat_eq0 M.l.length)
    have HEb := Lib.hid (nat_eq0 M.b)
    have HEm := Lib.hid (int_eq0 M.m)
    by_cases k1 : M.k = 1
    · rw [HM.out, if_pos k1, ← HE.out]
      rw [k1] at c0
      clear HM k1
      generalize (mc M sl).toArray = C at *
      go_enter Tryd.func8, Tryd.ntmps8
      go_wp2
      go_ret
      exact ⟨rfl, HB.out⟩
    · by_cases k2 : M.k = 2
      · rw [HM.out, if_neg k1, if_pos k2, ← HE.out, ← HEb.out]
        rw [k2] at c0
        clear HM k1 k2
        generalize (mc M sl).toArray = C at *
        by_cases h0 : M.l.length = 0
        · rw [h0] at c36 ⊢
          go_enter Tryd.func8, Tryd.ntmps8
          go_wp2
          go_ret
          exact ⟨rfl, HB.out⟩
        · have e0 : (((M.l.length : Nat) : Int) == 0) = false := by rw [HE.out]; simpa using h0
          rw [e0, Bool.false_and]
          go_enter Tryd.func8, Tryd.ntmps8
          go_wp2
          go_ret
          exact ⟨rfl, HB.out⟩
      · by_cases k3 : M.k = 3
        · have HG := Lib.hid (goodRow_any _ sl M.l HR.out)
          rw [HM.out, if_neg k1, if_neg k2, if_pos k3, ← HEm.out, ← HEb.out]
          rw [k3] at c0
          have HG2 := HG.out
          obtain ⟨w0, hw0⟩ : ∃ x, x = w.alloc (.cells (mc M sl).toArray 29) := ⟨_, rfl⟩
          rw [← hw0, HSL.out] at HG2
          have HG := Lib.hid HG2
          rw [hw0] at HG
          clear HG2 hw0 HM k1 k2 k3
          generalize (mc M sl).toArray = C at *
          generalize (decide (M.l.length ≤ 16) && M.l.any id) = A at HG ⊢
          by_cases hm : M.m = 0
          · rw [hm] at c34 ⊢
            by_cases hb : M.b = 0
            · rw [hb] at c35 ⊢
              go_enter Tryd.func8, Tryd.ntmps8
              go_wp2_with fail
              refine HG.out.mono ?_
              rintro e w1 ⟨rfl, rfl⟩
              go_wp2
              go_ret
              exact ⟨rfl, HB.out⟩
            · have e0 : (((M.b : Nat) : Int) == 0) = false := by rw [HEb.out]; simpa using hb
              rw [e0]
              go_enter Tryd.func8, Tryd.ntmps8
              go_wp2
              go_ret
              exact ⟨rfl, HB.out⟩
          · have e0 : (M.m == 0) = false := by rw [HEm.out]; simpa using hm
            rw [e0]
            go_enter Tryd.func8, Tryd.ntmps8
            go_wp2
            go_ret
            exact ⟨rfl, HB.out⟩
        · rw [HM.out, if_neg k1, if_neg k2, if_neg k3]
          have e1 : (M.k == 1) = false := by simpa using k1
          have e2 : (M.k == 2) = false := by simpa using k2
          have e3 : (M.k == 3) = false := by simpa using k3
          clear HM
          generalize (mc M sl).toArray = C at *
          go_enter Tryd.func8, Tryd.ntmps8
          go_wp2
          go_ret
          exact ⟨rfl, HB.out⟩
  · rw [msg_out hin]
    generalize (mc M sl).toArray = C at *
    by_cases d1 : M.s < 0
    · go_enter Tryd.func8, Tryd.ntmps8
      go_wp2
      go_ret
      exact ⟨rfl, HB.out⟩
    · by_cases d2 : 1073741824 < M.s
      · go_enter Tryd.func8, Tryd.ntmps8
        go_wp2
        go_ret
        exact ⟨rfl, HB.out⟩
      · by_cases d3 : M.m < 0
        · go_enter Tryd.func8, Tryd.ntmps8
          go_wp2
          go_ret
          exact ⟨rfl, HB.out⟩
        · have d4 : 65535 < M.m := by omega
          go_enter Tryd.func8, Tryd.ntmps8
          go_wp2
          go_ret
          exact ⟨rfl, HB.out⟩
end Go.Proofs.YtickcajihaejkaaDoor
