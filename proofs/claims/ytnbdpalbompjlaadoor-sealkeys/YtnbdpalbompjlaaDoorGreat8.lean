/-
  Configurations that came in: which of them can be; what layer 8's great answers.
-/
import Derived.Test.YtnbdpalbompjlaaDoorM12
import Derived.Test.YtnbdpalbompjlaaDoorM13
namespace Go.Proofs.YtnbdpalbompjlaaDoor
open Go.RowKit
set_option maxRecDepth 100000

/-- These cells are a configuration's, with validators vs. -/
def CfgIn (w : World) (cs : List Value) (vs : List (Int × ByteArray)) : Prop :=
  ∃ (nao : Option Addr) (ncap b off : Nat) (n1 n2 n3 n4 n5 n6 n7 n8 n9 n10 n11 : Int),
    cs = [.slice nao vs.length ncap, .int .i64 n1, .int .i64 n2, .int .i64 n3, .int .i64 n4, .int .i64 n5, .int .i64 n6, .int .i64 n7, .int .i64 n8, .int .i64 n9, .int .i64 n10, .int .i64 n11] ∧
    Stakes vs ∧ Lies w w.heap.size nao b off (vc vs)
theorem CfgIn.below {w w' : World} {cs : List Value} {vs : List (Int × ByteArray)} (h : CfgIn w cs vs) (hb : Below w.heap.size w w') : CfgIn w' cs vs := by
  obtain ⟨nao, ncap, b, off, n1, n2, n3, n4, n5, n6, n7, n8, n9, n10, n11, e, h1, h2⟩ := h
  exact ⟨nao, ncap, b, off, n1, n2, n3, n4, n5, n6, n7, n8, n9, n10, n11, e, h1, h2.below hb⟩
theorem CfgIn.len {w : World} {cs : List Value} {vs : List (Int × ByteArray)} (h : CfgIn w cs vs) : cs.length = 12 := by
  obtain ⟨nao, ncap, b, off, n1, n2, n3, n4, n5, n6, n7, n8, n9, n10, n11, e, h1, h2⟩ := h
  rw [e]; rfl

theorem great_cfg (w : World) {cs : List Value} {vs : List (Int × ByteArray)} (h : CfgIn w cs vs) :
    Calls Tryd.prog 24 #[.agg cs.toArray] w fun e w' => ∃ y, e = .returned (.bool y) ∧ (y = false → vs.length ≤ 100) ∧ Below w.heap.size w w' := by
  obtain ⟨nao, ncap, b, off, n1, n2, n3, n4, n5, n6, n7, n8, n9, n10, n11, rfl, h1, h2⟩ := h
  exact (tooMuch_any w nao _ ncap b off n1 n2 n3 n4 n5 n6 n7 n8 n9 n10 n11 vs rfl h2).mono fun e w' ⟨he, hb⟩ => ⟨_, he, fun hy => by simp [tooMuch] at hy; omega, hb⟩
theorem good_cfg (w : World) {cs : List Value} {vs : List (Int × ByteArray)} (h : CfgIn w cs vs) (hl : vs.length ≤ 100) :
    Calls Tryd.prog 25 #[.agg cs.toArray] w fun e w' => ∃ y, e = .returned (.bool y) ∧ (y = true → ∃ C, ∀ W, CfgIn W cs vs → CfgOk W cs C vs) ∧ Below w.heap.size w w' := by
  obtain ⟨nao, ncap, b, off, n1, n2, n3, n4, n5, n6, n7, n8, n9, n10, n11, rfl, h1, h2⟩ := h
  refine (refGood_any w nao _ ncap b off n1 n2 n3 n4 n5 n6 n7 n8 n9 n10 n11 vs rfl (by omega) h1 h2).mono fun e w' ⟨he, hb⟩ => ⟨_, he, fun hy => ?_, hb⟩
  have hk := goodB_nums hy (v := (n2, min 16 (vs.length : Int))) (by simp [nums])
  have hg := good_len hy
  have hc := goodB_can hy
  simp only at hk
  obtain ⟨C, hC⟩ : ∃ C : Nat, n2 = C := ⟨n2.toNat, by omega⟩
  subst hC
  refine ⟨C, fun W hW => ?_⟩
  obtain ⟨nao', ncap', b', off', m1, m2, m3, m4, m5, m6, m7, m8, m9, m10, m11, e, _, h2'⟩ := hW
  simp only [List.cons.injEq, Value.slice.injEq, Value.int.injEq, true_and, and_true] at e
  obtain ⟨⟨rfl, rfl⟩, rfl, rfl, rfl, rfl, rfl, rfl, rfl, rfl, rfl, rfl, rfl⟩ := e
  exact ⟨nao, ncap, b', off', n1, n3, n4, n5, n6, n7, n8, n9, n10, n11, rfl, by omega, by omega, by omega, by omega, by omega, fun v hv => by
    have := hc v hv
    simp [can] at this
    omega, h2'⟩

set_option maxHeartbeats 4000000 in
theorem great8_any (w : World) {cs : List Value} {vs : List (Int × ByteArray)} (hc : CfgIn w cs vs) (M : Msg) (sl : Value) (hf : M.Fits) (hr : BRow w w.heap.size sl M.l) :
    Calls Tryd.prog 10 #[.agg cs.toArray, .agg (mc M sl).toArray] w fun e w' => ∃ y, e = .returned (.bool y) ∧ (y = false → (∃ C, ∀ W, CfgIn W cs vs → CfgOk W cs C vs) ∧ M.l.length ≤ 200) ∧ Below w.heap.size w w' := by
  have HF := Lib.hid hf
  have HC0 := Lib.hid ((Blk.new w 24 cs.toArray).alloc (.cells (mc M sl).toArray 32))
  have HM0 := Lib.hid (Blk.newAt (w.alloc (.cells cs.toArray 24)) 32 (mc M sl).toArray (w.heap.size + 1) (by simp))
  have hb0 : Below w.heap.size w ((w.alloc (.cells cs.toArray 24)).alloc (.cells (mc M sl).toArray 32)) := ((Below.refl w.heap.size w).alloc (Nat.le_refl _) _).alloc (by simp) _
  have HCI0 := Lib.hid (hc.below hb0)
  have HB0 := Lib.hid hb0
  obtain ⟨ao, cap, hsl⟩ := hr.form
  have HSL := Lib.hid hsl
  clear hb0 hr hc hf hsl
  obtain ⟨G, hG⟩ : ∃ G, G = w.heap.size + 1 := ⟨_, rfl⟩
  obtain ⟨D, hD⟩ : ∃ D, D = w.heap.size := ⟨_, rfl⟩
  go_enter Tryd.func10, Tryd.ntmps10
  go_upto_region 1 with fail
  generalize (w.alloc (.cells cs.toArray 24)).alloc (.cells (mc M sl).toArray 32) = w0 at HB0 HC0 HM0 HCI0 ⊢
  rw [← hG] at HM0 ⊢
  rw [← hD] at HC0 ⊢
  clear hG hD
  have HG0 := Lib.hid (great_cfg w0 HCI0.out)
  go_wp2_with ((with_reducible refine wpList_load_cfg (.tmp 2) ?_ ?_ D cs ?_ HC0.out HCI0.out.len ?_); rfl; rfl; rfl)
  refine HG0.out.mono ?_
  rintro e w1 ⟨y1, rfl, hy1, hb1⟩
  have HC1 := Lib.hid (HC0.out.below hb1 HC0.out.lt)
  have HM1 := Lib.hid (HM0.out.below hb1 HM0.out.lt)
  have HCI1 := Lib.hid (HCI0.out.below hb1)
  have HB1 := Lib.hid (HB0.out.trans (hb1.mono HB0.out.size))
  clear hb1 HC0 HM0 HCI0 HB0 HG0
  cases y1 with
  | true =>
    clear hy1
    go_wp2_with fail
    go_ret
    exact ⟨true, rfl, (fun h => by cases h), HB1.out⟩
  | false =>
    have hlen := hy1 rfl
    have HG1 := Lib.hid (good_cfg w1 HCI1.out hlen)
    clear hy1 hlen
    go_wp2_with ((with_reducible refine wpList_load_cfg (.tmp 2) ?_ ?_ D cs ?_ HC1.out HCI1.out.len ?_); rfl; rfl; rfl)
    refine HG1.out.mono ?_
    rintro e w2 ⟨y2, rfl, hy2, hb2⟩
    have HM2 := Lib.hid (HM1.out.below hb2 HM1.out.lt)
    have HB2 := Lib.hid (HB1.out.trans (hb2.mono HB1.out.size))
    cases y2 with
    | false =>
      clear hy2 hb2 HC1 HM1 HCI1 HB1 HG1
      go_wp2_with fail
      go_ret
      exact ⟨true, rfl, (fun h => by cases h), HB2.out⟩
    | true =>
      obtain ⟨C, hC⟩ := hy2 rfl
      have HOK := Lib.hid hC
      obtain ⟨_, _, _, _, c36⟩ := HM2.out.msg HF.out
      rw [HSL.out] at c36
      clear hy2 hb2 hC HC1 HM1 HCI1 HB1 HG1
      by_cases hl : (200 : Int) < (M.l.length : Int)
      · go_wp2_with fail
        go_ret
        exact ⟨true, rfl, (fun h => by cases h), HB2.out⟩
      · have HL := Lib.hid hl
        go_wp2_with fail
        go_ret
        exact ⟨decide ((200 : Int) < (M.l.length : Int)), rfl, fun _ => ⟨⟨C, HOK.out⟩, by have := HL.out; omega⟩, HB2.out⟩
end Go.Proofs.YtnbdpalbompjlaaDoor
