/-
  The texts SealCfg, SealSpk, SealVotes, Great8, RefSpk, RefVotes, one behind the other.
-/
import Derived.Test.YtnbdpalbompjlaaDoorM17
import Derived.Test.YtnbdpalbompjlaaDoorRefBoard
import Derived.Test.YtnbdpalbompjlaaDoorM18
import Derived.Test.YtnbdpalbompjlaaDoorM8
import Derived.Test.YtnbdpalbompjlaaDoorM12
import Derived.Test.YtnbdpalbompjlaaDoorM9
import Derived.Test.YtnbdpalbompjlaaDoorM3
import Derived.Test.YtnbdpalbompjlaaDoorM4
import Derived.Test.YtnbdpalbompjlaaDoorM13
import Derived.Test.YtnbdpalbompjlaaDoorLotsTk
/-
  A configuration that can be, as one row of cells; what layer 6's calls answer of it.
-/
namespace Go.Proofs.YtnbdpalbompjlaaDoor
open Go.RowKit
set_option maxRecDepth 10000

/-- These cells are a configuration's that can be: C to a committee, validators vs. -/
def CfgOk (w : World) (cs : List Value) (C : Nat) (vs : List (Int × ByteArray)) : Prop :=
  ∃ (nao : Option Addr) (ncap b off : Nat) (n1 n3 n4 n5 n6 n7 n8 n9 n10 n11 : Int),
    cs = [.slice nao vs.length ncap, .int .i64 n1, .int .i64 C, .int .i64 n3, .int .i64 n4, .int .i64 n5, .int .i64 n6, .int .i64 n7, .int .i64 n8, .int .i64 n9, .int .i64 n10, .int .i64 n11] ∧
    1 ≤ vs.length ∧ vs.length ≤ 1000 ∧ 1 ≤ C ∧ C ≤ vs.length ∧ C ≤ 16 ∧ (∀ v ∈ vs, v.2.size ≤ 500) ∧ Lies w w.heap.size nao b off (vc vs)

theorem CfgOk.below {w w' : World} {cs : List Value} {C : Nat} {vs : List (Int × ByteArray)} (h : CfgOk w cs C vs) (hb : Below w.heap.size w w') : CfgOk w' cs C vs := by
  obtain ⟨nao, ncap, b, off, n1, n3, n4, n5, n6, n7, n8, n9, n10, n11, e, h1, h2, h3, h4, h5, h6, h7⟩ := h
  exact ⟨nao, ncap, b, off, n1, n3, n4, n5, n6, n7, n8, n9, n10, n11, e, h1, h2, h3, h4, h5, h6, h7.below hb⟩
theorem CfgOk.len {w : World} {cs : List Value} {C : Nat} {vs : List (Int × ByteArray)} (h : CfgOk w cs C vs) : cs.length = 12 := by
  obtain ⟨nao, ncap, b, off, n1, n3, n4, n5, n6, n7, n8, n9, n10, n11, e, h⟩ := h
  rw [e]; rfl
theorem CfgOk.vals {w : World} {cs : List Value} {C : Nat} {vs : List (Int × ByteArray)} (h : CfgOk w cs C vs) : 1 ≤ vs.length ∧ vs.length ≤ 1000 ∧ 1 ≤ C ∧ C ≤ vs.length ∧ C ≤ 16 := by
  obtain ⟨nao, ncap, b, off, n1, n3, n4, n5, n6, n7, n8, n9, n10, n11, e, h1, h2, h3, h4, h5, h6, h7⟩ := h
  exact ⟨h1, h2, h3, h4, h5⟩
theorem CfgOk.keys {w : World} {cs : List Value} {C : Nat} {vs : List (Int × ByteArray)} (h : CfgOk w cs C vs) : ∀ v ∈ vs, v.2.size ≤ 500 := by
  obtain ⟨nao, ncap, b, off, n1, n3, n4, n5, n6, n7, n8, n9, n10, n11, e, h1, h2, h3, h4, h5, h6, h7⟩ := h
  exact h6
/-- Its first cell: where the validators lie. -/
theorem CfgOk.head {w : World} {cs : List Value} {C : Nat} {vs : List (Int × ByteArray)} (h : CfgOk w cs C vs) : ∃ (b off ncap : Nat), cs[0]? = some (.slice (some ⟨b, off, none⟩) vs.length ncap) ∧
    ∀ (w' : World), Below w.heap.size w w' → ∀ (j : Nat) (v : Int × ByteArray), vs[j]? = some v → w'.cell? ⟨b, off + j * 2, none⟩ = some (.int .i64 v.1) ∧ w'.cell? ⟨b, off + j * 2 + 1, none⟩ = some (.string v.2) := by
  obtain ⟨nao, ncap, b, off, n1, n3, n4, n5, n6, n7, n8, n9, n10, n11, e, h1, h2, h3, h4, h5, h6, h7⟩ := h
  have ha := h7.addr (by rw [vc_length]; omega)
  subst ha
  exact ⟨b, off, ncap, by rw [e]; rfl, fun w' hb j v hv => (h7.val hb hv).2⟩

theorem Tryd.sizeCfg : (Tryd.prog.info? 24).map (·.size) = some 12 := by kernel_rfl
theorem Tryd.aggCfg (w : World) : (isAgg 24).run Tryd.prog w = .ok true w := by
  unfold isAgg
  rw [Sem.run_bind, run_underlying Tryd.underlying24 w]
  rfl
/-- A configuration out of memory. -/
theorem run_load_cfg {w : World} {g : Nat} {cs : List Value} (h : Blk w g 24 cs) (hl : cs.length = 12) :
    (Instr.loadAt 24 (.pointer (some ⟨g, 0, none⟩))).run Tryd.prog w = .ok (.agg cs.toArray) w :=
  run_loadAt_agg h.msgAll 24 Tryd.aggCfg (by rw [hl]; exact Tryd.sizeCfg)
theorem wpList_load_cfg {ops : Array Oper} {rest : List Oper} {o : Oper} {a : Act} {w : World} {Q : Exit → Act → World → Prop} (x : Operand) (ho : o.op = .load 24 x) (hgd : Region.wanted o (yielded ops a.tmps) = true)
    (g : Nat) (cs : List Value) (hx : a.eval x = .pointer (some ⟨g, 0, none⟩)) (hg : Blk w g 24 cs) (hl : cs.length = 12)
    (h : wpList Tryd.prog ops Q rest (a.put o.dst (.agg cs.toArray)) w) : wpList Tryd.prog ops Q (o :: rest) a w := by
  refine wpList_step fun K hK => ?_
  rw [if_pos hgd]
  unfold Oper.wp execOp
  simp only [ho, hx, Sem.run_bind, run_load_cfg hg hl, Result.andThen_ok]
  exact hK _ _ h
theorem stepAt_load_cfg {ops : Array Oper} {o : Oper} {a : Act} {w : World} {R : Value → World → Prop} {d : Tmp} (hd : o.dst = some d) (hw : Region.wanted o (yielded ops a.tmps) = true) (hz : decide (d < a.tmps.size) = true) (x : Operand) (ho : o.op = .load 24 x)
    (g : Nat) (cs : List Value) (hx : a.eval x = .pointer (some ⟨g, 0, none⟩)) (hg : Blk w g 24 cs) (hl : cs.length = 12) (h : R (.agg cs.toArray) w) : stepAt Tryd.prog ops o a w R := by
  refine stepAt_value hd hw hz _ w ?_ h
  unfold execOp
  simp only [ho, hx, Sem.run_bind, run_load_cfg hg hl, Result.andThen_ok]
  rfl

theorem place_cfg (w : World) (hT : Tabs w) {cs : List Value} {C : Nat} {vs : List (Int × ByteArray)} (h : CfgOk w cs C vs) (slot who : Int) :
    Calls Tryd.prog 30 #[.agg cs.toArray, .int .i64 slot, .int .i64 who] w fun e w' => e = .returned (.int .i64 (placeFrom who 0 (comm slot vs.length C))) ∧ Below w.heap.size w w' := by
  obtain ⟨nao, ncap, b, off, n1, n3, n4, n5, n6, n7, n8, n9, n10, n11, rfl, h1, h2, h3, h4, h5, h6, h7⟩ := h
  exact place_any w hT nao _ ncap n1 C n3 n4 n5 n6 n7 n8 n9 n10 n11 slot who C rfl h1 h2 h3 h4
theorem proposer_cfg (w : World) (hT : Tabs w) {cs : List Value} {C : Nat} {vs : List (Int × ByteArray)} (h : CfgOk w cs C vs) (slot : Int) :
    Calls Tryd.prog 29 #[.agg cs.toArray, .int .i64 slot] w fun e w' => e = .returned (.int .i64 (firstOf (comm slot vs.length C))) ∧ Below w.heap.size w w' := by
  obtain ⟨nao, ncap, b, off, n1, n3, n4, n5, n6, n7, n8, n9, n10, n11, rfl, h1, h2, h3, h4, h5, h6, h7⟩ := h
  exact proposer_any w hT nao _ ncap n1 C n3 n4 n5 n6 n7 n8 n9 n10 n11 slot C rfl h1 h2 h3 h4
theorem pick_cfg (w : World) (hT : Tabs w) {cs : List Value} {C : Nat} {vs : List (Int × ByteArray)} (h : CfgOk w cs C vs) (slot : Int) (sl : Value) (l : List Bool) (hr : BRow w w.heap.size sl l) :
    Calls Tryd.prog 31 #[.agg cs.toArray, .int .i64 slot, sl] w fun e w' => ∃ v, e = .returned (.tuple #[v, .bool (fits (comm slot vs.length C) l)]) ∧ Held w' w.heap.size v (iv (picked (comm slot vs.length C) l)) ∧ Below w.heap.size w w' := by
  obtain ⟨nao, ncap, b, off, n1, n3, n4, n5, n6, n7, n8, n9, n10, n11, rfl, h1, h2, h3, h4, h5, h6, h7⟩ := h
  obtain ⟨ao, cap, b', off', rfl, q1, q2, q3, q4, q5⟩ := hr
  exact pick_any w hT nao _ ncap n1 C n3 n4 n5 n6 n7 n8 n9 n10 n11 slot C rfl h1 h2 h3 h4 ao _ cap b' off' l rfl ⟨fun h0 => q3 (by simpa [ov] using h0), fun h0 => q4 (by simpa [ov] using h0), fun j u hj => by
    simp only [ov, List.getElem?_map, Option.map_eq_some_iff] at hj
    obtain ⟨y, hy, rfl⟩ := hj
    exact q5 j y hy⟩
theorem members_cfg (w : World) (hT : Tabs w) {cs : List Value} {C : Nat} {vs : List (Int × ByteArray)} (h : CfgOk w cs C vs) (slot : Int) :
    Calls Tryd.prog 49 #[.agg cs.toArray, .int .i64 slot] w fun e w' => ∃ v, e = .returned v ∧ Held w' w.heap.size v (iv (comm slot vs.length C)) ∧ Below w.heap.size w w' := by
  obtain ⟨nao, ncap, b, off, n1, n3, n4, n5, n6, n7, n8, n9, n10, n11, rfl, h1, h2, h3, h4, h5, h6, h7⟩ := h
  exact members_any w hT nao _ ncap n1 C n3 n4 n5 n6 n7 n8 n9 n10 n11 slot C rfl h1 h2 h3 h4
theorem refPlace_cfg (w : World) {cs : List Value} {C : Nat} {vs : List (Int × ByteArray)} (h : CfgOk w cs C vs) (slot who : Int) :
    Calls Tryd.prog 34 #[.agg cs.toArray, .int .i64 slot, .int .i64 who] w fun e w' => e = .returned (.int .i64 (placeFrom who 0 (comm slot vs.length C))) ∧ Below w.heap.size w w' := by
  obtain ⟨nao, ncap, b, off, n1, n3, n4, n5, n6, n7, n8, n9, n10, n11, rfl, h1, h2, h3, h4, h5, h6, h7⟩ := h
  exact refPlace_any w nao _ ncap n1 C n3 n4 n5 n6 n7 n8 n9 n10 n11 slot who C rfl h1 h2 h3 h4
theorem refPick_cfg (w : World) {cs : List Value} {C : Nat} {vs : List (Int × ByteArray)} (h : CfgOk w cs C vs) (slot : Int) (sl : Value) (l : List Bool) (hr : BRow w w.heap.size sl l) :
    Calls Tryd.prog 33 #[.agg cs.toArray, .int .i64 slot, sl] w fun e w' => ∃ v, e = .returned (.tuple #[v, .bool (fits (comm slot vs.length C) l)]) ∧ Held w' w.heap.size v (iv (picked (comm slot vs.length C) l)) ∧ Below w.heap.size w w' := by
  obtain ⟨nao, ncap, b, off, n1, n3, n4, n5, n6, n7, n8, n9, n10, n11, rfl, h1, h2, h3, h4, h5, h6, h7⟩ := h
  obtain ⟨ao, cap, b', off', rfl, q1, q2, q3, q4, q5⟩ := hr
  exact refPick_any w nao _ ncap n1 C n3 n4 n5 n6 n7 n8 n9 n10 n11 slot C rfl h1 h2 h3 h4 ao _ cap b' off' l rfl ⟨fun h0 => q3 (by simpa [ov] using h0), fun h0 => q4 (by simpa [ov] using h0), fun j u hj => by
    simp only [ov, List.getElem?_map, Option.map_eq_some_iff] at hj
    obtain ⟨y, hy, rfl⟩ := hj
    exact q5 j y hy⟩
theorem refMembers_cfg (w : World) {cs : List Value} {C : Nat} {vs : List (Int × ByteArray)} (h : CfgOk w cs C vs) (slot : Int) :
    Calls Tryd.prog 26 #[.agg cs.toArray, .int .i64 slot] w fun e w' => ∃ v, e = .returned v ∧ Held w' w.heap.size v (iv (comm slot vs.length C)) ∧ Below w.heap.size w w' := by
  obtain ⟨nao, ncap, b, off, n1, n3, n4, n5, n6, n7, n8, n9, n10, n11, rfl, h1, h2, h3, h4, h5, h6, h7⟩ := h
  exact refMembers_any w nao _ ncap n1 C n3 n4 n5 n6 n7 n8 n9 n10 n11 slot C rfl h1 h2 h3 h4
end Go.Proofs.YtnbdpalbompjlaaDoor

/-
  What seal.alone and seal.Speakers answer.
-/
namespace Go.Proofs.YtnbdpalbompjlaaDoor
open Go.RowKit
set_option maxRecDepth 100000

/-- A slice that was just written out. -/
theorem held_new (w : World) (e : TypeId) (xs : List Value) (n : Nat) (hn : n = xs.length) (hm : n ≤ maxLen) : Held (w.alloc (.cells xs.toArray e)) w.heap.size (.slice (some ⟨w.heap.size, 0, none⟩) n n) xs := by
  subst hn
  refine ⟨_, _, w.heap.size, 0, _, rfl, rfl, Nat.le_refl _, hm, fun _ => rfl, fun a ha => by cases ha; exact Nat.le_refl _, fun _ => by simp, fun j u hj => ?_, fun j hj => ?_, fun j hj => ?_⟩
  · rw [Nat.zero_add, World.cell?_alloc_mark]; simpa using hj
  · rw [Nat.zero_add, World.cell?_alloc_mark, Array.getElem?_eq_getElem (by simpa using hj)]; rfl
  · rw [Nat.zero_add]
    simp [World.frozen?_alloc_mark w xs.toArray e 0 0 j]
theorem held_int (w : World) (m : Nat) : Held (w.alloc (.cells #[.int .i64 (m : Int)] 3)) w.heap.size (.slice (some ⟨w.heap.size, 0, none⟩) 1 1) (iv [m]) := held_new w 3 (iv [m]) 1 rfl (by unfold maxLen; omega)

theorem alone_any (w : World) (m : Nat) (y : Bool) :
    Calls Tryd.prog 28 #[.int .i64 (m : Int), .bool y] w fun e w' => ∃ v, e = .returned (.tuple #[v, .bool y]) ∧ Held w' w.heap.size v (iv (if y = true then [m] else [])) ∧ Below w.heap.size w w' := by
  cases y with
  | false =>
    go_enter Tryd.func28, Tryd.ntmps28
    go_wp2_with fail
    go_ret2
    exact ⟨.slice none 0 0, rfl, Held.nil _ _, Below.refl _ _⟩
  | true =>
    have hH := held_int w m
    have hB := (Below.refl w.heap.size w).alloc (Nat.le_refl _) (.cells #[.int .i64 (m : Int)] 3)
    have HH := Lib.hid hH
    have HB := Lib.hid hB
    clear hH hB
    go_enter Tryd.func28, Tryd.ntmps28
    go_wp2_with fail
    go_ret2
    exact ⟨_, rfl, HH.out, HB.out⟩

set_option maxHeartbeats 8000000 in
theorem speakers_any (w : World) (hT : Tabs w) {cs : List Value} {C : Nat} {vs : List (Int × ByteArray)} (hc : CfgOk w cs C vs) (M : Msg) (sl : Value) (hf : M.Fits) (hr : BRow w w.heap.size sl M.l) :
    Calls Tryd.prog 11 #[.agg cs.toArray, .agg (mc M sl).toArray] w fun e w' => ∃ v, e = .returned (.tuple #[v, .bool (spk (comm M.s vs.length C) M).isSome]) ∧ Held w' w.heap.size v (iv ((spk (comm M.s vs.length C) M).getD [])) ∧ Below w.heap.size w w' := by
  have HT := Lib.hid hT
  have HF := Lib.hid hf
  have HC0 := Lib.hid ((Blk.new w 24 cs.toArray).alloc (.cells (mc M sl).toArray 32))
  have HM0 := Lib.hid (Blk.newAt (w.alloc (.cells cs.toArray 24)) 32 (mc M sl).toArray (w.heap.size + 1) (by simp))
  have hb0 : Below w.heap.size w ((w.alloc (.cells cs.toArray 24)).alloc (.cells (mc M sl).toArray 32)) := ((Below.refl w.heap.size w).alloc (Nat.le_refl _) _).alloc (by simp) _
  have HR0 := Lib.hid (hr.bits hb0)
  have HCF0 := Lib.hid (hc.below hb0)
  have HB0 := Lib.hid hb0
  obtain ⟨ao, cap, hsl⟩ := hr.form
  have HSL := Lib.hid hsl
  obtain ⟨K, hK⟩ : ∃ K, K = comm M.s vs.length C := ⟨_, rfl⟩
  have HK := Lib.hid hK.symm
  rw [← hK]
  clear hK hb0 hr hc hf hT hsl
  obtain ⟨G, hG⟩ : ∃ G, G = w.heap.size + 1 := ⟨_, rfl⟩
  obtain ⟨D, hD⟩ : ∃ D, D = w.heap.size := ⟨_, rfl⟩
  go_enter Tryd.func11, Tryd.ntmps11
  go_upto_region 1 with fail
  generalize (w.alloc (.cells cs.toArray 24)).alloc (.cells (mc M sl).toArray 32) = w0 at HB0 HC0 HM0 HR0 HCF0 ⊢
  rw [← hG] at HM0 ⊢
  have HD := Lib.hid hD
  rw [← hD] at HC0 ⊢
  clear hG hD
  go_wp2_with ((with_reducible refine wpList_load_msgG (.tmp 3) ?_ ?_ G M sl ?_ HM0.out HF.out ?_); rfl; rfl; rfl)
  refine (wgood_any w0 M sl HF.out HR0.out).mono ?_
  rintro e w1 ⟨rfl, hb1⟩
  have HC1 := Lib.hid (HC0.out.below hb1 HC0.out.lt)
  have HM1 := Lib.hid (HM0.out.below hb1 HM0.out.lt)
  have HR1 := Lib.hid (HR0.out.bits hb1)
  have HCF := Lib.hid (HCF0.out.below hb1)
  have HB1 := Lib.hid (HB0.out.trans (hb1.mono HB0.out.size))
  clear hb1 HC0 HM0 HR0 HCF0 HB0
  cases hgd : msgGood M with
  | false =>
    have HS := Lib.hid (spk_bad (K := K) hgd)
    clear hgd
    go_wp2_with fail
    go_ret2
    exact ⟨.slice none 0 0, by rw [HS.out]; rfl, by rw [HS.out]; exact Held.nil _ _, HB1.out⟩
  | true =>
  obtain ⟨c0, c1, c34, c35, c36⟩ := HM1.out.msg HF.out
  have hsp := msg_spans hgd
  obtain ⟨m, hm⟩ : ∃ m : Nat, M.m = m := ⟨M.m.toNat, by omega⟩
  have HMM := Lib.hid hm
  rcases msg_kinds hgd with k | k | k
  · have hs1 := spk_one (K := K) hgd k
    rw [hm, show ((m : Nat) : Int).toNat = m from rfl] at hs1
    obtain ⟨Y, hY⟩ : ∃ Y, (firstOf K == (m : Int)) = Y := ⟨_, rfl⟩
    obtain ⟨L, hL⟩ : ∃ L, (if Y = true then [m] else []) = L := ⟨_, rfl⟩
    have HD := Lib.hid hY
    have HL := Lib.hid hL
    have HY := Lib.hid (show (spk K M).isSome = Y by
      rw [hs1, ← hY]
      by_cases h : firstOf K = (m : Int) <;> simp [h])
    have HLK := Lib.hid (show (spk K M).getD [] = L by
      rw [hs1, ← hL, ← hY]
      by_cases h : firstOf K = (m : Int) <;> simp [h])
    rw [k] at c0
    clear hs1 hY hL hgd k hsp hm c1 c34 c35 c36 HR1 HSL
    go_upto_region 5 with fail
    clear c0
    refine wp_region_free (P := Tryd.prog) 13 (fun w' => Below w1.heap.size w1 w') (fun oq v w' => match oq with
        | 0 => v = .pointer (some ⟨G, 34, none⟩)
        | 1 => v = .int .i64 (m : Int)
        | 2 => v = .agg cs.toArray
        | 3 => v = .pointer (some ⟨G, 1, none⟩)
        | 4 => v = .int .i64 M.s
        | 5 => v = .int .i64 (firstOf K)
        | 6 => v = .pointer (some ⟨G, 34, none⟩)
        | 7 => v = .int .i64 (m : Int)
        | 8 => v = .bool Y
        | 9 => ∃ x, v = .tuple #[x, .bool Y] ∧ Held w' w1.heap.size x (iv L)
        | 10 => Held w' w1.heap.size v (iv L)
        | 11 => v = .bool Y
        | 12 => Held w' w1.heap.size v (iv L)
        | _ => True) (by kernel_rfl) (by kernel_rfl) (Below.refl _ _).drew ?gb ?vb ?steps ?fin
    case gb => exact fun a b h1 h2 => h1.trans (h2.mono h1.size)
    case vb =>
      intro oq v a b h hb
      match oq with
      | 0 => exact h
      | 1 => exact h
      | 2 => exact h
      | 3 => exact h
      | 4 => exact h
      | 5 => exact h
      | 6 => exact h
      | 7 => exact h
      | 8 => exact h
      | 9 => obtain ⟨x, hx, hr⟩ := h; exact ⟨x, hx, hr.below hb⟩
      | 10 => exact h.below hb
      | 11 => exact h
      | 12 => exact h.below hb
      | _ + 13 => trivial
    case steps =>
      intro vals
      simp only [List.take_succ_cons, List.take_zero, freeSteps, Act.put, List.setIfInBounds_toArray, List.set_cons_zero, List.set_cons_succ, Nat.reduceAdd]
      refine ⟨fun w8 hG hW => ?_, fun w8 hG hW => ?_, fun w8 hG hW => ?_, fun w8 hG hW => ?_, fun w8 hG hW => ?_, fun w8 hG hW => ?_, fun w8 hG hW => ?_, fun w8 hG hW => ?_, fun w8 hG hW => ?_, fun w8 hG hW => ?_, fun w8 hG hW => ?_, fun w8 hG hW => ?_, fun w8 hG hW => ?_, trivial⟩
      · clear hW
        refine stepAt_value rfl rfl rfl (.pointer (some ⟨G, 34, none⟩)) w8 ?_ ⟨rfl, Below.refl _ _⟩
        go_simp
      · have q0 := hW 0 (by decide)
        simp only at q0
        rw [q0]
        clear hW
        refine stepAt_value rfl rfl rfl (.int .i64 (m : Int)) w8 ?_ ⟨rfl, Below.refl _ _⟩
        obtain ⟨c0, c1, c34, c35, c36⟩ := (HM1.out.below hG HM1.out.lt).msg HF.out
        rw [HMM.out] at c34
        go_simp
      · clear hW
        exact stepAt_load_cfg rfl rfl rfl (.tmp 2) rfl D cs rfl (HC1.out.below hG HC1.out.lt) HCF.out.len ⟨rfl, Below.refl _ _⟩
      · clear hW
        refine stepAt_value rfl rfl rfl (.pointer (some ⟨G, 1, none⟩)) w8 ?_ ⟨rfl, Below.refl _ _⟩
        go_simp
      · have q3 := hW 3 (by decide)
        simp only at q3
        rw [q3]
        clear hW
        refine stepAt_value rfl rfl rfl (.int .i64 M.s) w8 ?_ ⟨rfl, Below.refl _ _⟩
        obtain ⟨c0, c1, c34, c35, c36⟩ := (HM1.out.below hG HM1.out.lt).msg HF.out
        go_simp
      · have q2 := hW 2 (by decide)
        simp only at q2
        have q4 := hW 4 (by decide)
        simp only at q4
        rw [q2, q4]
        clear hW
        refine stepAt_call rfl rfl rfl 29 #[.agg cs.toArray, .int .i64 M.s] (by go_simp) ((proposer_cfg w8 (HT.out.below (HB1.out.trans (hG.mono HB1.out.size)) HT.out.size) (HCF.out.below hG) M.s).mono fun e w' ⟨h1, h2⟩ => ⟨_, h1, by rw [HK.out], h2⟩)
      · clear hW
        refine stepAt_value rfl rfl rfl (.pointer (some ⟨G, 34, none⟩)) w8 ?_ ⟨rfl, Below.refl _ _⟩
        go_simp
      · have q6 := hW 6 (by decide)
        simp only at q6
        rw [q6]
        clear hW
        refine stepAt_value rfl rfl rfl (.int .i64 (m : Int)) w8 ?_ ⟨rfl, Below.refl _ _⟩
        obtain ⟨c0, c1, c34, c35, c36⟩ := (HM1.out.below hG HM1.out.lt).msg HF.out
        rw [HMM.out] at c34
        go_simp
      · have q5 := hW 5 (by decide)
        simp only at q5
        have q7 := hW 7 (by decide)
        simp only at q7
        rw [q5, q7]
        clear hW
        refine stepAt_value rfl rfl rfl (.bool Y) w8 ?_ ⟨rfl, Below.refl _ _⟩
        have hd := HD.out
        go_simp
      · have q1 := hW 1 (by decide)
        simp only at q1
        have q8 := hW 8 (by decide)
        simp only at q8
        rw [q1, q8]
        clear hW
        refine stepAt_call rfl rfl rfl 28 #[.int .i64 (m : Int), .bool Y] (by go_simp) ((alone_any w8 m Y).mono fun e w' ⟨v, h1, h2, h3⟩ => ⟨_, h1, ⟨v, rfl, by rw [HL.out] at h2; exact h2.mono hG.size⟩, h3⟩)
      · obtain ⟨x6, hx6, hr6⟩ := hW 9 (by decide)
        rw [hx6]
        clear hW
        refine stepAt_value rfl rfl rfl x6 w8 ?_ ⟨hr6, Below.refl _ _⟩
        go_simp
      · obtain ⟨x6, hx6, hr6⟩ := hW 9 (by decide)
        rw [hx6]
        clear hW
        refine stepAt_value rfl rfl rfl (.bool Y) w8 ?_ ⟨rfl, Below.refl _ _⟩
        go_simp
      · have h7 : Held w8 w1.heap.size (vals 10) (iv L) := hW 10 (by decide)
        generalize vals 10 = u7 at h7 ⊢
        clear hW
        refine stepAt_value rfl rfl rfl u7 w8 ?_ ⟨h7, Below.refl _ _⟩
        go_simp
    case fin =>
      intro vals w8 hG hV
      have hN : Held w8 w1.heap.size (vals 12) (iv L) := hV 12 (by omega)
      have hD : vals 11 = .bool Y := hV 11 (by omega)
      simp only [List.take_succ_cons, List.take_zero, List.drop_succ_cons, List.drop_zero, putAll, Act.put, List.setIfInBounds_toArray, List.set_cons_zero, List.set_cons_succ, Nat.reduceAdd]
      rw [hD]
      clear hV hD
      generalize vals 12 = vN at hN ⊢
      generalize vals 0 = x0
      generalize vals 1 = x1
      generalize vals 2 = x2
      generalize vals 3 = x3
      generalize vals 4 = x4
      generalize vals 5 = x5
      generalize vals 6 = x6
      generalize vals 7 = x7
      generalize vals 8 = x8
      generalize vals 9 = x9
      generalize vals 10 = x10
      have HN := Lib.hid hN
      have HBF := Lib.hid (HB1.out.trans (hG.mono HB1.out.size))
      clear hG hN
      go_wp2_with fail
      go_ret2
      exact ⟨vN, by rw [HY.out]; rfl, by rw [HLK.out]; exact HN.out.mono HB1.out.size, HBF.out⟩
  · have hs1 := spk_two (K := K) hgd k
    rw [hm, show ((m : Nat) : Int).toNat = m from rfl] at hs1
    obtain ⟨P, hP⟩ : ∃ P, placeFrom (m : Int) 0 K = P := ⟨_, rfl⟩
    rw [hP] at hs1
    obtain ⟨Y, hY⟩ : ∃ Y, decide (0 ≤ P) = Y := ⟨_, rfl⟩
    obtain ⟨L, hL⟩ : ∃ L, (if Y = true then [m] else []) = L := ⟨_, rfl⟩
    have HP := Lib.hid hP
    have HD := Lib.hid hY
    have HL := Lib.hid hL
    have HY := Lib.hid (show (spk K M).isSome = Y by
      rw [hs1, ← hY]
      by_cases h : 0 ≤ P <;> simp [h])
    have HLK := Lib.hid (show (spk K M).getD [] = L by
      rw [hs1, ← hL, ← hY]
      by_cases h : 0 ≤ P <;> simp [h])
    rw [k] at c0
    clear hs1 hY hL hP hgd k hsp hm c1 c34 c35 c36 HR1 HSL
    go_upto_region 7 with fail
    clear c0
    refine wp_region_free (P := Tryd.prog) 13 (fun w' => Below w1.heap.size w1 w') (fun oq v w' => match oq with
        | 0 => v = .pointer (some ⟨G, 34, none⟩)
        | 1 => v = .int .i64 (m : Int)
        | 2 => v = .agg cs.toArray
        | 3 => v = .pointer (some ⟨G, 1, none⟩)
        | 4 => v = .int .i64 M.s
        | 5 => v = .pointer (some ⟨G, 34, none⟩)
        | 6 => v = .int .i64 (m : Int)
        | 7 => v = .int .i64 P
        | 8 => v = .bool Y
        | 9 => ∃ x, v = .tuple #[x, .bool Y] ∧ Held w' w1.heap.size x (iv L)
        | 10 => Held w' w1.heap.size v (iv L)
        | 11 => v = .bool Y
        | 12 => Held w' w1.heap.size v (iv L)
        | _ => True) (by kernel_rfl) (by kernel_rfl) (Below.refl _ _).drew ?gb ?vb ?steps ?fin
    case gb => exact fun a b h1 h2 => h1.trans (h2.mono h1.size)
    case vb =>
      intro oq v a b h hb
      match oq with
      | 0 => exact h
      | 1 => exact h
      | 2 => exact h
      | 3 => exact h
      | 4 => exact h
      | 5 => exact h
      | 6 => exact h
      | 7 => exact h
      | 8 => exact h
      | 9 => obtain ⟨x, hx, hr⟩ := h; exact ⟨x, hx, hr.below hb⟩
      | 10 => exact h.below hb
      | 11 => exact h
      | 12 => exact h.below hb
      | _ + 13 => trivial
    case steps =>
      intro vals
      simp only [List.take_succ_cons, List.take_zero, freeSteps, Act.put, List.setIfInBounds_toArray, List.set_cons_zero, List.set_cons_succ, Nat.reduceAdd]
      refine ⟨fun w8 hG hW => ?_, fun w8 hG hW => ?_, fun w8 hG hW => ?_, fun w8 hG hW => ?_, fun w8 hG hW => ?_, fun w8 hG hW => ?_, fun w8 hG hW => ?_, fun w8 hG hW => ?_, fun w8 hG hW => ?_, fun w8 hG hW => ?_, fun w8 hG hW => ?_, fun w8 hG hW => ?_, fun w8 hG hW => ?_, trivial⟩
      · clear hW
        refine stepAt_value rfl rfl rfl (.pointer (some ⟨G, 34, none⟩)) w8 ?_ ⟨rfl, Below.refl _ _⟩
        go_simp
      · have q0 := hW 0 (by decide)
        simp only at q0
        rw [q0]
        clear hW
        refine stepAt_value rfl rfl rfl (.int .i64 (m : Int)) w8 ?_ ⟨rfl, Below.refl _ _⟩
        obtain ⟨c0, c1, c34, c35, c36⟩ := (HM1.out.below hG HM1.out.lt).msg HF.out
        rw [HMM.out] at c34
        go_simp
      · clear hW
        exact stepAt_load_cfg rfl rfl rfl (.tmp 2) rfl D cs rfl (HC1.out.below hG HC1.out.lt) HCF.out.len ⟨rfl, Below.refl _ _⟩
      · clear hW
        refine stepAt_value rfl rfl rfl (.pointer (some ⟨G, 1, none⟩)) w8 ?_ ⟨rfl, Below.refl _ _⟩
        go_simp
      · have q3 := hW 3 (by decide)
        simp only at q3
        rw [q3]
        clear hW
        refine stepAt_value rfl rfl rfl (.int .i64 M.s) w8 ?_ ⟨rfl, Below.refl _ _⟩
        obtain ⟨c0, c1, c34, c35, c36⟩ := (HM1.out.below hG HM1.out.lt).msg HF.out
        go_simp
      · clear hW
        refine stepAt_value rfl rfl rfl (.pointer (some ⟨G, 34, none⟩)) w8 ?_ ⟨rfl, Below.refl _ _⟩
        go_simp
      · have q5 := hW 5 (by decide)
        simp only at q5
        rw [q5]
        clear hW
        refine stepAt_value rfl rfl rfl (.int .i64 (m : Int)) w8 ?_ ⟨rfl, Below.refl _ _⟩
        obtain ⟨c0, c1, c34, c35, c36⟩ := (HM1.out.below hG HM1.out.lt).msg HF.out
        rw [HMM.out] at c34
        go_simp
      · have q2 := hW 2 (by decide)
        simp only at q2
        have q4 := hW 4 (by decide)
        simp only at q4
        have q6 := hW 6 (by decide)
        simp only at q6
        rw [q2, q4, q6]
        clear hW
        refine stepAt_call rfl rfl rfl 30 #[.agg cs.toArray, .int .i64 M.s, .int .i64 (m : Int)] (by go_simp) ((place_cfg w8 (HT.out.below (HB1.out.trans (hG.mono HB1.out.size)) HT.out.size) (HCF.out.below hG) M.s m).mono fun e w' ⟨h1, h2⟩ => ⟨_, h1, by rw [HK.out, HP.out], h2⟩)
      · have q7 := hW 7 (by decide)
        simp only at q7
        rw [q7]
        clear hW
        refine stepAt_value rfl rfl rfl (.bool Y) w8 ?_ ⟨rfl, Below.refl _ _⟩
        have hd := HD.out
        go_simp
      · have q1 := hW 1 (by decide)
        simp only at q1
        have q8 := hW 8 (by decide)
        simp only at q8
        rw [q1, q8]
        clear hW
        refine stepAt_call rfl rfl rfl 28 #[.int .i64 (m : Int), .bool Y] (by go_simp) ((alone_any w8 m Y).mono fun e w' ⟨v, h1, h2, h3⟩ => ⟨_, h1, ⟨v, rfl, by rw [HL.out] at h2; exact h2.mono hG.size⟩, h3⟩)
      · obtain ⟨x6, hx6, hr6⟩ := hW 9 (by decide)
        rw [hx6]
        clear hW
        refine stepAt_value rfl rfl rfl x6 w8 ?_ ⟨hr6, Below.refl _ _⟩
        go_simp
      · obtain ⟨x6, hx6, hr6⟩ := hW 9 (by decide)
        rw [hx6]
        clear hW
        refine stepAt_value rfl rfl rfl (.bool Y) w8 ?_ ⟨rfl, Below.refl _ _⟩
        go_simp
      · have h7 : Held w8 w1.heap.size (vals 10) (iv L) := hW 10 (by decide)
        generalize vals 10 = u7 at h7 ⊢
        clear hW
        refine stepAt_value rfl rfl rfl u7 w8 ?_ ⟨h7, Below.refl _ _⟩
        go_simp
    case fin =>
      intro vals w8 hG hV
      have hN : Held w8 w1.heap.size (vals 12) (iv L) := hV 12 (by omega)
      have hD : vals 11 = .bool Y := hV 11 (by omega)
      simp only [List.take_succ_cons, List.take_zero, List.drop_succ_cons, List.drop_zero, putAll, Act.put, List.setIfInBounds_toArray, List.set_cons_zero, List.set_cons_succ, Nat.reduceAdd]
      rw [hD]
      clear hV hD
      generalize vals 12 = vN at hN ⊢
      generalize vals 0 = x0
      generalize vals 1 = x1
      generalize vals 2 = x2
      generalize vals 3 = x3
      generalize vals 4 = x4
      generalize vals 5 = x5
      generalize vals 6 = x6
      generalize vals 7 = x7
      generalize vals 8 = x8
      generalize vals 9 = x9
      generalize vals 10 = x10
      have HN := Lib.hid hN
      have HBF := Lib.hid (HB1.out.trans (hG.mono HB1.out.size))
      clear hG hN
      go_wp2_with fail
      go_ret2
      exact ⟨vN, by rw [HY.out]; rfl, by rw [HLK.out]; exact HN.out.mono HB1.out.size, HBF.out⟩
  · have hs1 := spk_three (K := K) hgd k
    have HY := Lib.hid (show (spk K M).isSome = fits K M.l by
      rw [hs1]
      cases h : fits K M.l <;> simp)
    have HLK := Lib.hid (show (spk K M).getD [] = picked K M.l by
      rw [hs1]
      by_cases h : fits K M.l = true
      · simp [h]
      · simp [h, picked])
    rw [k] at c0
    rw [HSL.out] at c36
    have HR2 := HR1.out
    obtain ⟨U, hU⟩ : ∃ U, U = w1 := ⟨_, rfl⟩
    have HPK := Lib.hid (pick_cfg w1 (HT.out.below HB1.out HT.out.size) HCF.out M.s sl M.l HR2)
    rw [HSL.out] at HPK
    clear hs1 hgd k hsp hm HR2 hU
    go_wp2_with ((with_reducible refine wpList_load_cfg (.tmp 2) ?_ ?_ D cs ?_ HC1.out HCF.out.len ?_); rfl; rfl; rfl)
    refine HPK.out.mono ?_
    rintro e w2 ⟨v, rfl, hh, hb⟩
    rw [HK.out] at hh
    rw [HK.out]
    have HH := Lib.hid hh
    have HB2 := Lib.hid (HB1.out.trans (hb.mono HB1.out.size))
    clear hh hb c0 c1 c34 c35 c36
    go_wp2_with fail
    go_ret2
    exact ⟨v, by rw [HY.out]; rfl, by rw [HLK.out]; exact HH.out.mono HB1.out.size, HB2.out⟩
end Go.Proofs.YtnbdpalbompjlaaDoor

/-
  What seal.Votes answers.
-/
namespace Go.Proofs.YtnbdpalbompjlaaDoor
open Go.RowKit
set_option maxRecDepth 100000

set_option maxHeartbeats 8000000 in
theorem votes_any (w : World) (hT : Tabs w) {cs : List Value} {C : Nat} {vs : List (Int × ByteArray)} (hc : CfgOk w cs C vs) (M : Msg) (sl : Value) (hf : M.Fits) (hr : BRow w w.heap.size sl M.l) :
    Calls Tryd.prog 19 #[.agg cs.toArray, .agg (mc M sl).toArray] w fun e w' => ∃ v, e = .returned v ∧ Wide 34 w' w.heap.size v (vv (votesM (comm M.s vs.length C) M)) ∧ Below w.heap.size w w' := by
  obtain ⟨i0, hi0, hz0, hz1, hz2⟩ := info_parts Tryd.infoVote
  have hzc : (Value.agg vzero.toArray).cells.size = 34 := by rfl
  have HF := Lib.hid hf
  have HT := Lib.hid hT
  have HC0 := Lib.hid ((Blk.new w 24 cs.toArray).alloc (.cells (mc M sl).toArray 32))
  have HM0 := Lib.hid (Blk.newAt (w.alloc (.cells cs.toArray 24)) 32 (mc M sl).toArray (w.heap.size + 1) (by simp))
  have hb0 : Below w.heap.size w ((w.alloc (.cells cs.toArray 24)).alloc (.cells (mc M sl).toArray 32)) := ((Below.refl w.heap.size w).alloc (Nat.le_refl _) _).alloc (by simp) _
  have HR0 := Lib.hid (hr.bits hb0)
  have HCF0 := Lib.hid (hc.below hb0)
  have HB0 := Lib.hid hb0
  obtain ⟨K, hK⟩ : ∃ K, K = comm M.s vs.length C := ⟨_, rfl⟩
  have HK := Lib.hid hK.symm
  have HKL := Lib.hid (show K.length ≤ 1000 by have h1 := comm_le M.s vs.length C; have h2 := hc.vals; rw [hK]; omega)
  rw [← hK]
  obtain ⟨L, hL⟩ : ∃ L, (spk K M).getD [] = L := ⟨_, rfl⟩
  obtain ⟨Y, hY⟩ : ∃ Y, (spk K M).isSome = Y := ⟨_, rfl⟩
  have HLL := Lib.hid hL
  have HYY := Lib.hid hY
  have HV1 := Lib.hid (show M.k = 1 → votesM K M = [] by intro k; rw [votesM, if_pos k])
  have HV2 := Lib.hid (show M.k ≠ 1 → votesM K M = L.map fun i => (i, M.s, M.T) by intro k; rw [votesM, if_neg k, hL])
  have HV3 := Lib.hid (show Y = false → votesM K M = [] by
    intro y
    rw [y] at hY
    have h : spk K M = none := by simpa using hY
    rw [votesM, h]
    simp)
  have hLl : L.length ≤ 1000 := by
    rw [← hL]
    cases h : spk K M with
    | none => simp
    | some l => exact spk_len h HKL.out
  clear hK hb0 hr hc hf hT hL hY
  obtain ⟨G, hG⟩ : ∃ G, G = w.heap.size + 1 := ⟨_, rfl⟩
  obtain ⟨D, hD⟩ : ∃ D, D = w.heap.size := ⟨_, rfl⟩
  have hDl : w.heap.size ≤ D := by omega
  have HDl := Lib.hid hDl
  go_enter Tryd.func19, Tryd.ntmps19
  go_upto_region 1 with fail
  generalize (w.alloc (.cells cs.toArray 24)).alloc (.cells (mc M sl).toArray 32) = w0 at HB0 HC0 HM0 HR0 HCF0 ⊢
  rw [← hG] at HM0 ⊢
  rw [← hD] at HC0 ⊢
  clear hG hD hDl
  obtain ⟨c0, _, _, _, _⟩ := HM0.out.msg HF.out
  by_cases k : M.k = 1
  · have HV := Lib.hid (HV1.out k)
    rw [k] at c0
    clear k
    go_wp2_with fail
    go_ret
    exact ⟨.slice none 0 0, rfl, by rw [HV.out]; exact wide_nil _ _ _, HB0.out⟩
  · have HK1 := Lib.hid k
    have hk : (M.k == 1) = false := by simpa using k
    have HSP := Lib.hid (speakers_any w0 (HT.out.below HB0.out HT.out.size) HCF0.out M sl HF.out HR0.out)
    go_wp2_with (first
      | ((with_reducible refine wpList_load_msgG (.tmp 3) ?_ ?_ G M sl ?_ HM0.out HF.out ?_); rfl; rfl; rfl)
      | ((with_reducible refine wpList_load_cfg (.tmp 2) ?_ ?_ D cs ?_ HC0.out HCF0.out.len ?_); rfl; rfl; rfl))
    refine HSP.out.mono ?_
    rintro e w1 ⟨v, rfl, hh, hb1⟩
    rw [HK.out, HLL.out] at hh
    rw [HK.out, HYY.out]
    have HM1 := Lib.hid (HM0.out.below hb1 HM0.out.lt)
    have HB1 := Lib.hid (HB0.out.trans (hb1.mono HB0.out.size))
    obtain ⟨ao, cap, b, off, rfl, hl⟩ := hh.lies
    rw [iv_length]
    have HL := Lib.hid hl
    obtain ⟨n, hn⟩ : ∃ n, n = L.length := ⟨_, rfl⟩
    have HN0 := Lib.hid hn.symm
    rw [← hn] at hLl ⊢
    clear hb1 HC0 HM0 HR0 HCF0 HB0 hh hl hn HSP
    clear k hk c0
    go_wp2_with fail
    go_loopw [7, 21] (fun v i wr => ∃ (j : Nat), j ≤ n ∧ i = .int .i64 j ∧ Hid (Wide 34 wr w1.heap.size v (vv ((L.take j).map fun i => (i, M.s, M.T)))) ∧ Hid (Below w1.heap.size w1 wr)) (fun _ i _ => n - (intOf i).toNat)
    case atStart => exact ⟨0, Nat.zero_le _, rfl, Lib.hid (wide_nil 34 w1 w1.heap.size), Lib.hid (Below.refl _ _)⟩
    case round =>
      obtain ⟨j, hj, rfl, HWD, HBel⟩ := hrel
      have HMr := Lib.hid (HM1.out.below HBel.out HM1.out.lt)
      have HBr := Lib.hid (HB1.out.trans (HBel.out.mono HB1.out.size))
      by_cases hlt : j < n
      · obtain ⟨x, hx⟩ : ∃ x, L[j]? = some x := ⟨_, List.getElem?_eq_getElem (by rw [HN0.out]; exact hlt)⟩
        obtain ⟨ha, c0⟩ := HL.out.int HBel.out hx
        subst ha
        obtain ⟨_, c1, _, _, _⟩ := HMr.out.msg HF.out
        have HTake := Lib.hid (show vv ((L.take (j + 1)).map fun i => (i, M.s, M.T)) = vv ((L.take j).map fun i => (i, M.s, M.T)) ++ vcell (x, M.s, M.T) by rw [List.take_add_one, hx, List.map_append, vv_append]; simp [vv])
        have HMT := Lib.hid (fun j v hj => (HMr.out.cell (2 + j)).trans (mc_T sl j v hj))
        have HW2 := Lib.hid (HWD.out.alloc (.cells (vcell (x, M.s, M.T)).toArray 51))
        have HSrc := Lib.hid (src_row wr 34 (by omega) 42 51 Tryd.underlying42 (vcell (x, M.s, M.T)) (vcell_length HF.out.T) (vcell_one _) (P := Tryd.prog))
        have HB3 := Lib.hid (HBel.out.alloc HBel.out.size (.cells (vcell (x, M.s, M.T)).toArray 51))
        have HVL := Lib.hid (show (vv ((L.take j).map fun i => (i, M.s, M.T))).length ≤ 34000 by
          rw [vv_length _ (by intro y hy; obtain ⟨i, _, rfl⟩ := List.mem_map.1 hy; exact HF.out.T), List.length_map, List.length_take]
          have := HN0.out
          omega)
        have HVC := Lib.hid (vcell_length (x := (x, M.s, M.T)) HF.out.T)
        have hsz := HBel.out.size
        clear hx
        go_wp2_with (first
          | ((with_reducible refine wpList_load_root (.tmp 29) ?_ ?_ G 2 M.T ?_ HF.out.T HMT.out ?_); rfl; rfl; rfl)
          | ((with_reducible refine wpList_build_msg ?_ 51 #[(0, .tmp 26), (1, .tmp 28), (2, .tmp 30)] ?_ (vcell (x, M.s, M.T)).toArray ?_ ?_); rfl; rfl; (simp only [List.map_toArray, List.map_cons, List.map_nil]; exact built_avote x M.s M.T HF.out.T))
          | ((with_reducible refine wpList_build_rows ?_ 42 51 1 #[(0, .tmp 31)] ?_ i0 (.agg vzero.toArray) (s := 34) (by omega) [vcell (x, M.s, M.T)] (by intro r hr; rw [List.mem_singleton] at hr; rw [hr]; exact HVC.out) Tryd.underlying42 hi0 hz0 hz1 ?_ (by omega) (by omega) ?_ ?_); rfl; rfl; rfl; rfl; rw [List.flatten_singleton])
          | (at_builtin; refine wpList_append_wide rfl _ _ 42 42 rfl rfl HW2.out (by omega) 51 i0 (.agg vzero.toArray) 48 Tryd.underlying42 hi0 hz0 hz1 hz2 hzc _ rfl 1 (vcell (x, M.s, M.T)) HSrc.out ?e2 ?e3 ?e4 ?_))
        case e2 => have := HVL.out; unfold maxLen; omega
        case e3 => have := HVL.out; omega
        case e4 => (try rw [World.size_alloc]); omega
        intro v2 w3 hh hg
        have HB4 := Lib.hid (show Below w1.heap.size w1 w3 from HB3.out.trans (hg.belowW HW2.out HB3.out.size))
        have HH4 := Lib.hid (show Wide 34 w3 w1.heap.size v2 (vv ((L.take (j + 1)).map fun i => (i, M.s, M.T))) by rw [HTake.out, List.map_take]; exact hh)
        clear hh hg HSrc HW2 HB3 c0 c1
        go_wp2_with fail
        go_roundw
        case rel => exact ⟨j + 1, by omega, by go_num, HH4, HB4⟩
        case measure => simp [intOf]; omega
      · have HFin := Lib.hid (show Wide 34 wr w1.heap.size u7 (vv (votesM K M)) by
          have h := HWD.out
          rw [List.take_of_length_le (by rw [HN0.out]; omega), ← HV2.out HK1.out] at h
          exact h)
        go_wp2_with fail
        go_ret
        exact ⟨u7, rfl, HFin.out.mono HB1.out.size, HBr.out⟩
end Go.Proofs.YtnbdpalbompjlaaDoor

/-
  Configurations that came in: which of them can be; what layer 8's great answers.
-/
namespace Go.Proofs.YtnbdpalbompjlaaDoor
open Go.RowKit
set_option maxRecDepth 100000

/-- These cells are a configuration's, with validators vs. -/
def CfgIn (w : World) (cs : List Value) (vs : List (Int × ByteArray)) : Prop :=
  ∃ (nao : Option Addr) (ncap b off : Nat) (n1 n2 n3 n4 n5 n6 n7 n8 n9 n10 n11 : Int),
    cs = [.slice nao vs.length ncap, .int .i64 n1, .int .i64 n2, .int .i64 n3, .int .i64 n4, .int .i64 n5, .int .i64 n6, .int .i64 n7, .int .i64 n8, .int .i64 n9, .int .i64 n10, .int .i64 n11] ∧
    Stakes vs ∧ Lies w w.heap.size nao b off (vc vs)
theorem CfgIn.below {w w' : World} {cs : List Value} {vs : List (Int × ByteArray)} (h : CfgIn w cs vs) (hb : Below w.heap.size w w') : CfgIn w' cs vs := by
  obtain ⟨nao, ncap, b, off, n1, n2, n3, n4, n5, n6, n7, n8, n9, n10, n11, e, h1, h2⟩ := h
  exact ⟨nao, ncap, b, off, n1, n2, n3, n4, n5, n6, n7, n8, n9, n10, n11, e, h1, h2.below hb⟩
theorem CfgIn.len {w : World} {cs : List Value} {vs : List (Int × ByteArray)} (h : CfgIn w cs vs) : cs.length = 12 := by
  obtain ⟨nao, ncap, b, off, n1, n2, n3, n4, n5, n6, n7, n8, n9, n10, n11, e, h1, h2⟩ := h
  rw [e]; rfl

theorem great_cfg (w : World) {cs : List Value} {vs : List (Int × ByteArray)} (h : CfgIn w cs vs) :
    Calls Tryd.prog 24 #[.agg cs.toArray] w fun e w' => ∃ y, e = .returned (.bool y) ∧ (y = false → vs.length ≤ 100) ∧ Below w.heap.size w w' := by
  obtain ⟨nao, ncap, b, off, n1, n2, n3, n4, n5, n6, n7, n8, n9, n10, n11, rfl, h1, h2⟩ := h
  exact (tooMuch_any w nao _ ncap b off n1 n2 n3 n4 n5 n6 n7 n8 n9 n10 n11 vs rfl h2).mono fun e w' ⟨he, hb⟩ => ⟨_, he, fun hy => by simp [tooMuch] at hy; omega, hb⟩
theorem good_cfg (w : World) {cs : List Value} {vs : List (Int × ByteArray)} (h : CfgIn w cs vs) (hl : vs.length ≤ 100) :
    Calls Tryd.prog 25 #[.agg cs.toArray] w fun e w' => ∃ y, e = .returned (.bool y) ∧ (y = true → ∃ C, ∀ W, CfgIn W cs vs → CfgOk W cs C vs) ∧ Below w.heap.size w w' := by
  obtain ⟨nao, ncap, b, off, n1, n2, n3, n4, n5, n6, n7, n8, n9, n10, n11, rfl, h1, h2⟩ := h
  refine (refGood_any w nao _ ncap b off n1 n2 n3 n4 n5 n6 n7 n8 n9 n10 n11 vs rfl (by omega) h1 h2).mono fun e w' ⟨he, hb⟩ => ⟨_, he, fun hy => ?_, hb⟩
  have hk := goodB_nums hy (v := (n2, min 16 (vs.length : Int))) (by simp [nums])
  have hg := good_len hy
  have hc := goodB_can hy
  simp only at hk
  obtain ⟨C, hC⟩ : ∃ C : Nat, n2 = C := ⟨n2.toNat, by omega⟩
  subst hC
  refine ⟨C, fun W hW => ?_⟩
  obtain ⟨nao', ncap', b', off', m1, m2, m3, m4, m5, m6, m7, m8, m9, m10, m11, e, _, h2'⟩ := hW
  simp only [List.cons.injEq, Value.slice.injEq, Value.int.injEq, true_and, and_true] at e
  obtain ⟨⟨rfl, rfl⟩, rfl, rfl, rfl, rfl, rfl, rfl, rfl, rfl, rfl, rfl, rfl⟩ := e
  exact ⟨nao, ncap, b', off', n1, n3, n4, n5, n6, n7, n8, n9, n10, n11, rfl, by omega, by omega, by omega, by omega, by omega, fun v hv => by
    have := hc v hv
    simp [can] at this
    omega, h2'⟩

set_option maxHeartbeats 4000000 in
theorem great8_any (w : World) {cs : List Value} {vs : List (Int × ByteArray)} (hc : CfgIn w cs vs) (M : Msg) (sl : Value) (hf : M.Fits) (hr : BRow w w.heap.size sl M.l) :
    Calls Tryd.prog 10 #[.agg cs.toArray, .agg (mc M sl).toArray] w fun e w' => ∃ y, e = .returned (.bool y) ∧ (y = false → (∃ C, ∀ W, CfgIn W cs vs → CfgOk W cs C vs) ∧ M.l.length ≤ 200) ∧ Below w.heap.size w w' := by
  have HF := Lib.hid hf
  have HC0 := Lib.hid ((Blk.new w 24 cs.toArray).alloc (.cells (mc M sl).toArray 32))
  have HM0 := Lib.hid (Blk.newAt (w.alloc (.cells cs.toArray 24)) 32 (mc M sl).toArray (w.heap.size + 1) (by simp))
  have hb0 : Below w.heap.size w ((w.alloc (.cells cs.toArray 24)).alloc (.cells (mc M sl).toArray 32)) := ((Below.refl w.heap.size w).alloc (Nat.le_refl _) _).alloc (by simp) _
  have HCI0 := Lib.hid (hc.below hb0)
  have HB0 := Lib.hid hb0
  obtain ⟨ao, cap, hsl⟩ := hr.form
  have HSL := Lib.hid hsl
  clear hb0 hr hc hf hsl
  obtain ⟨G, hG⟩ : ∃ G, G = w.heap.size + 1 := ⟨_, rfl⟩
  obtain ⟨D, hD⟩ : ∃ D, D = w.heap.size := ⟨_, rfl⟩
  go_enter Tryd.func10, Tryd.ntmps10
  go_upto_region 1 with fail
  generalize (w.alloc (.cells cs.toArray 24)).alloc (.cells (mc M sl).toArray 32) = w0 at HB0 HC0 HM0 HCI0 ⊢
  rw [← hG] at HM0 ⊢
  rw [← hD] at HC0 ⊢
  clear hG hD
  have HG0 := Lib.hid (great_cfg w0 HCI0.out)
  go_wp2_with ((with_reducible refine wpList_load_cfg (.tmp 2) ?_ ?_ D cs ?_ HC0.out HCI0.out.len ?_); rfl; rfl; rfl)
  refine HG0.out.mono ?_
  rintro e w1 ⟨y1, rfl, hy1, hb1⟩
  have HC1 := Lib.hid (HC0.out.below hb1 HC0.out.lt)
  have HM1 := Lib.hid (HM0.out.below hb1 HM0.out.lt)
  have HCI1 := Lib.hid (HCI0.out.below hb1)
  have HB1 := Lib.hid (HB0.out.trans (hb1.mono HB0.out.size))
  clear hb1 HC0 HM0 HCI0 HB0 HG0
  cases y1 with
  | true =>
    clear hy1
    go_wp2_with fail
    go_ret
    exact ⟨true, rfl, (fun h => by cases h), HB1.out⟩
  | false =>
    have hlen := hy1 rfl
    have HG1 := Lib.hid (good_cfg w1 HCI1.out hlen)
    clear hy1 hlen
    go_wp2_with ((with_reducible refine wpList_load_cfg (.tmp 2) ?_ ?_ D cs ?_ HC1.out HCI1.out.len ?_); rfl; rfl; rfl)
    refine HG1.out.mono ?_
    rintro e w2 ⟨y2, rfl, hy2, hb2⟩
    have HM2 := Lib.hid (HM1.out.below hb2 HM1.out.lt)
    have HB2 := Lib.hid (HB1.out.trans (hb2.mono HB1.out.size))
    cases y2 with
    | false =>
      clear hy2 hb2 HC1 HM1 HCI1 HB1 HG1
      go_wp2_with fail
      go_ret
      exact ⟨true, rfl, (fun h => by cases h), HB2.out⟩
    | true =>
      obtain ⟨C, hC⟩ := hy2 rfl
      have HOK := Lib.hid hC
      obtain ⟨_, _, _, _, c36⟩ := HM2.out.msg HF.out
      rw [HSL.out] at c36
      clear hy2 hb2 hC HC1 HM1 HCI1 HB1 HG1
      by_cases hl : (200 : Int) < (M.l.length : Int)
      · go_wp2_with fail
        go_ret
        exact ⟨true, rfl, (fun h => by cases h), HB2.out⟩
      · have HL := Lib.hid hl
        go_wp2_with fail
        go_ret
        exact ⟨decide ((200 : Int) < (M.l.length : Int)), rfl, fun _ => ⟨⟨C, HOK.out⟩, by have := HL.out; omega⟩, HB2.out⟩
end Go.Proofs.YtnbdpalbompjlaaDoor

/-
  What the reference's Speakers answers.
-/
namespace Go.Proofs.YtnbdpalbompjlaaDoor
open Go.RowKit
set_option maxRecDepth 100000

set_option maxHeartbeats 8000000 in
theorem refspk_any (w : World) {cs : List Value} {C : Nat} {vs : List (Int × ByteArray)} (hc : CfgOk w cs C vs) (M : Msg) (sl : Value) (hf : M.Fits) (hr : BRow w w.heap.size sl M.l) (hbl : M.l.length ≤ 1000) :
    Calls Tryd.prog 12 #[.agg cs.toArray, .agg (mc M sl).toArray] w fun e w' => ∃ v, e = .returned (.tuple #[v, .bool (spk (comm M.s vs.length C) M).isSome]) ∧ Held w' w.heap.size v (iv ((spk (comm M.s vs.length C) M).getD [])) ∧ Below w.heap.size w w' := by
  have HF := Lib.hid hf
  have HC0 := Lib.hid ((Blk.new w 24 cs.toArray).alloc (.cells (mc M sl).toArray 32))
  have HM0 := Lib.hid (Blk.newAt (w.alloc (.cells cs.toArray 24)) 32 (mc M sl).toArray (w.heap.size + 1) (by simp))
  have hb0 : Below w.heap.size w ((w.alloc (.cells cs.toArray 24)).alloc (.cells (mc M sl).toArray 32)) := ((Below.refl w.heap.size w).alloc (Nat.le_refl _) _).alloc (by simp) _
  have HR0 := Lib.hid (hr.bits hb0)
  have HCF0 := Lib.hid (hc.below hb0)
  have HB0 := Lib.hid hb0
  obtain ⟨ao, cap, hsl⟩ := hr.form
  have HSL := Lib.hid hsl
  obtain ⟨K, hK⟩ : ∃ K, K = comm M.s vs.length C := ⟨_, rfl⟩
  have HK := Lib.hid hK.symm
  rw [← hK]
  clear hK hb0 hr hc hf hsl
  obtain ⟨G, hG⟩ : ∃ G, G = w.heap.size + 1 := ⟨_, rfl⟩
  obtain ⟨D, hD⟩ : ∃ D, D = w.heap.size := ⟨_, rfl⟩
  go_enter Tryd.func12, Tryd.ntmps12
  go_upto_region 1 with fail
  generalize (w.alloc (.cells cs.toArray 24)).alloc (.cells (mc M sl).toArray 32) = w0 at HB0 HC0 HM0 HR0 HCF0 ⊢
  rw [← hG] at HM0 ⊢
  rw [← hD] at HC0 ⊢
  clear hG hD
  go_wp2_with ((with_reducible refine wpList_load_msgG (.tmp 3) ?_ ?_ G M sl ?_ HM0.out HF.out ?_); rfl; rfl; rfl)
  refine (refgood_any w0 M sl HF.out HR0.out hbl).mono ?_
  rintro e w1 ⟨rfl, hb1⟩
  have HC1 := Lib.hid (HC0.out.below hb1 HC0.out.lt)
  have HM1 := Lib.hid (HM0.out.below hb1 HM0.out.lt)
  have HR1 := Lib.hid (HR0.out.bits hb1)
  have HCF := Lib.hid (HCF0.out.below hb1)
  have HB1 := Lib.hid (HB0.out.trans (hb1.mono HB0.out.size))
  clear hb1 HC0 HM0 HR0 HCF0 HB0
  cases hgd : msgGood M with
  | false =>
    have HS := Lib.hid (spk_bad (K := K) hgd)
    clear hgd
    go_wp2_with fail
    go_ret2
    exact ⟨.slice none 0 0, by rw [HS.out]; rfl, by rw [HS.out]; exact Held.nil _ _, HB1.out⟩
  | true =>
  obtain ⟨c0, c1, c34, c35, c36⟩ := HM1.out.msg HF.out
  have hsp := msg_spans hgd
  obtain ⟨m, hm⟩ : ∃ m : Nat, M.m = m := ⟨M.m.toNat, by omega⟩
  have HMM := Lib.hid hm
  by_cases k3 : M.k = 3
  · have hs1 := spk_three (K := K) hgd k3
    have HY := Lib.hid (show (spk K M).isSome = fits K M.l by
      rw [hs1]
      cases h : fits K M.l <;> simp)
    have HLK := Lib.hid (show (spk K M).getD [] = picked K M.l by
      rw [hs1]
      by_cases h : fits K M.l = true
      · simp [h]
      · simp [h, picked])
    rw [k3] at c0
    rw [HSL.out] at c36
    have HPK := Lib.hid (refPick_cfg w1 HCF.out M.s sl M.l HR1.out)
    rw [HSL.out] at HPK
    clear hs1 hgd k3 hsp hm
    go_wp2_with ((with_reducible refine wpList_load_cfg (.tmp 2) ?_ ?_ D cs ?_ HC1.out HCF.out.len ?_); rfl; rfl; rfl)
    refine HPK.out.mono ?_
    rintro e w2 ⟨v, rfl, hh, hb⟩
    rw [HK.out] at hh
    rw [HK.out]
    have HH := Lib.hid hh
    have HB2 := Lib.hid (HB1.out.trans (hb.mono HB1.out.size))
    clear hh hb c0 c1 c34 c35 c36
    go_wp2_with fail
    go_ret2
    exact ⟨v, by rw [HY.out]; rfl, by rw [HLK.out]; exact HH.out.mono HB1.out.size, HB2.out⟩
  · have hk3 : (M.k == 3) = false := by simpa using k3
    obtain ⟨P, hP⟩ : ∃ P, placeFrom (m : Int) 0 K = P := ⟨_, rfl⟩
    have HP := Lib.hid hP
    have hp := placeFrom_low (m : Int) K 0
    rw [hP] at hp
    have HY1 := Lib.hid (show M.k = 1 → P = 0 → spk K M = some [m] by
      intro k1 p
      have h := spk_one (K := K) hgd k1
      rw [hm, if_pos ((firstOf_place (by omega) K).2 (by rw [hP]; exact p))] at h
      simpa using h)
    have HY2 := Lib.hid (show M.k = 1 → P ≠ 0 → spk K M = none by
      intro k1 p
      have h := spk_one (K := K) hgd k1
      rw [hm, if_neg (fun e => p (by rw [← hP]; exact (firstOf_place (by omega) K).1 e))] at h
      exact h)
    have HY3 := Lib.hid (show M.k = 2 → 0 ≤ P → spk K M = some [m] by
      intro k2 p
      have h := spk_two (K := K) hgd k2
      rw [hm, hP, if_pos p] at h
      simpa using h)
    have HY4 := Lib.hid (show M.k = 2 → P < 0 → spk K M = none by
      intro k2 p
      have h := spk_two (K := K) hgd k2
      rw [hm, hP, if_neg (by omega)] at h
      exact h)
    have hkk := msg_kinds hgd
    have HPL := Lib.hid (refPlace_cfg w1 HCF.out M.s (m : Int))
    rw [HMM.out] at c34
    clear hgd hsp hm hP HSL
    go_wp2_with ((with_reducible refine wpList_load_cfg (.tmp 2) ?_ ?_ D cs ?_ HC1.out HCF.out.len ?_); rfl; rfl; rfl)
    refine HPL.out.mono ?_
    rintro e w2 ⟨rfl, hb⟩
    rw [HK.out, HP.out]
    have HM2 := Lib.hid (HM1.out.below hb HM1.out.lt)
    have HB2 := Lib.hid (HB1.out.trans (hb.mono HB1.out.size))
    clear hb c0 c1 c34 c35 c36 HPL HM1
    obtain ⟨c0, _, c34, _, _⟩ := HM2.out.msg HF.out
    rw [HMM.out] at c34
    have HN := Lib.hid (held_int w2 m)
    have HBN := Lib.hid (HB2.out.alloc HB2.out.size (.cells #[.int .i64 (m : Int)] 3))
    have HBl := Lib.hid HB2.out.size
    by_cases k1 : M.k = 1
    · rw [k1] at c0
      by_cases p0 : P = 0
      · have HS := Lib.hid (HY1.out k1 p0)
        subst p0
        clear k1 hkk hp hk3 k3
        go_wp2_with fail
        go_ret2
        exact ⟨_, by rw [HS.out]; rfl, by rw [HS.out]; exact HN.out.mono HBl.out, HBN.out⟩
      · have HS := Lib.hid (HY2.out k1 p0)
        clear k1 hkk hk3 k3
        rcases hp with hp | hp
        · subst hp
          go_wp2_with fail
          go_ret2
          exact ⟨.slice none 0 0, by rw [HS.out]; rfl, by rw [HS.out]; exact Held.nil _ _, HB2.out⟩
        · have p1 : ¬ P < 0 := by omega
          have p2 : 0 < P := by omega
          clear hp p0
          go_wp2_with fail
          go_ret2
          exact ⟨.slice none 0 0, by rw [HS.out]; rfl, by rw [HS.out]; exact Held.nil _ _, HB2.out⟩
    · have k2 : M.k = 2 := by omega
      rw [k2] at c0
      rcases hp with hp | hp
      · have HS := Lib.hid (HY4.out k2 (by omega))
        subst hp
        clear k1 k2 hkk hk3 k3
        go_wp2_with fail
        go_ret2
        exact ⟨.slice none 0 0, by rw [HS.out]; rfl, by rw [HS.out]; exact Held.nil _ _, HB2.out⟩
      · have HS := Lib.hid (HY3.out k2 (by omega))
        have p1 : ¬ P < 0 := by omega
        clear k1 k2 hkk hk3 k3 hp
        go_wp2_with fail
        go_ret2
        exact ⟨_, by rw [HS.out]; rfl, by rw [HS.out]; exact HN.out.mono HBl.out, HBN.out⟩
end Go.Proofs.YtnbdpalbompjlaaDoor

/-
  What the reference's Votes answers.
-/
namespace Go.Proofs.YtnbdpalbompjlaaDoor
open Go.RowKit
set_option maxRecDepth 100000

set_option maxHeartbeats 8000000 in
theorem refvotes_any (w : World) {cs : List Value} {C : Nat} {vs : List (Int × ByteArray)} (hc : CfgOk w cs C vs) (M : Msg) (sl : Value) (hf : M.Fits) (hr : BRow w w.heap.size sl M.l) (hbl : M.l.length ≤ 1000) :
    Calls Tryd.prog 20 #[.agg cs.toArray, .agg (mc M sl).toArray] w fun e w' => ∃ v, e = .returned v ∧ Wide 34 w' w.heap.size v (vv (votesM (comm M.s vs.length C) M)) ∧ Below w.heap.size w w' := by
  obtain ⟨i0, hi0, hz0, hz1, hz2⟩ := info_parts Tryd.infoVote
  have hzc : (Value.agg vzero.toArray).cells.size = 34 := by rfl
  have HF := Lib.hid hf
  have HC0 := Lib.hid ((Blk.new w 24 cs.toArray).alloc (.cells (mc M sl).toArray 32))
  have HM0 := Lib.hid (Blk.newAt (w.alloc (.cells cs.toArray 24)) 32 (mc M sl).toArray (w.heap.size + 1) (by simp))
  have hb0 : Below w.heap.size w ((w.alloc (.cells cs.toArray 24)).alloc (.cells (mc M sl).toArray 32)) := ((Below.refl w.heap.size w).alloc (Nat.le_refl _) _).alloc (by simp) _
  have HR0 := Lib.hid (hr.bits hb0)
  have HCF0 := Lib.hid (hc.below hb0)
  have HB0 := Lib.hid hb0
  obtain ⟨K, hK⟩ : ∃ K, K = comm M.s vs.length C := ⟨_, rfl⟩
  have HK := Lib.hid hK.symm
  have HKL := Lib.hid (show K.length ≤ 1000 by have h1 := comm_le M.s vs.length C; have h2 := hc.vals; rw [hK]; omega)
  rw [← hK]
  obtain ⟨L, hL⟩ : ∃ L, (spk K M).getD [] = L := ⟨_, rfl⟩
  obtain ⟨Y, hY⟩ : ∃ Y, (spk K M).isSome = Y := ⟨_, rfl⟩
  have HLL := Lib.hid hL
  have HYY := Lib.hid hY
  have HV1 := Lib.hid (show M.k = 1 → votesM K M = [] by intro k; rw [votesM, if_pos k])
  have HV2 := Lib.hid (show M.k ≠ 1 → votesM K M = L.map fun i => (i, M.s, M.T) by intro k; rw [votesM, if_neg k, hL])
  have HV3 := Lib.hid (show Y = false → votesM K M = [] by
    intro y
    rw [y] at hY
    have h : spk K M = none := by simpa using hY
    rw [votesM, h]
    simp)
  have hLl : L.length ≤ 1000 := by
    rw [← hL]
    cases h : spk K M with
    | none => simp
    | some l => exact spk_len h HKL.out
  clear hK hb0 hr hc hf  hL hY
  obtain ⟨G, hG⟩ : ∃ G, G = w.heap.size + 1 := ⟨_, rfl⟩
  obtain ⟨D, hD⟩ : ∃ D, D = w.heap.size := ⟨_, rfl⟩
  have hDl : w.heap.size ≤ D := by omega
  have HDl := Lib.hid hDl
  go_enter Tryd.func20, Tryd.ntmps20
  go_upto_region 1 with fail
  generalize (w.alloc (.cells cs.toArray 24)).alloc (.cells (mc M sl).toArray 32) = w0 at HB0 HC0 HM0 HR0 HCF0 ⊢
  rw [← hG] at HM0 ⊢
  rw [← hD] at HC0 ⊢
  clear hG hD hDl
  have HSP := Lib.hid (refspk_any w0 HCF0.out M sl HF.out HR0.out hbl)
  go_wp2_with (first
    | ((with_reducible refine wpList_load_msgG (.tmp 3) ?_ ?_ G M sl ?_ HM0.out HF.out ?_); rfl; rfl; rfl)
    | ((with_reducible refine wpList_load_cfg (.tmp 2) ?_ ?_ D cs ?_ HC0.out HCF0.out.len ?_); rfl; rfl; rfl))
  refine HSP.out.mono ?_
  rintro e w1 ⟨v, rfl, hh, hb1⟩
  rw [HK.out, HLL.out] at hh
  rw [HK.out, HYY.out]
  have HM1 := Lib.hid (HM0.out.below hb1 HM0.out.lt)
  have HB1 := Lib.hid (HB0.out.trans (hb1.mono HB0.out.size))
  obtain ⟨ao, cap, b, off, rfl, hl⟩ := hh.lies
  rw [iv_length]
  have HL := Lib.hid hl
  obtain ⟨n, hn⟩ : ∃ n, n = L.length := ⟨_, rfl⟩
  have HN0 := Lib.hid hn.symm
  rw [← hn] at hLl ⊢
  clear hb1 HC0 HM0 HR0 HCF0 HB0 hh hl hn HSP
  cases Y with
  | false =>
    have HV := Lib.hid (HV3.out rfl)
    go_wp2_with fail
    go_ret
    exact ⟨.slice none 0 0, rfl, by rw [HV.out]; exact wide_nil _ _ _, HB1.out⟩
  | true =>
    obtain ⟨c0, _, _, _, _⟩ := HM1.out.msg HF.out
    by_cases k : M.k = 1
    · have HV := Lib.hid (HV1.out k)
      rw [k] at c0
      clear k
      go_wp2_with fail
      go_ret
      exact ⟨.slice none 0 0, rfl, by rw [HV.out]; exact wide_nil _ _ _, HB1.out⟩
    · have HK1 := Lib.hid k
      have hk : (M.k == 1) = false := by simpa using k
      clear k
      go_wp2_with fail
      clear hk c0
      go_loopw [5, 25] (fun v i wr => ∃ (j : Nat), j ≤ n ∧ i = .int .i64 j ∧ Hid (Wide 34 wr w1.heap.size v (vv ((L.take j).map fun i => (i, M.s, M.T)))) ∧ Hid (Below w1.heap.size w1 wr)) (fun _ i _ => n - (intOf i).toNat)
      case atStart => exact ⟨0, Nat.zero_le _, rfl, Lib.hid (wide_nil 34 w1 w1.heap.size), Lib.hid (Below.refl _ _)⟩
      case round =>
        obtain ⟨j, hj, rfl, HWD, HBel⟩ := hrel
        have HMr := Lib.hid (HM1.out.below HBel.out HM1.out.lt)
        have HBr := Lib.hid (HB1.out.trans (HBel.out.mono HB1.out.size))
        by_cases hlt : j < n
        · obtain ⟨x, hx⟩ : ∃ x, L[j]? = some x := ⟨_, List.getElem?_eq_getElem (by rw [HN0.out]; exact hlt)⟩
          obtain ⟨ha, c0⟩ := HL.out.int HBel.out hx
          subst ha
          obtain ⟨_, c1, _, _, _⟩ := HMr.out.msg HF.out
          have HTake := Lib.hid (show vv ((L.take (j + 1)).map fun i => (i, M.s, M.T)) = vv ((L.take j).map fun i => (i, M.s, M.T)) ++ vcell (x, M.s, M.T) by rw [List.take_add_one, hx, List.map_append, vv_append]; simp [vv])
          have HMT := Lib.hid (fun j v hj => (HMr.out.cell (2 + j)).trans (mc_T sl j v hj))
          have HW2 := Lib.hid (HWD.out.alloc (.cells (vcell (x, M.s, M.T)).toArray 51))
          have HSrc := Lib.hid (src_row wr 34 (by omega) 42 51 Tryd.underlying42 (vcell (x, M.s, M.T)) (vcell_length HF.out.T) (vcell_one _) (P := Tryd.prog))
          have HB3 := Lib.hid (HBel.out.alloc HBel.out.size (.cells (vcell (x, M.s, M.T)).toArray 51))
          have HVL := Lib.hid (show (vv ((L.take j).map fun i => (i, M.s, M.T))).length ≤ 34000 by
            rw [vv_length _ (by intro y hy; obtain ⟨i, _, rfl⟩ := List.mem_map.1 hy; exact HF.out.T), List.length_map, List.length_take]
            have := HN0.out
            omega)
          have HVC := Lib.hid (vcell_length (x := (x, M.s, M.T)) HF.out.T)
          have hsz := HBel.out.size
          clear hx
          go_wp2_with (first
            | ((with_reducible refine wpList_load_root (.tmp 33) ?_ ?_ G 2 M.T ?_ HF.out.T HMT.out ?_); rfl; rfl; rfl)
            | ((with_reducible refine wpList_build_msg ?_ 51 #[(0, .tmp 30), (1, .tmp 32), (2, .tmp 34)] ?_ (vcell (x, M.s, M.T)).toArray ?_ ?_); rfl; rfl; (simp only [List.map_toArray, List.map_cons, List.map_nil]; exact built_avote x M.s M.T HF.out.T))
            | ((with_reducible refine wpList_build_rows ?_ 42 51 1 #[(0, .tmp 35)] ?_ i0 (.agg vzero.toArray) (s := 34) (by omega) [vcell (x, M.s, M.T)] (by intro r hr; rw [List.mem_singleton] at hr; rw [hr]; exact HVC.out) Tryd.underlying42 hi0 hz0 hz1 ?_ (by omega) (by omega) ?_ ?_); rfl; rfl; rfl; rfl; rw [List.flatten_singleton])
            | (at_builtin; refine wpList_append_wide rfl _ _ 42 42 rfl rfl HW2.out (by omega) 51 i0 (.agg vzero.toArray) 48 Tryd.underlying42 hi0 hz0 hz1 hz2 hzc _ rfl 1 (vcell (x, M.s, M.T)) HSrc.out ?e2 ?e3 ?e4 ?_))
          case e2 => have := HVL.out; unfold maxLen; omega
          case e3 => have := HVL.out; omega
          case e4 => (try rw [World.size_alloc]); omega
          intro v2 w3 hh hg
          have HB4 := Lib.hid (show Below w1.heap.size w1 w3 from HB3.out.trans (hg.belowW HW2.out HB3.out.size))
          have HH4 := Lib.hid (show Wide 34 w3 w1.heap.size v2 (vv ((L.take (j + 1)).map fun i => (i, M.s, M.T))) by rw [HTake.out, List.map_take]; exact hh)
          clear hh hg HSrc HW2 HB3 c0 c1
          go_wp2_with fail
          go_roundw
          case rel => exact ⟨j + 1, by omega, by go_num, HH4, HB4⟩
          case measure => simp [intOf]; omega
        · have HFin := Lib.hid (show Wide 34 wr w1.heap.size u5 (vv (votesM K M)) by
            have h := HWD.out
            rw [List.take_of_length_le (by rw [HN0.out]; omega), ← HV2.out HK1.out] at h
            exact h)
          go_wp2_with fail
          go_ret
          exact ⟨u5, rfl, HFin.out.mono HB1.out.size, HBr.out⟩
end Go.Proofs.YtnbdpalbompjlaaDoor
