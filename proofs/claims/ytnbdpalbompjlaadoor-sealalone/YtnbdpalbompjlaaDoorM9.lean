/-
  The texts Vals0, RefTot, WGood, WRef, one behind the other.
-/
import Derived.Test.YtnbdpalbompjlaaDoorM4
import Derived.Deep.QuietTactic
import Derived.BigQuiet
import Derived.Deep.DeepCutAuto
import Derived.Laws.Bits64
import Derived.Laws.BitsLemmas
import Derived.Test.YtnbdpalbompjlaaDoorM8
/-
  Validators as a row of cells: what they are, what all stakes together are.
-/
namespace Go.Proofs.YtnbdpalbompjlaaDoor
open Go.RowKit
set_option maxRecDepth 10000

/-- Validators as cells. -/
def vc (vs : List (Int × ByteArray)) : List Value := vs.flatMap fun v => [Value.int .i64 v.1, Value.string v.2]

theorem vc_length (vs : List (Int × ByteArray)) : (vc vs).length = vs.length * 2 := by
  induction vs with
  | nil => rfl
  | cons v r ih => simp only [vc, List.flatMap_cons, List.length_append, List.length_cons, List.length_nil] at ih ⊢; omega
theorem vc_append (a b : List (Int × ByteArray)) : vc (a ++ b) = vc a ++ vc b := by simp [vc]
theorem vc_at (vs : List (Int × ByteArray)) : ∀ (j : Nat) (v : (Int × ByteArray)), vs[j]? = some v → (vc vs)[j * 2]? = some (.int .i64 v.1) ∧ (vc vs)[j * 2 + 1]? = some (.string v.2) := by
  induction vs with
  | nil => intro j v h; simp at h
  | cons u r ih =>
    intro j v h
    have e : vc (u :: r) = Value.int .i64 u.1 :: Value.string u.2 :: vc r := rfl
    cases j with
    | zero => simp at h; subst h; rw [e]; exact ⟨rfl, rfl⟩
    | succ j =>
      simp at h
      have := ih j v h
      rw [e, show (j + 1) * 2 = j * 2 + 1 + 1 by omega, show j * 2 + 1 + 1 + 1 = (j * 2 + 1) + 1 + 1 by omega]
      simpa using this
theorem vc_one (vs : List (Int × ByteArray)) : ∀ u ∈ vc vs, u.oneCell' = true := by
  intro u hu
  rw [vc, List.mem_flatMap] at hu
  obtain ⟨v, _, h⟩ := hu
  simp at h
  rcases h with rfl | rfl <;> rfl

/-- Every stake is an int. -/
def Stakes (vs : List (Int × ByteArray)) : Prop := ∀ v ∈ vs, -9223372036854775808 ≤ v.1 ∧ v.1 ≤ 9223372036854775807

/-- A validator can be, but for how great its stake is. -/
def can (v : (Int × ByteArray)) : Bool := decide (0 ≤ v.1) && (decide (1 ≤ v.2.size) && decide (v.2.size ≤ 32))

/-- All stakes, on top of s. -/
def totFrom : Int → List (Int × ByteArray) → Option Int
  | s, [] => some s
  | s, v :: r => if can v = true ∧ v.1 < 4611686018427387904 - s then totFrom (s + v.1) r else none

/-- What Total answers. -/
def totV (o : Option Int) : Value := match o with
  | some s => .tuple #[.int .i64 s, .bool true]
  | none => .tuple #[.int .i64 0, .bool false]

/-- One of them: its two cells, in a world behind this one. -/
theorem Lies.val {w w' : World} {ao : Option Addr} {b off j : Nat} {vs : List (Int × ByteArray)} {v : (Int × ByteArray)} (h : Lies w w.heap.size ao b off (vc vs)) (hb : Below w.heap.size w w') (hv : vs[j]? = some v) :
    ao = some ⟨b, off, none⟩ ∧ w'.cell? ⟨b, off + j * 2, none⟩ = some (.int .i64 v.1) ∧ w'.cell? ⟨b, off + j * 2 + 1, none⟩ = some (.string v.2) := by
  obtain ⟨h1, h2⟩ := vc_at vs j v hv
  have hl : 0 < (vc vs).length := by have := (List.getElem?_eq_some_iff.1 hv).1; rw [vc_length]; omega
  have hlt := h.lt hl
  exact ⟨h.addr hl, (hb.cell (p := ⟨b, off + j * 2, none⟩) hlt).trans (h.cells _ _ h1), (hb.cell (p := ⟨b, off + j * 2 + 1, none⟩) hlt).trans (h.cells _ _ h2)⟩

theorem drop_at {α : Type} {l : List α} {j : Nat} {v : α} (h : l[j]? = some v) : l.drop j = v :: l.drop (j + 1) := by
  obtain ⟨h1, h2⟩ := List.getElem?_eq_some_iff.1 h
  rw [List.drop_eq_getElem_cons h1, h2]

end Go.Proofs.YtnbdpalbompjlaaDoor

/-
  What the reference's Total and Great answer.
-/
namespace Go.Proofs.YtnbdpalbompjlaaDoor
open Go.RowKit
set_option maxRecDepth 10000

set_option maxHeartbeats 1000000 in
theorem refTotal_any (w : World) (ao : Option Addr) (len cap b off : Nat) (vs : List (Int × ByteArray)) (hl : vs.length = len) (hL : len ≤ 1000) (hst : Stakes vs) (hs : Lies w w.heap.size ao b off (vc vs)) :
    Calls Tryd.prog 44 #[.slice ao len cap] w fun e w' => e = .returned (totV (totFrom 0 vs)) ∧ Below w.heap.size w w' := by
  have HS := Lib.hid hs
  have HL := Lib.hid hl
  have HST := Lib.hid hst
  clear hs hl hst
  go_enter Tryd.func44, Tryd.ntmps44
  go_wp2_with fail
  go_loopw [4, 9] (fun s i wr => ∃ (j : Nat) (z : Int), j ≤ len ∧ i = .int .i64 j ∧ s = .int .u64 z ∧ 0 ≤ z ∧ z < 4611686018427387904 ∧ Hid (totFrom z (vs.drop j) = totFrom 0 vs) ∧ Below w.heap.size w wr) (fun _ i _ => len - (intOf i).toNat)
  case atStart => exact ⟨0, 0, Nat.zero_le _, rfl, rfl, Int.le_refl _, by decide, Lib.hid rfl, Below.refl _ _⟩
  case round =>
    obtain ⟨j, z, hj, rfl, rfl, hz0, hz1, HT, hbel⟩ := hrel
    by_cases hlt : j < len
    · obtain ⟨v, hv⟩ : ∃ v, vs[j]? = some v := ⟨_, List.getElem?_eq_getElem (by rw [HL.out]; exact hlt)⟩
      have hr := HST.out v (List.mem_of_getElem? hv)
      obtain ⟨ha, c0, c1⟩ := HS.out.val hbel hv
      have HD := Lib.hid (drop_at hv)
      obtain ⟨x, k⟩ := v
      simp only at c0 c1 hr
      subst ha
      have HB2 := Lib.hid (hbel.alloc hbel.size (.cells #[.int .i64 x, .string k] 59))
      clear hv hbel
      have none_of : can (x, k) = false → totFrom 0 vs = none := fun h => by rw [← HT.out, HD.out, totFrom, if_neg (by simp [h])]
      have NO := Lib.hid none_of
      clear none_of
      by_cases hx0 : x < 0
      · have HR := Lib.hid (NO.out (by simp [can]; omega))
        go_wp2_with fail
        go_ret2
        rw [HR.out]
        exact ⟨rfl, HB2.out⟩
      · by_cases h1 : (k.size : Int) < 1
        · have HR := Lib.hid (NO.out (by simp [can]; omega))
          go_wp2_with fail
          go_ret2
          rw [HR.out]
          exact ⟨rfl, HB2.out⟩
        · by_cases h2 : (32 : Int) < (k.size : Int)
          · have HR := Lib.hid (NO.out (by simp [can]; omega))
            go_wp2_with fail
            go_ret2
            rw [HR.out]
            exact ⟨rfl, HB2.out⟩
          · have HC := Lib.hid (show can (x, k) = true by simp [can]; omega)
            have w1 : IntKind.u64.wrap x = x := by rw [IntKind.wrap_u64]; omega
            have w2 : (z + x) % 18446744073709551616 = z + x := by omega
            by_cases hle : 4611686018427387904 ≤ z + x
            · have HR := Lib.hid (show totFrom 0 vs = none by rw [← HT.out, HD.out, totFrom, if_neg (by simp; omega)])
              go_wp2_with fail
              go_ret2
              rw [HR.out]
              exact ⟨rfl, HB2.out⟩
            · have HR := Lib.hid (show totFrom (z + x) (vs.drop (j + 1)) = totFrom 0 vs by rw [← HT.out, HD.out, totFrom, if_pos ⟨HC.out, by simp; omega⟩])
              go_wp2_with fail
              go_roundw
              case rel => exact ⟨j + 1, z + x, by omega, by go_num, by go_num, by omega, by omega, HR, HB2.out⟩
              case measure => simp [intOf]; omega
    · have hjl : j = len := by omega
      have HR := Lib.hid (show totFrom 0 vs = some z by rw [← HT.out, hjl, ← HL.out, List.drop_length, totFrom])
      have HBel := Lib.hid hbel
      have w1 : IntKind.i64.wrap z = z := by rw [IntKind.wrap_i64]; omega
      clear hjl hbel
      go_wp2_with fail
      go_ret2
      rw [HR.out]
      exact ⟨rfl, HBel.out⟩

/-- More than is played. -/
def tooMuch (vs : List (Int × ByteArray)) : Bool := decide (100 < vs.length) || vs.any fun v => decide (200 < v.2.size)

set_option maxHeartbeats 1000000 in
theorem tooMuch_any (w : World) (nao : Option Addr) (nlen ncap b off : Nat) (n1 n2 n3 n4 n5 n6 n7 n8 n9 n10 n11 : Int) (vs : List (Int × ByteArray)) (hl : vs.length = nlen) (hs : Lies w w.heap.size nao b off (vc vs)) :
    Calls Tryd.prog 24 #[.agg #[.slice nao nlen ncap, .int .i64 n1, .int .i64 n2, .int .i64 n3, .int .i64 n4, .int .i64 n5, .int .i64 n6, .int .i64 n7, .int .i64 n8, .int .i64 n9, .int .i64 n10, .int .i64 n11]] w fun e w' => e = .returned (.bool (tooMuch vs)) ∧ Below w.heap.size w w' := by
  have HS := Lib.hid hs
  have HL := Lib.hid hl
  have HB0 := Lib.hid ((Below.refl w.heap.size w).alloc (Nat.le_refl _) (.cells #[.slice nao nlen ncap, .int .i64 n1, .int .i64 n2, .int .i64 n3, .int .i64 n4, .int .i64 n5, .int .i64 n6, .int .i64 n7, .int .i64 n8, .int .i64 n9, .int .i64 n10, .int .i64 n11] 24))
  clear hs hl
  by_cases h100 : (100 : Int) < (nlen : Int)
  · have HG := Lib.hid (show tooMuch vs = true by simp [tooMuch, HL.out]; omega)
    go_enter Tryd.func24, Tryd.ntmps24
    go_wp2_with fail
    go_ret
    rw [HG.out]
    exact ⟨rfl, HB0.out⟩
  · have hlen : nlen ≤ 100 := by omega
    go_enter Tryd.func24, Tryd.ntmps24
    go_wp2_with fail
    go_loopw [12] (fun i wr => ∃ (j : Nat), j ≤ nlen ∧ i = .int .i64 j ∧ Hid (tooMuch vs = (vs.drop j).any fun v => decide (200 < v.2.size)) ∧ Below w.heap.size w wr) (fun i _ => nlen - (intOf i).toNat)
    case atStart => exact ⟨0, Nat.zero_le _, rfl, Lib.hid (by simp [tooMuch, HL.out]; omega), HB0.out⟩
    case round =>
      obtain ⟨j, hj, rfl, HT, hbel⟩ := hrel
      by_cases hlt : j < nlen
      · obtain ⟨v, hv⟩ : ∃ v, vs[j]? = some v := ⟨_, List.getElem?_eq_getElem (by rw [HL.out]; exact hlt)⟩
        obtain ⟨ha, c0, c1⟩ := HS.out.val hbel hv
        have HD := Lib.hid (drop_at hv)
        obtain ⟨x, k⟩ := v
        simp only at c0 c1
        subst ha
        have HB2 := Lib.hid (hbel.alloc hbel.size (.cells #[.int .i64 x, .string k] 59))
        clear hv hbel
        by_cases h2 : (200 : Int) < (k.size : Int)
        · have HR := Lib.hid (show tooMuch vs = true by rw [HT.out, HD.out, List.any_cons]; simp; left; omega)
          go_wp2_with fail
          go_ret
          rw [HR.out]
          exact ⟨rfl, HB2.out⟩
        · have HR := Lib.hid (show tooMuch vs = (vs.drop (j + 1)).any fun v => decide (200 < v.2.size) by
            rw [HT.out, HD.out, List.any_cons, show decide (200 < (x, k).2.size) = false by simp; omega, Bool.false_or])
          go_wp2_with fail
          go_roundw
          case rel => exact ⟨j + 1, by omega, by go_num, HR, HB2.out⟩
          case measure => simp [intOf]; omega
      · have hjl : j = nlen := by omega
        have HR := Lib.hid (show tooMuch vs = false by rw [HT.out, hjl, ← HL.out, List.drop_length, List.any_nil])
        have HBel := Lib.hid hbel
        clear hjl hbel
        go_wp2_with fail
        go_ret
        rw [HR.out]
        exact ⟨rfl, HBel.out⟩
end Go.Proofs.YtnbdpalbompjlaaDoor

/-
  What wire.Good, and what it calls, answer.
-/
namespace Go.Proofs.YtnbdpalbompjlaaDoor
open Go.RowKit
set_option maxRecDepth 10000

theorem any_take_succ {l : List Bool} {k : Nat} {x : Bool} (h : l[k]? = some x) : (l.take (k + 1)).any id = ((l.take k).any id || x) := by
  rw [List.take_add_one, h]
  simp

set_option maxHeartbeats 1000000 in
theorem bindex_any (w : World) (u : Value) (l : List Bool) (hu : BRow w w.heap.size u l) (hl : l.length ≤ 1000) :
    Calls Tryd.prog 72 #[u, .bool true] w fun e w' => ∃ z : Int, e = .returned (.int .i64 z) ∧ Hid (decide (0 ≤ z) = l.any id) ∧ w = w' := by
  obtain ⟨ao, cap, b, off, rfl, _, _, hr⟩ := hu
  obtain ⟨L, hL⟩ : ∃ L, L = l.length := ⟨_, rfl⟩
  rw [← hL] at hl
  rw [← hL]
  have HL := Lib.hid hL
  have HR := Lib.hid hr
  clear hL hr
  go_enter Tryd.func72, Tryd.ntmps72
  go_wp2_with fail
  go_loop [5, 8] (fun _ i => ∃ k : Nat, k ≤ L ∧ i = .int .i64 k ∧ Hid ((l.take k).any id = false)) (fun _ i => L - (intOf i).toNat)
  case atStart => exact ⟨0, Nat.zero_le _, rfl, Lib.hid rfl⟩
  case round =>
    obtain ⟨k, hk, rfl, HN⟩ := hrel
    by_cases hlt : k < L
    · have hkl : k < l.length := by rw [← HL.out]; exact hlt
      obtain ⟨x, hx⟩ : ∃ x, l[k]? = some x := ⟨_, List.getElem?_eq_getElem hkl⟩
      obtain rfl := HR.out.addr (by omega)
      have c1 := HR.out.cells k x hx
      have HS := Lib.hid (any_take_succ hx)
      have HX := Lib.hid hx
      clear hx hkl
      cases x
      · go_wp2
        go_round
        case rel => exact ⟨k + 1, by omega, by go_num, Lib.hid (by rw [HS.out, HN.out]; rfl)⟩
        case measure => simp [intOf]; omega
      · go_wp2
        go_ret
        refine ⟨_, rfl, Lib.hid ?_, rfl⟩
        have : l.any id = true := List.any_eq_true.2 ⟨true, List.mem_of_getElem? HX.out, rfl⟩
        rw [this]
        simp
    · have HA := Lib.hid (show l.any id = false by rw [← HN.out, List.take_of_length_le (by rw [← HL.out]; omega)])
      go_wp2
      go_ret
      exact ⟨_, rfl, Lib.hid (by rw [HA.out]; rfl), rfl⟩

theorem bcontains_any (w : World) (u : Value) (l : List Bool) (hu : BRow w w.heap.size u l) (hl : l.length ≤ 1000) :
    Calls Tryd.prog 61 #[u, .bool true] w fun e w' => e = .returned (.bool (l.any id)) ∧ w = w' := by
  have H := Lib.hid (bindex_any w u l hu hl)
  clear hu
  go_enter Tryd.func61, Tryd.ntmps61
  go_wp2_with fail
  refine H.out.mono ?_
  rintro e w1 ⟨z, rfl, HZ, rfl⟩
  go_wp2
  go_ret
  exact ⟨by rw [← HZ.out]; rfl, rfl⟩

set_option maxHeartbeats 1000000 in
theorem goodRow_any (w : World) (u : Value) (l : List Bool) (hu : BRow w w.heap.size u l) :
    Calls Tryd.prog 48 #[u] w fun e w' => e = .returned (.bool (decide (l.length ≤ 16) && l.any id)) ∧ w = w' := by
  by_cases h16 : l.length ≤ 16
  · have H := Lib.hid (bcontains_any w u l hu (by omega))
    obtain ⟨ao, cap, rfl⟩ := hu.form
    rw [show decide (l.length ≤ 16) = true by simp; omega, Bool.true_and]
    have h1 : (l.length : Int) ≤ 16 := by omega
    generalize l.any id = A at H ⊢
    generalize l.length = L at *
    clear hu
    go_enter Tryd.func48, Tryd.ntmps48
    go_wp2_with fail
    refine H.out.mono ?_
    rintro e w1 ⟨rfl, rfl⟩
    go_wp2
    go_ret
    exact ⟨rfl, rfl⟩
  · obtain ⟨ao, cap, rfl⟩ := hu.form
    rw [show decide (l.length ≤ 16) = false by simp; omega, Bool.false_and]
    have h1 : ¬ (l.length : Int) ≤ 16 := by omega
    generalize l.length = L at *
    clear hu
    go_enter Tryd.func48, Tryd.ntmps48
    go_wp2
    go_ret
    exact ⟨rfl, rfl⟩

theorem msg_out {M : Msg} (h : ¬ (0 ≤ M.s ∧ M.s ≤ 1073741824 ∧ 0 ≤ M.m ∧ M.m ≤ 65535)) : msgGood M = false := by
  unfold msgGood
  rw [show decide (0 ≤ M.s ∧ M.s ≤ 1073741824 ∧ 0 ≤ M.m ∧ M.m ≤ 65535) = false by simpa using h, Bool.false_and]
theorem msg_in {M : Msg} (h : 0 ≤ M.s ∧ M.s ≤ 1073741824 ∧ 0 ≤ M.m ∧ M.m ≤ 65535) : msgGood M = (if M.k = 1 then decide (M.l.length = 0) else if M.k = 2 then decide (M.l.length = 0) && decide (M.b = 0) else if M.k = 3 then decide (M.m = 0) && decide (M.b = 0) && (decide (M.l.length ≤ 16) && M.l.any id) else false) := by
  unfold msgGood
  rw [show decide (0 ≤ M.s ∧ M.s ≤ 1073741824 ∧ 0 ≤ M.m ∧ M.m ≤ 65535) = true by simpa using h, Bool.true_and]

theorem nat_eq0 (n : Nat) : (((n : Nat) : Int) == 0) = decide (n = 0) := by
  rw [Bool.eq_iff_iff]; simp
theorem int_eq0 (n : Int) : (n == 0) = decide (n = 0) := by
  rw [Bool.eq_iff_iff]; simp

set_option maxHeartbeats 4000000 in
theorem wgood_any (w : World) (M : Msg) (sl : Value) (hf : M.Fits) (hr : BRow w w.heap.size sl M.l) :
    Calls Tryd.prog 27 #[.agg (mc M sl).toArray] w fun e w' => e = .returned (.bool (msgGood M)) ∧ Below w.heap.size w w' := by
  have hk0 := Blk.new w 32 (mc M sl).toArray
  have hb0 := (Below.refl w.heap.size w).alloc (Nat.le_refl _) (.cells (mc M sl).toArray 32)
  have HR := Lib.hid (hr.bits hb0)
  obtain ⟨c0, c1, c34, c35, c36⟩ := Blk.msg (g := w.heap.size) (M := M) (sl := sl) hk0 hf
  obtain ⟨ao, cap, hsl⟩ := hr.form
  replace c36 := c36.trans (congrArg some hsl)
  have HSL := Lib.hid hsl
  have HB := Lib.hid hb0
  clear hk0 hr hb0 hsl
  by_cases hin : 0 ≤ M.s ∧ M.s ≤ 1073741824 ∧ 0 ≤ M.m ∧ M.m ≤ 65535
  · have HM := Lib.hid (msg_in hin)
    obtain ⟨i1, i2, i3, i4⟩ := hin
    have d1 : ¬ M.s < 0 := by omega
    have d2 : ¬ 1073741824 < M.s := by omega
    have d3 : ¬ M.m < 0 := by omega
    have d4 : ¬ 65535 < M.m := by omega
    have HE := Lib.hid (nat_eq0 M.l.length)
    have HEb := Lib.hid (nat_eq0 M.b)
    have HEm := Lib.hid (int_eq0 M.m)
    by_cases k1 : M.k = 1
    · rw [HM.out, if_pos k1, ← HE.out]
      rw [k1] at c0
      clear HM k1
      generalize (mc M sl).toArray = C at *
      go_enter Tryd.func27, Tryd.ntmps27
      go_wp2
      go_ret
      exact ⟨rfl, HB.out⟩
    · by_cases k2 : M.k = 2
      · rw [HM.out, if_neg k1, if_pos k2, ← HE.out, ← HEb.out]
        rw [k2] at c0
        clear HM k1 k2
        generalize (mc M sl).toArray = C at *
        by_cases h0 : M.l.length = 0
        · rw [h0] at c36 ⊢
          go_enter Tryd.func27, Tryd.ntmps27
          go_wp2
          go_ret
          exact ⟨rfl, HB.out⟩
        · have e0 : (((M.l.length : Nat) : Int) == 0) = false := by rw [HE.out]; simpa using h0
          rw [e0, Bool.false_and]
          go_enter Tryd.func27, Tryd.ntmps27
          go_wp2
          go_ret
          exact ⟨rfl, HB.out⟩
      · by_cases k3 : M.k = 3
        · have HG := Lib.hid (goodRow_any _ sl M.l HR.out)
          rw [HM.out, if_neg k1, if_neg k2, if_pos k3, ← HEm.out, ← HEb.out]
          rw [k3] at c0
          have HG2 := HG.out
          obtain ⟨w0, hw0⟩ : ∃ x, x = w.alloc (.cells (mc M sl).toArray 32) := ⟨_, rfl⟩
          rw [← hw0, HSL.out] at HG2
          have HG := Lib.hid HG2
          rw [hw0] at HG
          clear HG2 hw0 HM k1 k2 k3
          generalize (mc M sl).toArray = C at *
          generalize (decide (M.l.length ≤ 16) && M.l.any id) = A at HG ⊢
          by_cases hm : M.m = 0
          · rw [hm] at c34 ⊢
            by_cases hb : M.b = 0
            · rw [hb] at c35 ⊢
              go_enter Tryd.func27, Tryd.ntmps27
              go_wp2_with fail
              refine HG.out.mono ?_
              rintro e w1 ⟨rfl, rfl⟩
              go_wp2
              go_ret
              exact ⟨rfl, HB.out⟩
            · have e0 : (((M.b : Nat) : Int) == 0) = false := by rw [HEb.out]; simpa using hb
              rw [e0]
              go_enter Tryd.func27, Tryd.ntmps27
              go_wp2
              go_ret
              exact ⟨rfl, HB.out⟩
          · have e0 : (M.m == 0) = false := by rw [HEm.out]; simpa using hm
            rw [e0]
            go_enter Tryd.func27, Tryd.ntmps27
            go_wp2
            go_ret
            exact ⟨rfl, HB.out⟩
        · rw [HM.out, if_neg k1, if_neg k2, if_neg k3]
          have e1 : (M.k == 1) = false := by simpa using k1
          have e2 : (M.k == 2) = false := by simpa using k2
          have e3 : (M.k == 3) = false := by simpa using k3
          clear HM
          generalize (mc M sl).toArray = C at *
          go_enter Tryd.func27, Tryd.ntmps27
          go_wp2
          go_ret
          exact ⟨rfl, HB.out⟩
  · rw [msg_out hin]
    generalize (mc M sl).toArray = C at *
    by_cases d1 : M.s < 0
    · go_enter Tryd.func27, Tryd.ntmps27
      go_wp2
      go_ret
      exact ⟨rfl, HB.out⟩
    · by_cases d2 : 1073741824 < M.s
      · go_enter Tryd.func27, Tryd.ntmps27
        go_wp2
        go_ret
        exact ⟨rfl, HB.out⟩
      · by_cases d3 : M.m < 0
        · go_enter Tryd.func27, Tryd.ntmps27
          go_wp2
          go_ret
          exact ⟨rfl, HB.out⟩
        · have d4 : 65535 < M.m := by omega
          go_enter Tryd.func27, Tryd.ntmps27
          go_wp2
          go_ret
          exact ⟨rfl, HB.out⟩
end Go.Proofs.YtnbdpalbompjlaaDoor

/-
  What the document's Good (layer 7), and the statements' great, answer.
-/
namespace Go.Proofs.YtnbdpalbompjlaaDoor
open Go.RowKit
set_option maxRecDepth 10000

/-- How many say yes. -/
def yesN (l : List Bool) : Nat := (l.filter id).length
theorem yesN_succ {l : List Bool} {k : Nat} {x : Bool} (h : l[k]? = some x) : yesN (l.take (k + 1)) = yesN (l.take k) + x.toNat := by
  unfold yesN
  rw [List.take_add_one, h]
  cases x <;> simp
theorem yesN_le (l : List Bool) : yesN l ≤ l.length := List.length_filter_le _ _
theorem yesN_pos (l : List Bool) : decide (0 < yesN l) = l.any id := by
  rw [Bool.eq_iff_iff]
  unfold yesN
  rw [decide_eq_true_eq, List.length_pos_iff_exists_mem, List.any_eq_true]
  constructor
  · rintro ⟨x, hx⟩
    obtain ⟨h1, h2⟩ := List.mem_filter.1 hx
    exact ⟨x, h1, h2⟩
  · rintro ⟨x, h1, h2⟩
    exact ⟨x, List.mem_filter.2 ⟨h1, h2⟩⟩

theorem msg_none {M : Msg} (h : M.k < 1 ∨ 3 < M.k) : msgGood M = false := by
  unfold msgGood
  rw [if_neg (by omega), if_neg (by omega), if_neg (by omega), Bool.and_false]

set_option maxHeartbeats 4000000 in
theorem refgood_out (w : World) (M : Msg) (sl : Value) (hf : M.Fits) (h : M.k < 1 ∨ 3 < M.k ∨ M.s < 0 ∨ 1073741824 < M.s ∨ M.m < 0 ∨ 65535 < M.m) :
    Calls Tryd.prog 32 #[.agg (mc M sl).toArray] w fun e w' => e = .returned (.bool false) ∧ Below w.heap.size w w' := by
  have hk0 := Blk.new w 32 (mc M sl).toArray
  have hb0 := (Below.refl w.heap.size w).alloc (Nat.le_refl _) (.cells (mc M sl).toArray 32)
  obtain ⟨c0, c1, c34, _, _⟩ := Blk.msg (g := w.heap.size) (M := M) (sl := sl) hk0 hf
  have HB := Lib.hid hb0
  clear hk0 hb0
  generalize (mc M sl).toArray = C at *
  by_cases d1 : M.k < 1
  · go_enter Tryd.func32, Tryd.ntmps32
    go_wp2
    go_ret
    exact ⟨rfl, HB.out⟩
  · by_cases d2 : 3 < M.k
    · go_enter Tryd.func32, Tryd.ntmps32
      go_wp2
      go_ret
      exact ⟨rfl, HB.out⟩
    · by_cases d3 : M.s < 0
      · go_enter Tryd.func32, Tryd.ntmps32
        go_wp2
        go_ret
        exact ⟨rfl, HB.out⟩
      · by_cases d4 : 1073741824 < M.s
        · go_enter Tryd.func32, Tryd.ntmps32
          go_wp2
          go_ret
          exact ⟨rfl, HB.out⟩
        · by_cases d5 : M.m < 0
          · go_enter Tryd.func32, Tryd.ntmps32
            go_wp2
            go_ret
            exact ⟨rfl, HB.out⟩
          · have d6 : 65535 < M.m := by omega
            go_enter Tryd.func32, Tryd.ntmps32
            go_wp2
            go_ret
            exact ⟨rfl, HB.out⟩

set_option maxHeartbeats 4000000 in
theorem refgood_in (w : World) (M : Msg) (sl : Value) (hf : M.Fits) (hr : BRow w w.heap.size sl M.l) (hl : M.l.length ≤ 1000) (h : 1 ≤ M.k ∧ M.k ≤ 3 ∧ 0 ≤ M.s ∧ M.s ≤ 1073741824 ∧ 0 ≤ M.m ∧ M.m ≤ 65535) :
    Calls Tryd.prog 32 #[.agg (mc M sl).toArray] w fun e w' => e = .returned (.bool (msgGood M)) ∧ Below w.heap.size w w' := by
  have hk0 := Blk.new w 32 (mc M sl).toArray
  have hb0 := (Below.refl w.heap.size w).alloc (Nat.le_refl _) (.cells (mc M sl).toArray 32)
  have hrr := hr.bits hb0
  obtain ⟨c0, c1, c34, c35, c36⟩ := Blk.msg (g := w.heap.size) (M := M) (sl := sl) hk0 hf
  obtain ⟨ao, cap, b, off, hsl, _, _, hat⟩ := hrr
  replace c36 := c36.trans (congrArg some hsl)
  have HB := Lib.hid hb0
  have HAT := Lib.hid hat
  obtain ⟨i0, i1, i2, i3, i4, i5⟩ := h
  have d1 : ¬ M.k < 1 := by omega
  have d2 : ¬ 3 < M.k := by omega
  have d3 : ¬ M.s < 0 := by omega
  have d4 : ¬ 1073741824 < M.s := by omega
  have d5 : ¬ M.m < 0 := by omega
  have d6 : ¬ 65535 < M.m := by omega
  have HM := Lib.hid (msg_in ⟨i2, i3, i4, i5⟩)
  have HE := Lib.hid (nat_eq0 M.l.length)
  have HEb := Lib.hid (nat_eq0 M.b)
  have HEm := Lib.hid (int_eq0 M.m)
  have HY := Lib.hid (yesN_pos M.l)
  obtain ⟨L, hL⟩ : ∃ L, L = M.l.length := ⟨_, rfl⟩
  rw [← hL] at hl c36 HE HM
  have HL := Lib.hid hL
  clear hk0 hr hb0 hsl hat hL
  generalize (mc M sl).toArray = C at *
  obtain ⟨w0, hw0⟩ : ∃ x, w.alloc (.cells C 32) = x := ⟨_, rfl⟩
  obtain ⟨g, hg⟩ : ∃ x, w.heap.size = x := ⟨_, rfl⟩
  rw [hw0] at c0 c1 c34 c35 c36 HB HAT
  rw [hg] at c0 c1 c34 c35 c36
  have HW0 := Lib.hid hw0
  have HG := Lib.hid hg
  clear hw0 hg
  go_enter Tryd.func32, Tryd.ntmps32
  go_upto_region 1 with fail
  rw [HW0.out, HG.out]
  go_wp2_with fail
  go_loop [3, 5, 37] (fun y _ i => ∃ k : Nat, k ≤ L ∧ i = .int .i64 k ∧ y = .int .i64 (yesN (M.l.take k) : Int)) (fun _ _ i => L - (intOf i).toNat)
  case atStart => exact ⟨0, Nat.zero_le _, rfl, rfl⟩
  case round =>
    obtain ⟨k, hk, rfl, rfl⟩ := hrel
    by_cases hlt : k < L
    · have hkl : k < M.l.length := by rw [← HL.out]; exact hlt
      obtain ⟨x, hx⟩ : ∃ x, M.l[k]? = some x := ⟨_, List.getElem?_eq_getElem hkl⟩
      obtain rfl := HAT.out.addr (by omega)
      have cx := HAT.out.cells k x hx
      have HS := Lib.hid (yesN_succ hx)
      have hyl := yesN_le (M.l.take k)
      rw [List.length_take] at hyl
      have hyl2 : yesN (M.l.take k) ≤ 1000 := by omega
      generalize yesN (M.l.take k) = Y at *
      clear hx hkl hyl
      cases x
      · go_wp2
        go_round
        case rel => exact ⟨k + 1, by omega, by go_num, by rw [HS.out]; simp⟩
        case measure => simp [intOf]; omega
      · go_wp2
        go_round
        case rel => exact ⟨k + 1, by omega, by go_num, by rw [HS.out]; go_num⟩
        case measure => simp [intOf]; omega
    · have hall : M.l.take k = M.l := List.take_of_length_le (by rw [← HL.out]; omega)
      rw [hall]
      clear hall
      generalize yesN M.l = Y at *
      rcases (show M.k = 1 ∨ M.k = 2 ∨ M.k = 3 by omega) with q | q | q
      · rw [q] at c0 HM
        rw [if_pos rfl, ← HE.out] at HM
        by_cases h0 : L = 0
        · have hE : ((L : Int) == 0) = true := by rw [HE.out]; simpa using h0
          rw [hE] at HM
          go_wp2
          go_ret
          exact ⟨by rw [HM.out]; rfl, HB.out⟩
        · have hE : ((L : Int) == 0) = false := by rw [HE.out]; simpa using h0
          rw [hE] at HM
          go_wp2
          go_ret
          exact ⟨by rw [HM.out]; rfl, HB.out⟩
      · rw [q] at c0 HM
        rw [if_neg (by omega), if_pos rfl, ← HE.out, ← HEb.out] at HM
        by_cases h0 : L = 0
        · have hE : ((L : Int) == 0) = true := by rw [HE.out]; simpa using h0
          rw [hE, Bool.true_and] at HM
          go_wp2
          go_ret
          exact ⟨by rw [HM.out]; rfl, HB.out⟩
        · have hE : ((L : Int) == 0) = false := by rw [HE.out]; simpa using h0
          rw [hE, Bool.false_and] at HM
          go_wp2
          go_ret
          exact ⟨by rw [HM.out]; rfl, HB.out⟩
      · rw [q] at c0 HM
        rw [if_neg (by omega), if_neg (by omega), if_pos rfl, ← HEm.out, ← HEb.out, ← HY.out] at HM
        by_cases hm : M.m = 0
        · have e1 : (M.m == 0) = true := by simpa using hm
          rw [e1, Bool.true_and] at HM
          by_cases hb : M.b = 0
          · have e2 : ((M.b : Int) == 0) = true := by rw [HEb.out]; simpa using hb
            rw [e2, Bool.true_and] at HM
            by_cases h16 : L ≤ 16
            · have e3 : decide ((L : Int) ≤ 16) = true := by simp; omega
              rw [show decide (L ≤ 16) = true by simp; omega, Bool.true_and] at HM
              go_wp2
              go_ret
              exact ⟨by rw [HM.out]; rfl, HB.out⟩
            · have e3 : decide ((L : Int) ≤ 16) = false := by simp; omega
              rw [show decide (L ≤ 16) = false by simp; omega, Bool.false_and] at HM
              go_wp2
              go_ret
              exact ⟨by rw [HM.out]; rfl, HB.out⟩
          · have e2 : ((M.b : Int) == 0) = false := by rw [HEb.out]; simpa using hb
            rw [e2, Bool.false_and] at HM
            go_wp2
            go_ret
            exact ⟨by rw [HM.out]; rfl, HB.out⟩
        · have e1 : (M.m == 0) = false := by simpa using hm
          rw [e1, Bool.false_and, Bool.false_and] at HM
          go_wp2
          go_ret
          exact ⟨by rw [HM.out]; rfl, HB.out⟩

theorem refgood_any (w : World) (M : Msg) (sl : Value) (hf : M.Fits) (hr : BRow w w.heap.size sl M.l) (hl : M.l.length ≤ 1000) :
    Calls Tryd.prog 32 #[.agg (mc M sl).toArray] w fun e w' => e = .returned (.bool (msgGood M)) ∧ Below w.heap.size w w' := by
  by_cases h : M.k < 1 ∨ 3 < M.k ∨ M.s < 0 ∨ 1073741824 < M.s ∨ M.m < 0 ∨ 65535 < M.m
  · have hg : msgGood M = false := by
      by_cases hk : M.k < 1 ∨ 3 < M.k
      · exact msg_none hk
      · exact msg_out (by omega)
    rw [hg]
    exact refgood_out w M sl hf h
  · exact refgood_in w M sl hf hr hl (by omega)
end Go.Proofs.YtnbdpalbompjlaaDoor
