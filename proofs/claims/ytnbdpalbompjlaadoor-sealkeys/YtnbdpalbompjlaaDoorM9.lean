/-
  The texts Vals0, Place, Bools, Pick, BuildRows, one behind the other.
-/
import Derived.Test.YtnbdpalbompjlaaDoorWide
import Derived.Deep.QuietTactic
import Derived.BigQuiet
import Derived.Deep.DeepCutAuto
import Derived.Laws.Bits64
import Derived.Laws.BitsLemmas
import Derived.Test.YtnbdpalbompjlaaDoorM8
import Derived.Test.YtnbdpalbompjlaaDoorM5
import Derived.Test.YtnbdpalbompjlaaDoorM6
import Derived.Great.BuildSlice
/-
  Validators as a row of cells: what they are, what all stakes together are.
-/
namespace Go.Proofs.YtnbdpalbompjlaaDoor
open Go.RowKit
set_option maxRecDepth 10000

/-- Validators as cells. -/
def vc (vs : List (Int × ByteArray)) : List Value := vs.flatMap fun v => [Value.int .i64 v.1, Value.string v.2]

theorem vc_length (vs : List (Int × ByteArray)) : (vc vs).length = vs.length * 2 := by
  induction vs with
  | nil => rfl
  | cons v r ih => simp only [vc, List.flatMap_cons, List.length_append, List.length_cons, List.length_nil] at ih ⊢; omega
theorem vc_append (a b : List (Int × ByteArray)) : vc (a ++ b) = vc a ++ vc b := by simp [vc]
theorem vc_at (vs : List (Int × ByteArray)) : ∀ (j : Nat) (v : (Int × ByteArray)), vs[j]? = some v → (vc vs)[j * 2]? = some (.int .i64 v.1) ∧ (vc vs)[j * 2 + 1]? = some (.string v.2) := by
  induction vs with
  | nil => intro j v h; simp at h
  | cons u r ih =>
    intro j v h
    have e : vc (u :: r) = Value.int .i64 u.1 :: Value.string u.2 :: vc r := rfl
    cases j with
    | zero => simp at h; subst h; rw [e]; exact ⟨rfl, rfl⟩
    | succ j =>
      simp at h
      have := ih j v h
      rw [e, show (j + 1) * 2 = j * 2 + 1 + 1 by omega, show j * 2 + 1 + 1 + 1 = (j * 2 + 1) + 1 + 1 by omega]
      simpa using this
theorem vc_one (vs : List (Int × ByteArray)) : ∀ u ∈ vc vs, u.oneCell' = true := by
  intro u hu
  rw [vc, List.mem_flatMap] at hu
  obtain ⟨v, _, h⟩ := hu
  simp at h
  rcases h with rfl | rfl <;> rfl

/-- Every stake is an int. -/
def Stakes (vs : List (Int × ByteArray)) : Prop := ∀ v ∈ vs, -9223372036854775808 ≤ v.1 ∧ v.1 ≤ 9223372036854775807

/-- A validator can be, but for how great its stake is. -/
def can (v : (Int × ByteArray)) : Bool := decide (0 ≤ v.1) && (decide (1 ≤ v.2.size) && decide (v.2.size ≤ 32))

/-- All stakes, on top of s. -/
def totFrom : Int → List (Int × ByteArray) → Option Int
  | s, [] => some s
  | s, v :: r => if can v = true ∧ v.1 < 4611686018427387904 - s then totFrom (s + v.1) r else none

/-- What Total answers. -/
def totV (o : Option Int) : Value := match o with
  | some s => .tuple #[.int .i64 s, .bool true]
  | none => .tuple #[.int .i64 0, .bool false]

/-- One of them: its two cells, in a world behind this one. -/
theorem Lies.val {w w' : World} {ao : Option Addr} {b off j : Nat} {vs : List (Int × ByteArray)} {v : (Int × ByteArray)} (h : Lies w w.heap.size ao b off (vc vs)) (hb : Below w.heap.size w w') (hv : vs[j]? = some v) :
    ao = some ⟨b, off, none⟩ ∧ w'.cell? ⟨b, off + j * 2, none⟩ = some (.int .i64 v.1) ∧ w'.cell? ⟨b, off + j * 2 + 1, none⟩ = some (.string v.2) := by
  obtain ⟨h1, h2⟩ := vc_at vs j v hv
  have hl : 0 < (vc vs).length := by have := (List.getElem?_eq_some_iff.1 hv).1; rw [vc_length]; omega
  have hlt := h.lt hl
  exact ⟨h.addr hl, (hb.cell (p := ⟨b, off + j * 2, none⟩) hlt).trans (h.cells _ _ h1), (hb.cell (p := ⟨b, off + j * 2 + 1, none⟩) hlt).trans (h.cells _ _ h2)⟩

theorem drop_at {α : Type} {l : List α} {j : Nat} {v : α} (h : l[j]? = some v) : l.drop j = v :: l.drop (j + 1) := by
  obtain ⟨h1, h2⟩ := List.getElem?_eq_some_iff.1 h
  rw [List.drop_eq_getElem_cons h1, h2]

end Go.Proofs.YtnbdpalbompjlaaDoor

/-
  What board.Place and board.Proposer answer, of a configuration that can be.
-/
namespace Go.Proofs.YtnbdpalbompjlaaDoor
open Go.RowKit
set_option maxRecDepth 10000

set_option maxHeartbeats 4000000 in
theorem place_any (w : World) (hT : Tabs w) (nao : Option Addr) (nlen ncap : Nat) (n1 n2 n3 n4 n5 n6 n7 n8 n9 n10 n11 : Int) (slot who : Int) (C : Nat) (hC : n2 = C) (hl1 : 1 ≤ nlen) (hl2 : nlen ≤ 1000) (hc1 : 1 ≤ C) (hc2 : C ≤ nlen) :
    Calls Tryd.prog 30 #[.agg #[.slice nao nlen ncap, .int .i64 n1, .int .i64 n2, .int .i64 n3, .int .i64 n4, .int .i64 n5, .int .i64 n6, .int .i64 n7, .int .i64 n8, .int .i64 n9, .int .i64 n10, .int .i64 n11], .int .i64 slot, .int .i64 who] w fun e w' => e = .returned (.int .i64 (placeFrom who 0 (comm slot nlen C))) ∧ Below w.heap.size w w' := by
  subst hC
  have HB0 := Lib.hid ((Below.refl w.heap.size w).alloc (Nat.le_refl _) (.cells #[.slice nao nlen ncap, .int .i64 n1, .int .i64 C, .int .i64 n3, .int .i64 n4, .int .i64 n5, .int .i64 n6, .int .i64 n7, .int .i64 n8, .int .i64 n9, .int .i64 n10, .int .i64 n11] 24))
  go_enter Tryd.func30, Tryd.ntmps30
  go_wp2_with fail
  generalize w.alloc (.cells #[.slice nao nlen ncap, .int .i64 n1, .int .i64 C, .int .i64 n3, .int .i64 n4, .int .i64 n5, .int .i64 n6, .int .i64 n7, .int .i64 n8, .int .i64 n9, .int .i64 n10, .int .i64 n11] 24) = w1 at HB0 ⊢
  refine (members_any w1 (hT.below HB0.out hT.size) nao nlen ncap n1 C n3 n4 n5 n6 n7 n8 n9 n10 n11 slot C rfl hl1 hl2 hc1 hc2).mono ?_
  rintro e w2 ⟨v, rfl, hh2, hb2⟩
  obtain ⟨ao, cap, b, off, rfl, hl⟩ := hh2.lies
  have HB2 := Lib.hid (HB0.out.trans (hb2.mono HB0.out.size))
  have hle := comm_le slot nlen C
  obtain ⟨L, hLL⟩ : ∃ L, L = comm slot nlen C := ⟨_, rfl⟩
  rw [iv_length, ← hLL]
  rw [← hLL] at hl hle
  obtain ⟨m, hm⟩ : ∃ m, m = L.length := ⟨_, rfl⟩
  rw [← hm] at hle ⊢
  have HM := Lib.hid hm
  have HLL := Lib.hid hLL
  have HL := Lib.hid hl
  clear hh2 hb2 hl hLL hm HB0
  go_wp2_with fail
  go_loopw [13] (fun i wr => ∃ (j : Nat), j ≤ m ∧ i = .int .i64 j ∧ Hid (placeFrom who j (L.drop j) = placeFrom who 0 L) ∧ wr = w2) (fun i _ => m - (intOf i).toNat)
  case atStart => exact ⟨0, Nat.zero_le _, rfl, Lib.hid rfl, rfl⟩
  case round =>
    obtain ⟨j, hj, rfl, HP, hw⟩ := hrel
    subst hw
    by_cases hlt : j < m
    · obtain ⟨x, hx⟩ : ∃ x, L[j]? = some x := ⟨_, List.getElem?_eq_getElem (by rw [← HM.out]; exact hlt)⟩
      obtain ⟨ha, c0⟩ := HL.out.int (Below.refl _ _) hx
      subst ha
      have HD := Lib.hid (drop_at hx)
      clear hx
      by_cases hxw : (x : Int) = who
      · have HR := Lib.hid (show placeFrom who 0 L = j by rw [← HP.out, HD.out, placeFrom, if_pos hxw])
        subst hxw
        go_wp2_with fail
        go_ret
        rw [← HLL.out, HR.out]
        exact ⟨rfl, HB2.out⟩
      · have HR := Lib.hid (show placeFrom who (j + 1) (L.drop (j + 1)) = placeFrom who 0 L by rw [← HP.out, HD.out, placeFrom, if_neg hxw])
        go_wp2_with fail
        go_roundw
        case rel => exact ⟨j + 1, by omega, by go_num, HR, trivial⟩
        case measure => simp [intOf]; omega
    · have HR := Lib.hid (show placeFrom who 0 L = -1 by rw [← HP.out, show j = L.length by rw [← HM.out]; omega, List.drop_length]; rfl)
      go_wp2_with fail
      go_ret
      rw [← HLL.out, HR.out]
      exact ⟨rfl, HB2.out⟩

set_option maxHeartbeats 4000000 in
theorem proposer_any (w : World) (hT : Tabs w) (nao : Option Addr) (nlen ncap : Nat) (n1 n2 n3 n4 n5 n6 n7 n8 n9 n10 n11 : Int) (slot : Int) (C : Nat) (hC : n2 = C) (hl1 : 1 ≤ nlen) (hl2 : nlen ≤ 1000) (hc1 : 1 ≤ C) (hc2 : C ≤ nlen) :
    Calls Tryd.prog 29 #[.agg #[.slice nao nlen ncap, .int .i64 n1, .int .i64 n2, .int .i64 n3, .int .i64 n4, .int .i64 n5, .int .i64 n6, .int .i64 n7, .int .i64 n8, .int .i64 n9, .int .i64 n10, .int .i64 n11], .int .i64 slot] w fun e w' => e = .returned (.int .i64 (firstOf (comm slot nlen C))) ∧ Below w.heap.size w w' := by
  subst hC
  have HB0 := Lib.hid ((Below.refl w.heap.size w).alloc (Nat.le_refl _) (.cells #[.slice nao nlen ncap, .int .i64 n1, .int .i64 C, .int .i64 n3, .int .i64 n4, .int .i64 n5, .int .i64 n6, .int .i64 n7, .int .i64 n8, .int .i64 n9, .int .i64 n10, .int .i64 n11] 24))
  go_enter Tryd.func29, Tryd.ntmps29
  go_wp2_with fail
  generalize w.alloc (.cells #[.slice nao nlen ncap, .int .i64 n1, .int .i64 C, .int .i64 n3, .int .i64 n4, .int .i64 n5, .int .i64 n6, .int .i64 n7, .int .i64 n8, .int .i64 n9, .int .i64 n10, .int .i64 n11] 24) = w1 at HB0 ⊢
  refine (members_any w1 (hT.below HB0.out hT.size) nao nlen ncap n1 C n3 n4 n5 n6 n7 n8 n9 n10 n11 slot C rfl hl1 hl2 hc1 hc2).mono ?_
  rintro e w2 ⟨v, rfl, hh2, hb2⟩
  obtain ⟨ao, cap, b, off, rfl, hl⟩ := hh2.lies
  have HB2 := Lib.hid (HB0.out.trans (hb2.mono HB0.out.size))
  have hle := comm_le slot nlen C
  obtain ⟨L, hLL⟩ : ∃ L, L = comm slot nlen C := ⟨_, rfl⟩
  rw [iv_length, ← hLL]
  rw [← hLL] at hl hle
  have HLL := Lib.hid hLL
  clear hh2 hb2 hLL HB0
  cases L with
  | nil =>
    go_wp2_with fail
    go_ret
    rw [← HLL.out]
    exact ⟨rfl, HB2.out⟩
  | cons x r =>
    obtain ⟨ha, c0⟩ := hl.int (Below.refl _ _) (j := 0) (x := x) rfl
    rw [Nat.add_zero] at c0
    subst ha
    clear hl
    rw [List.length_cons]
    obtain ⟨m, hm⟩ : ∃ m, m = r.length := ⟨_, rfl⟩
    rw [← hm]
    rw [List.length_cons, ← hm] at hle
    clear hm
    go_wp2_with fail
    go_ret
    rw [← HLL.out]
    exact ⟨rfl, HB2.out⟩
end Go.Proofs.YtnbdpalbompjlaaDoor

/-
  Rows of yes and no as cells; a row of no that was just made.
-/
namespace Go.Proofs.YtnbdpalbompjlaaDoor
open Go.RowKit
set_option maxRecDepth 10000

/-- Yes and no as cells. -/
def ov (l : List Bool) : List Value := l.map Value.bool
theorem ov_length (l : List Bool) : (ov l).length = l.length := by simp [ov]
theorem ov_at {l : List Bool} {j : Nat} {x : Bool} (h : l[j]? = some x) : (ov l)[j]? = some (.bool x) := by simp [ov, h]
theorem Lies.bool {w w' : World} {ao : Option Addr} {b off j : Nat} {x : Bool} {l : List Bool} (h : Lies w w.heap.size ao b off (ov l)) (hb : Below w.heap.size w w') (hx : l[j]? = some x) :
    ao = some ⟨b, off, none⟩ ∧ w'.cell? ⟨b, off + j, none⟩ = some (.bool x) := by
  have hl : 0 < (ov l).length := by have := (List.getElem?_eq_some_iff.1 hx).1; rw [ov_length]; omega
  have hlt := h.lt hl
  exact ⟨h.addr hl, (hb.cell (p := ⟨b, off + j, none⟩) hlt).trans (h.cells _ _ (ov_at hx))⟩
theorem Tryd.infoB : (Tryd.prog.info? 4).map (fun i => (i.zero, i.size, i.bytes)) = some (some (.bool false), 1, 1) := by kernel_rfl
theorem made_no (m : Nat) : (madeCells (Value.bool false).cells m).toList = ov (List.replicate m false) := by
  apply List.ext_getElem?
  intro i
  by_cases h : i < m
  · simp [madeCells, Value.cells, Nat.mod_one, ov, h]
  · rw [List.getElem?_eq_none (by rw [Array.length_toList, size_madeCells]; omega), List.getElem?_eq_none (by rw [ov_length]; simp; omega)]
theorem made_lies (w : World) (m : Nat) : Lies (w.alloc (.cells (madeCells (Value.bool false).cells m) 4)) (w.alloc (.cells (madeCells (Value.bool false).cells m) 4)).heap.size (some ⟨w.heap.size, 0, none⟩) w.heap.size 0 (ov (List.replicate m false)) := by
  have h := Blk.new w 4 (madeCells (Value.bool false).cells m)
  rw [made_no] at h
  exact ⟨fun _ => rfl, fun _ => h.lt, fun i u hi => by rw [Nat.zero_add]; exact (h.cell i).trans hi⟩
end Go.Proofs.YtnbdpalbompjlaaDoor

/-
  What board.Pick answers, of a configuration that can be and a row.
-/
namespace Go.Proofs.YtnbdpalbompjlaaDoor
open Go.RowKit
set_option maxRecDepth 10000

set_option maxHeartbeats 4000000 in
theorem pick_any (w : World) (hT : Tabs w) (nao : Option Addr) (nlen ncap : Nat) (n1 n2 n3 n4 n5 n6 n7 n8 n9 n10 n11 : Int) (slot : Int) (C : Nat) (hC : n2 = C) (hl1 : 1 ≤ nlen) (hl2 : nlen ≤ 1000) (hc1 : 1 ≤ C) (hc2 : C ≤ nlen) (rao : Option Addr) (rlen rcap rb roff : Nat) (row : List Bool) (hr : row.length = rlen) (hrs : Lies w w.heap.size rao rb roff (ov row)) :
    Calls Tryd.prog 31 #[.agg #[.slice nao nlen ncap, .int .i64 n1, .int .i64 n2, .int .i64 n3, .int .i64 n4, .int .i64 n5, .int .i64 n6, .int .i64 n7, .int .i64 n8, .int .i64 n9, .int .i64 n10, .int .i64 n11], .int .i64 slot, .slice rao rlen rcap] w fun e w' => ∃ v, e = .returned (.tuple #[v, .bool (fits (comm slot nlen C) row)]) ∧ Held w' w.heap.size v (iv (picked (comm slot nlen C) row)) ∧ Below w.heap.size w w' := by
  subst hC
  obtain ⟨i0, hi0, hz0, hz1, hz2⟩ := info_parts Tryd.info3
  have HR := Lib.hid hr
  have HRS := Lib.hid hrs
  have HB0 := Lib.hid ((Below.refl w.heap.size w).alloc (Nat.le_refl _) (.cells #[.slice nao nlen ncap, .int .i64 n1, .int .i64 C, .int .i64 n3, .int .i64 n4, .int .i64 n5, .int .i64 n6, .int .i64 n7, .int .i64 n8, .int .i64 n9, .int .i64 n10, .int .i64 n11] 24))
  clear hr hrs
  go_enter Tryd.func31, Tryd.ntmps31
  go_wp2_with fail
  generalize w.alloc (.cells #[.slice nao nlen ncap, .int .i64 n1, .int .i64 C, .int .i64 n3, .int .i64 n4, .int .i64 n5, .int .i64 n6, .int .i64 n7, .int .i64 n8, .int .i64 n9, .int .i64 n10, .int .i64 n11] 24) = w1 at HB0 ⊢
  refine (members_any w1 (hT.below HB0.out hT.size) nao nlen ncap n1 C n3 n4 n5 n6 n7 n8 n9 n10 n11 slot C rfl hl1 hl2 hc1 hc2).mono ?_
  rintro e w2 ⟨v, rfl, hh2, hb2⟩
  obtain ⟨ao, cap, b, off, rfl, hl⟩ := hh2.lies
  have HB2 := Lib.hid (HB0.out.trans (hb2.mono HB0.out.size))
  have hle := comm_le slot nlen C
  obtain ⟨L, hLL⟩ : ∃ L, L = comm slot nlen C := ⟨_, rfl⟩
  rw [iv_length, ← hLL]
  rw [← hLL] at hl hle
  obtain ⟨m, hm⟩ : ∃ m, m = L.length := ⟨_, rfl⟩
  rw [← hm] at hle ⊢
  have HM := Lib.hid hm
  have HLL := Lib.hid hLL
  have HL := Lib.hid hl
  clear hh2 hb2 hl hLL hm HB0
  by_cases hm0 : m = 0
  · have HF := Lib.hid (show fits L row = false by rw [fits, ← HM.out, hm0]; simp)
    subst hm0
    by_cases hre : (rlen : Int) = 0
    · go_wp2_with fail
      go_ret2
      exact ⟨.slice none 0 0, by rw [← HLL.out, HF.out]; rfl, by rw [← HLL.out, picked, HF.out]; exact Held.nil _ _, HB2.out⟩
    · go_wp2_with fail
      go_ret2
      exact ⟨.slice none 0 0, by rw [← HLL.out, HF.out]; rfl, by rw [← HLL.out, picked, HF.out]; exact Held.nil _ _, HB2.out⟩
  · by_cases hrm : rlen = m
    · have HF := Lib.hid (show fits L row = true by rw [fits, ← HM.out, HR.out, hrm]; simp; omega)
      have HP := Lib.hid (show picked L row = pickL L row by rw [picked, HF.out]; rfl)
      subst hrm
      have hb1 : ((rlen : Int) == 0) = false := by simp; omega
      go_wp2_with fail
      go_loopw [9, 27] (fun v i wr => ∃ (j : Nat), j ≤ rlen ∧ i = .int .i64 j ∧ Hid (Held wr w2.heap.size v (iv (pickL (L.take j) (row.take j)))) ∧ Hid (Below w2.heap.size w2 wr)) (fun _ i _ => rlen - (intOf i).toNat)
      case atStart => exact ⟨0, Nat.zero_le _, rfl, Lib.hid (by simpa [pickL, iv] using Held.nil w2 w2.heap.size), Lib.hid (Below.refl _ _)⟩
      case round =>
        obtain ⟨j, hj, rfl, HV, HBel⟩ := hrel
        by_cases hlt : j < rlen
        · obtain ⟨x, hx⟩ : ∃ x, L[j]? = some x := ⟨_, List.getElem?_eq_getElem (by rw [← HM.out]; exact hlt)⟩
          obtain ⟨y, hy⟩ : ∃ y, row[j]? = some y := ⟨_, List.getElem?_eq_getElem (by rw [HR.out]; exact hlt)⟩
          obtain ⟨ha, c0⟩ := HL.out.int HBel.out hx
          have HBF := Lib.hid (HB2.out.trans (HBel.out.mono HB2.out.size))
          obtain ⟨ha2, c1⟩ := HRS.out.bool HBF.out hy
          subst ha
          subst ha2
          have HSn := Lib.hid (pickL_snoc hx hy)
          have HVL := Lib.hid (show (iv (pickL (L.take j) (row.take j))).length ≤ 1000 by
            rw [iv_length]
            have := pickL_le (L.take j) (row.take j)
            rw [List.length_take] at this
            omega)
          clear hx hy
          cases y with
          | true =>
            have HV2 := Lib.hid (HV.out.alloc (.cells #[.int .i64 (x : Int)] 3))
            have HSrc := Lib.hid (src_int wr 35 Tryd.underlying35 x (P := Tryd.prog))
            have HB3 := Lib.hid (HBel.out.alloc HBel.out.size (.cells #[.int .i64 (x : Int)] 3))
            have hsz := HBel.out.size
            go_wp2_with (at_builtin; refine wpList_append_held rfl _ _ 35 35 rfl rfl HV2.out 3 i0 (.int .i64 0) 8 Tryd.underlying35 hi0 hz0 hz1 hz2 rfl _ rfl 1 (iv [x]) HSrc.out ?e2 ?e3 ?e4 ?_)
            case e2 => have := HVL.out; unfold maxLen; omega
            case e3 => have := HVL.out; omega
            case e4 => (try rw [World.size_alloc]); omega
            intro v2 w3 hh hg
            have HB4 := Lib.hid (show Below w2.heap.size w2 w3 from HB3.out.trans (hg.below HV2.out HB3.out.size))
            have HH4 := Lib.hid (show Held w3 w2.heap.size v2 (iv (pickL (L.take (j + 1)) (row.take (j + 1)))) by rw [HSn.out]; simp only [if_true]; rw [iv_append]; exact hh)
            clear hh hg HSrc HV2 HB3 c0 c1
            go_wp2_with fail
            go_roundw
            case rel => exact ⟨j + 1, by omega, by go_num, HH4, HB4⟩
            case measure => simp [intOf]; omega
          | false =>
            have HH4 := Lib.hid (show Held wr w2.heap.size u9 (iv (pickL (L.take (j + 1)) (row.take (j + 1)))) by rw [HSn.out, if_neg (by simp), List.append_nil]; exact HV.out)
            go_wp2_with fail
            go_roundw
            case rel => exact ⟨j + 1, by omega, by go_num, HH4, HBel⟩
            case measure => simp [intOf]; omega
        · have HFin := Lib.hid (show Held wr w2.heap.size u9 (iv (pickL L row)) by
            have h := HV.out
            rw [List.take_of_length_le (by rw [← HM.out]; omega), List.take_of_length_le (by rw [HR.out]; omega)] at h
            exact h)
          have HBF := Lib.hid (HB2.out.trans (HBel.out.mono HB2.out.size))
          go_wp2_with fail
          go_ret2
          exact ⟨u9, by rw [← HLL.out, HF.out]; rfl, by rw [← HLL.out, HP.out]; exact HFin.out.mono HB2.out.size, HBF.out⟩
    · have HF := Lib.hid (show fits L row = false by rw [fits, ← HM.out, HR.out]; simp; omega)
      have hm1 : ¬ ((m : Int) = 0) := by omega
      have hm2 : ¬ ((rlen : Int) = (m : Int)) := by omega
      have hb1 : ((m : Int) == 0) = false := by simp; omega
      have hb2 : ((rlen : Int) != (m : Int)) = true := by simp; omega
      have hb3 : ((m : Int) != (rlen : Int)) = true := by simp; omega
      go_wp2_with fail
      go_ret2
      exact ⟨.slice none 0 0, by rw [← HLL.out, HF.out]; rfl, by rw [← HLL.out, picked, HF.out]; exact Held.nil _ _, HB2.out⟩
end Go.Proofs.YtnbdpalbompjlaaDoor

/-
  A slice written out, of elements that take s cells each: its cells are the elements', one behind the other. It holds of every program.
-/
namespace Go.Proofs.YtnbdpalbompjlaaDoor
open Go Go.RowKit

theorem rows_at {α : Type} {s : Nat} (hs : 0 < s) : ∀ (rows : List (List α)) (k : Nat), (∀ r ∈ rows, r.length = s) → rows.flatten[k]? = (rows[k / s]?).bind (·[k % s]?)
  | [], k, _ => by simp
  | r :: rows, k, h => by
    have hr := h r List.mem_cons_self
    rw [List.flatten_cons]
    by_cases hk : k < s
    · rw [List.getElem?_append_left (by omega), Nat.div_eq_of_lt hk, Nat.mod_eq_of_lt hk]; rfl
    · rw [List.getElem?_append_right (by omega), hr, rows_at hs rows (k - s) (fun x hx => h x (List.mem_cons_of_mem _ hx))]
      have e1 : k / s = (k - s) / s + 1 := by
        rw [← Nat.add_div_right _ hs, Nat.sub_add_cancel (by omega)]
      have e2 : k % s = (k - s) % s := by
        conv => lhs; rw [← Nat.sub_add_cancel (show s ≤ k by omega)]
        rw [Nat.add_mod_right]
      rw [e1, e2, List.getElem?_cons_succ]
theorem rows_length {α : Type} {s : Nat} : ∀ (rows : List (List α)), (∀ r ∈ rows, r.length = s) → rows.flatten.length = rows.length * s
  | [], _ => by simp
  | r :: rows, h => by
    rw [List.flatten_cons, List.length_append, h r List.mem_cons_self, rows_length rows (fun x hx => h x (List.mem_cons_of_mem _ hx)), List.length_cons, Nat.succ_mul, Nat.add_comm]

/-- Elements as values. -/
def aggs (rows : List (List Value)) : List Value := rows.map fun r => Value.agg r.toArray

theorem fill_rows {s : Nat} (hs : 0 < s) (rows : List (List Value)) (hr : ∀ r ∈ rows, r.length = s) (cells : Array Value) (hc : cells.size = rows.length * s) :
    Instr.fill (fun i => some (i * s, s)) cells (((aggs rows).zipIdx 0).map fun x => (x.2, x.1)) = some rows.flatten.toArray := by
  obtain ⟨r, h1, h2, h3⟩ := Great.fill_dense hs (aggs rows) 0 cells (fun v hv => by
    obtain ⟨x, hx, rfl⟩ := List.mem_map.1 hv
    simp [Value.cells, hr x hx]) (by simp [aggs, hc])
  rw [h1]
  congr 1
  apply Array.ext_getElem?
  intro k
  have hf : rows.flatten.toArray[k]? = (rows[k / s]?).bind (·[k % s]?) := by rw [List.getElem?_toArray, rows_at hs rows k hr]
  rw [h3 k, hf]
  have e : (0 + (aggs rows).length) * s = rows.length * s := by simp [aggs]
  rw [e, Nat.zero_mul, Nat.sub_zero]
  by_cases hk : k < rows.length * s
  · rw [if_pos ⟨Nat.zero_le _, hk⟩]
    simp only [aggs, List.getElem?_map]
    cases rows[k / s]? with
    | none => rfl
    | some x => simp [Value.cells]
  · rw [if_neg (by omega), Array.getElem?_eq_none (by omega), List.getElem?_eq_none (by rw [Nat.le_div_iff_mul_le hs]; omega)]
    rfl

theorem run_build_rows {P : Program} (w : World) (t e : TypeId) (len : Nat) (parts : Array (Nat × Value)) (ie : TypeInfo) (z : Value) {s : Nat} (hs : 0 < s) (rows : List (List Value)) (hr : ∀ r ∈ rows, r.length = s)
    (hu : P.underlying t = some (.slice e)) (hie : P.info? e = some ie) (hz : ie.zero = some z) (hsz : ie.size = s) (hlen : len = rows.length) (hpos : 0 < len) (hsmall : len * s ≤ 2 ^ 24)
    (hp : parts.toList = ((aggs rows).zipIdx 0).map fun x => (x.2, x.1)) :
    (Instr.buildSlice t len parts).run P w = .ok (.slice (some ⟨w.heap.size, 0, none⟩) len len) (w.alloc (.cells rows.flatten.toArray e)) := by
  have hls : 0 < len * s := Nat.mul_pos hpos hs
  refine run_buildSlice w t e len parts _ ie z hu hie hz (by rw [hsz]; omega) (by rw [hsz]; omega) ?_
  rw [hp, hsz]
  exact fill_rows hs rows hr _ (by simp [hlen])

theorem stepAt_build_rows {P : Program} {ops : Array Oper} {o : Oper} {a : Act} {w : World} {R : Value → World → Prop} {d : Tmp} (hd : o.dst = some d) (hw : Region.wanted o (yielded ops a.tmps) = true) (hz' : decide (d < a.tmps.size) = true) (t e : TypeId) (len : Nat) (parts : Array (Nat × Operand)) (ho : o.op = .buildSlice t len parts)
    (ie : TypeInfo) (z : Value) {s : Nat} (hs : 0 < s) (rows : List (List Value)) (hr : ∀ r ∈ rows, r.length = s)
    (hu : P.underlying t = some (.slice e)) (hie : P.info? e = some ie) (hz : ie.zero = some z) (hsz : ie.size = s) (hlen : len = rows.length) (hpos : 0 < len) (hsmall : len * s ≤ 2 ^ 24)
    (hp : (parts.toList.map fun x => (x.1, a.eval x.2)) = ((aggs rows).zipIdx 0).map fun x => (x.2, x.1))
    (h : R (.slice (some ⟨w.heap.size, 0, none⟩) len len) (w.alloc (.cells rows.flatten.toArray e))) : stepAt P ops o a w R := by
  refine stepAt_value hd hw hz' _ _ ?_ h
  unfold execOp
  simp only [ho, Sem.run_bind, run_build_rows w t e len _ ie z hs rows hr hu hie hz hsz hlen hpos hsmall (show (parts.map fun (i, x) => (i, a.eval x)).toList = _ by rw [Array.toList_map]; exact hp), Result.andThen_ok]
  rfl
end Go.Proofs.YtnbdpalbompjlaaDoor
