/-
  Validators as a row of cells: what they are, what all stakes together are; what genesis.canBe and genesis.Total answer.
-/
import Derived.Test.YtacoaiaddnlnaaaWide
import Derived.Deep.QuietTactic
import Derived.BigQuiet
import Derived.Deep.DeepCutAuto
import Derived.Laws.Bits64
import Derived.Laws.BitsLemmas
namespace Go.Proofs.Ytacoaiaddnlnaaa
open Go.RowKit

/-- Validators as cells. -/
def vc (vs : List (Int × ByteArray)) : List Value := vs.flatMap fun v => [Value.int .i64 v.1, Value.string v.2]

theorem vc_length (vs : List (Int × ByteArray)) : (vc vs).length = vs.length * 2 := by
  induction vs with
  | nil => rfl
  | cons v r ih => simp only [vc, List.flatMap_cons, List.length_append, List.length_cons, List.length_nil] at ih ⊢; omega
theorem vc_append (a b : List (Int × ByteArray)) : vc (a ++ b) = vc a ++ vc b := by simp [vc]
theorem vc_at (vs : List (Int × ByteArray)) : ∀ (j : Nat) (v : (Int × ByteArray)), vs[j]? = some v → (vc vs)[j * 2]? = some (.int .i64 v.1) ∧ (vc vs)[j * 2 + 1]? = some (.string v.2) := by
  induction vs with
  | nil => intro j v h; simp at h
  | cons u r ih =>
    intro j v h
    have e : vc (u :: r) = Value.int .i64 u.1 :: Value.string u.2 :: vc r := rfl
    cases j with
    | zero => simp at h; subst h; rw [e]; exact ⟨rfl, rfl⟩
    | succ j =>
      simp at h
      have := ih j v h
      rw [e, show (j + 1) * 2 = j * 2 + 1 + 1 by omega, show j * 2 + 1 + 1 + 1 = (j * 2 + 1) + 1 + 1 by omega]
      simpa using this
theorem vc_one (vs : List (Int × ByteArray)) : ∀ u ∈ vc vs, u.oneCell' = true := by
  intro u hu
  rw [vc, List.mem_flatMap] at hu
  obtain ⟨v, _, h⟩ := hu
  simp at h
  rcases h with rfl | rfl <;> rfl

/-- Every stake is an int. -/
def Stakes (vs : List (Int × ByteArray)) : Prop := ∀ v ∈ vs, -9223372036854775808 ≤ v.1 ∧ v.1 ≤ 9223372036854775807

/-- A validator can be, but for how great its stake is. -/
def can (v : (Int × ByteArray)) : Bool := decide (0 ≤ v.1) && (decide (1 ≤ v.2.size) && decide (v.2.size ≤ 32))

/-- All stakes, on top of s. -/
def totFrom : Int → List (Int × ByteArray) → Option Int
  | s, [] => some s
  | s, v :: r => if can v = true ∧ v.1 < 4611686018427387904 - s then totFrom (s + v.1) r else none

/-- What Total answers. -/
def totV (o : Option Int) : Value := match o with
  | some s => .tuple #[.int .i64 s, .bool true]
  | none => .tuple #[.int .i64 0, .bool false]

theorem canBe_any (w : World) (x : Int) (k : ByteArray) :
    Calls Try.prog 17 #[.agg #[.int .i64 x, .string k]] w fun e w' => e = .returned (.bool (can (x, k))) ∧ Below w.heap.size w w' := by
  have hB := (Below.refl w.heap.size w).alloc (Nat.le_refl _) (.cells #[.int .i64 x, .string k] 40)
  have HB := Lib.hid hB
  clear hB
  by_cases h1 : 0 ≤ x
  · by_cases h2 : (1 : Int) ≤ (k.size : Int)
    · by_cases h3 : (k.size : Int) ≤ 32
      · have HC := Lib.hid (show can (x, k) = true by simp [can]; omega)
        go_enter Try.func17, Try.ntmps17
        go_wp2_with fail
        go_ret
        rw [HC.out]
        exact ⟨rfl, HB.out⟩
      · have HC := Lib.hid (show can (x, k) = false by simp [can]; omega)
        go_enter Try.func17, Try.ntmps17
        go_wp2_with fail
        go_ret
        rw [HC.out]
        exact ⟨rfl, HB.out⟩
    · have HC := Lib.hid (show can (x, k) = false by simp [can]; omega)
      go_enter Try.func17, Try.ntmps17
      go_wp2_with fail
      go_ret
      rw [HC.out]
      exact ⟨rfl, HB.out⟩
  · have HC := Lib.hid (show can (x, k) = false by simp [can]; omega)
    go_enter Try.func17, Try.ntmps17
    go_wp2_with fail
    go_ret
    rw [HC.out]
    exact ⟨rfl, HB.out⟩

/-- One of them: its two cells, in a world behind this one. -/
theorem Lies.val {w w' : World} {ao : Option Addr} {b off j : Nat} {vs : List (Int × ByteArray)} {v : (Int × ByteArray)} (h : Lies w w.heap.size ao b off (vc vs)) (hb : Below w.heap.size w w') (hv : vs[j]? = some v) :
    ao = some ⟨b, off, none⟩ ∧ w'.cell? ⟨b, off + j * 2, none⟩ = some (.int .i64 v.1) ∧ w'.cell? ⟨b, off + j * 2 + 1, none⟩ = some (.string v.2) := by
  obtain ⟨h1, h2⟩ := vc_at vs j v hv
  have hl : 0 < (vc vs).length := by have := (List.getElem?_eq_some_iff.1 hv).1; rw [vc_length]; omega
  have hlt := h.lt hl
  exact ⟨h.addr hl, (hb.cell (p := ⟨b, off + j * 2, none⟩) hlt).trans (h.cells _ _ h1), (hb.cell (p := ⟨b, off + j * 2 + 1, none⟩) hlt).trans (h.cells _ _ h2)⟩

theorem drop_at {α : Type} {l : List α} {j : Nat} {v : α} (h : l[j]? = some v) : l.drop j = v :: l.drop (j + 1) := by
  obtain ⟨h1, h2⟩ := List.getElem?_eq_some_iff.1 h
  rw [List.drop_eq_getElem_cons h1, h2]

set_option maxHeartbeats 1000000 in
theorem total_any (w : World) (ao : Option Addr) (len cap b off : Nat) (vs : List (Int × ByteArray)) (hl : vs.length = len) (hL : len ≤ 1000) (hst : Stakes vs) (hs : Lies w w.heap.size ao b off (vc vs)) :
    Calls Try.prog 10 #[.slice ao len cap] w fun e w' => e = .returned (totV (totFrom 0 vs)) ∧ Below w.heap.size w w' := by
  have HS := Lib.hid hs
  have HL := Lib.hid hl
  have HST := Lib.hid hst
  clear hs hl hst
  go_enter Try.func10, Try.ntmps10
  go_wp2_with fail
  go_loopw [4, 9] (fun s i wr => ∃ (j : Nat) (z : Int), j ≤ len ∧ i = .int .i64 j ∧ s = .int .i64 z ∧ 0 ≤ z ∧ z < 4611686018427387904 ∧ Hid (totFrom z (vs.drop j) = totFrom 0 vs) ∧ Below w.heap.size w wr) (fun _ i _ => len - (intOf i).toNat)
  case atStart => exact ⟨0, 0, Nat.zero_le _, rfl, rfl, Int.le_refl _, by decide, Lib.hid rfl, Below.refl _ _⟩
  case round =>
    obtain ⟨j, z, hj, rfl, rfl, hz0, hz1, HT, hbel⟩ := hrel
    by_cases hlt : j < len
    · obtain ⟨v, hv⟩ : ∃ v, vs[j]? = some v := ⟨_, List.getElem?_eq_getElem (by rw [HL.out]; exact hlt)⟩
      have hr := HST.out v (List.mem_of_getElem? hv)
      obtain ⟨ha, c0, c1⟩ := HS.out.val hbel hv
      have HD := Lib.hid (drop_at hv)
      obtain ⟨x, k⟩ := v
      simp only at c0 c1 hr
      subst ha
      have HBel := Lib.hid hbel
      clear hv hbel
      go_wp2_with fail
      have hB1 := HBel.out.alloc HBel.out.size (.cells #[.int .i64 x, .string k] 40)
      have hk := Blk.new wr 40 #[.int .i64 x, .string k]
      refine (canBe_any _ x k).mono ?_
      rintro e w2 ⟨rfl, hb2⟩
      have hk2 := hk.below hb2 (by simp)
      have c2 := hk2.cell 0
      have c3 := hk2.cell 1
      simp only [List.getElem?_cons_zero, List.getElem?_cons_succ] at c2 c3
      have HB2 := Lib.hid (hB1.trans (hb2.mono hB1.size))
      generalize wr.heap.size = A at c2 c3 ⊢
      clear hk hk2 hb2 hB1 c0 c1
      cases hcan : can (x, k) with
      | true =>
        have hx0 : 0 ≤ x := by simp [can] at hcan; omega
        by_cases hle : 4611686018427387904 - z ≤ x
        · have HR := Lib.hid (show totFrom 0 vs = none by rw [← HT.out, HD.out, totFrom, if_neg (by simp; omega)])
          clear hcan
          go_wp2_with fail
          go_ret2
          rw [HR.out]
          exact ⟨rfl, HB2.out⟩
        · have HR := Lib.hid (show totFrom (z + x) (vs.drop (j + 1)) = totFrom 0 vs by rw [← HT.out, HD.out, totFrom, if_pos ⟨hcan, by simp; omega⟩])
          clear hcan
          go_wp2_with fail
          go_roundw
          case rel => exact ⟨j + 1, z + x, by omega, by go_num, by go_num, by omega, by omega, HR, HB2.out⟩
          case measure => simp [intOf]; omega
      | false =>
        have HR := Lib.hid (show totFrom 0 vs = none by rw [← HT.out, HD.out, totFrom, if_neg (by simp [hcan])])
        clear hcan
        go_wp2_with fail
        go_ret2
        rw [HR.out]
        exact ⟨rfl, HB2.out⟩
    · have hjl : j = len := by omega
      have HR := Lib.hid (show totFrom 0 vs = some z by rw [← HT.out, hjl, ← HL.out, List.drop_length, totFrom])
      have HBel := Lib.hid hbel
      clear hjl hbel
      go_wp2_with fail
      go_ret2
      rw [HR.out]
      exact ⟨rfl, HBel.out⟩
end Go.Proofs.Ytacoaiaddnlnaaa
