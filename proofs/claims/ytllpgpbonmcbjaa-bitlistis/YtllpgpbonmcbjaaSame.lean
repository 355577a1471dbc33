/-
  What the document's Same does with two rows that are the same, and what bitlist.Places does.
-/
import Derived.Test.YtllpgpbonmcbjaaPut
import Derived.Deep.QuietTactic
import Derived.BigQuiet
namespace Go.Proofs.Ytllpgpbonmcbjaa
open Go.RowKit

theorem below_drewN {n : Nat} {w w' : World} (h : Below n w w') (k : Nat) : Below n w (w'.drewN k) := ⟨h.os, h.tape, h.output, h.size, h.block⟩

set_option maxHeartbeats 400000 in
theorem same_yes (w : World) (B : Nat) (u v : Value) (l : List Bool) (hB : B ≤ w.heap.size) (hu : Row w B u l) (hv : Row w B v l) (hl : l.length ≤ 1000) :
    Calls Try.prog 14 #[u, v] w fun e w' => e = .returned (.bool true) ∧ Below w.heap.size w w' := by
  obtain ⟨ao, cap, b, off, rfl, _, _, hr⟩ := hu
  obtain ⟨ao2, cap2, b2, off2, rfl, _, _, hr2⟩ := hv
  obtain ⟨L, hL⟩ : ∃ L, L = l.length := ⟨_, rfl⟩
  rw [← hL] at hl
  rw [← hL]
  have HL := Lib.hid hL
  have HR := Lib.hid hr
  have HR2 := Lib.hid hr2
  clear hL hr hr2
  go_enter Try.func14, Try.ntmps14
  go_wp2_with fail
  go_loopw [5, 13] (fun _ i wr => ∃ k : Nat, k ≤ L ∧ i = .int .i64 k ∧ Below w.heap.size w wr) (fun _ i _ => L - (intOf i).toNat)
  case atStart => exact ⟨0, Nat.zero_le _, rfl, Below.refl _ _⟩
  case round =>
    obtain ⟨k, hk, rfl, hbel⟩ := hrel
    by_cases hlt : k < L
    · have hkl : k < l.length := by rw [← HL.out]; exact hlt
      obtain ⟨x, hx⟩ : ∃ x, l[k]? = some x := ⟨_, List.getElem?_eq_getElem hkl⟩
      obtain rfl := HR.out.addr (by omega)
      obtain rfl := HR2.out.addr (by omega)
      have hb1 := HR.out.lt (by omega)
      have hb2 := HR2.out.lt (by omega)
      have c1 := (hbel.cell (p := ⟨b, off + k, none⟩) (show b < w.heap.size by omega)).trans (HR.out.cells k x hx)
      have c2 := (hbel.cell (p := ⟨b2, off2 + k, none⟩) (show b2 < w.heap.size by omega)).trans (HR2.out.cells k x hx)
      have d0 : (0 : Int) ≤ (k : Int) := by omega
      have d1 : (k : Int) < (L : Int) := by omega
      clear hx hkl
      go_wp2_with fail
      go_quiet (fail)
      go_wp2
      go_roundw
      case rel => exact ⟨k + 1, by omega, by go_num, below_drewN hbel _⟩
      case measure => simp [intOf]; omega
    · go_wp2
      go_ret
      exact ⟨rfl, hbel⟩

/-- Where a row says yes, of its first j. -/
def pl (l : List Bool) : Nat → List Nat
  | 0 => []
  | j + 1 => pl l j ++ (if l.getD j false then [j] else [])

def iv (l : List Nat) : List Value := l.map fun (n : Nat) => Value.int .i64 (n : Int)
theorem iv_length (l : List Nat) : (iv l).length = l.length := by simp [iv]
theorem iv_append (l r : List Nat) : iv (l ++ r) = iv l ++ iv r := by simp [iv]
theorem pl_length (l : List Bool) : ∀ j, (pl l j).length ≤ j
  | 0 => by simp [pl]
  | j + 1 => by
    have := pl_length l j
    rw [pl, List.length_append]
    split <;> simp <;> omega

set_option maxHeartbeats 400000 in
theorem places_any (w : World) (B : Nat) (u : Value) (l : List Bool) (hB : B ≤ w.heap.size) (hu : Row w B u l) (hl : l.length ≤ 1000) :
    Calls Try.prog 15 #[u] w fun e w' => ∃ v', e = .returned v' ∧ Held w' w.heap.size v' (iv (pl l l.length)) ∧ Below w.heap.size w w' := by
  obtain ⟨i0, hi, hz0, hz1, hz2⟩ := info_parts Try.info3
  obtain ⟨ao, cap, b, off, rfl, _, _, hr⟩ := hu
  obtain ⟨L, hL⟩ : ∃ L, L = l.length := ⟨_, rfl⟩
  rw [← hL] at hl
  rw [← hL]
  have HL := Lib.hid hL
  have HR := Lib.hid hr
  clear hL hr
  go_enter Try.func15, Try.ntmps15
  go_wp2_with fail
  go_loopw [3, 8] (fun c i wr => ∃ k : Nat, k ≤ L ∧ i = .int .i64 k ∧ Held wr w.heap.size c (iv (pl l k)) ∧ Below w.heap.size w wr) (fun _ i _ => L - (intOf i).toNat)
  case atStart => exact ⟨0, Nat.zero_le _, rfl, Held.nil _ _, Below.refl _ _⟩
  case round =>
    obtain ⟨k, hk, rfl, hh, hbel⟩ := hrel
    have hpl := pl_length l k
    have hbl : (iv (pl l k)).length ≤ 1000 := by rw [iv_length]; omega
    have hsz := hbel.size
    by_cases hlt : k < L
    · have hkl : k < l.length := by rw [← HL.out]; exact hlt
      obtain ⟨x, hx⟩ : ∃ x, l[k]? = some x := ⟨_, List.getElem?_eq_getElem hkl⟩
      obtain rfl := HR.out.addr (by omega)
      have hb1 := HR.out.lt (by omega)
      have c1 := (hbel.cell (p := ⟨b, off + k, none⟩) (show b < w.heap.size by omega)).trans (HR.out.cells k x hx)
      have hgd : l.getD k false = x := by rw [List.getD_eq_getElem?_getD, hx]; rfl
      have HG := Lib.hid hgd
      clear hx hkl hgd
      cases x
      · go_wp2
        go_roundw
        case rel => exact ⟨k + 1, by omega, by go_num, by rw [pl, HG.out]; simpa using hh, hbel⟩
        case measure => simp [intOf]; omega
      · go_wp2_with (at_builtin; refine wpList_append_held rfl _ _ 31 31 rfl rfl (hh.alloc _) 3 i0 (.int .i64 0) 8 Try.underlying31 hi hz0 hz1 hz2 rfl _ rfl 1 [.int .i64 (k : Int)] (src_one _ 3 31 Try.underlying31 _ rfl) ?e2 ?e3 ?e4 ?_)
        case e2 => unfold maxLen; omega
        case e3 => omega
        case e4 => simp; omega
        intro v1 w1 hh1 hg1
        have hb1' := hbel.trans (((Below.refl _ _).alloc hsz _).trans (hg1.below (hh.alloc _) (by simp; omega)))
        have HH := Lib.hid (show Held w1 w.heap.size v1 (iv (pl l (k + 1))) by rw [pl, HG.out, iv_append]; exact hh1)
        clear hh1 hg1 hh c1
        go_wp2
        go_roundw
        case rel => exact ⟨k + 1, by omega, by go_num, HH.out, hb1'⟩
        case measure => simp [intOf]; omega
    · obtain rfl : k = L := by omega
      go_wp2
      go_ret
      exact ⟨_, rfl, hh, hbel⟩

end Go.Proofs.Ytllpgpbonmcbjaa
