/-
  What bitlist.pack and bitlist.Size do.
-/
import Derived.Test.YtnbdpalbompjlaaDoorRows
import Derived.Test.YtnbdpalbompjlaaDoorBRows
import Derived.WalkKit
import Derived.WalkSpells
import Derived.WalkLawsBesides
import Derived.Outline
import Derived.Lib.Hide
import Derived.IntWalk
import Derived.Laws.BitsAllLaws
namespace Go.Proofs.YtnbdpalbompjlaaDoor
open Go.RowKit
set_option maxRecDepth 10000

theorem or_step (p k : Nat) (hk : k < 8) (hp : p < 2 ^ k) : bits BinOp.or IntKind.u8 (p : Int) ((2 : Int) ^ k % 256) = ((p + 2 ^ k : Nat) : Int) := by
  have hk8 : 2 ^ k ≤ 2 ^ 7 := Nat.pow_le_pow_right (by omega) (by omega)
  have e : (2 : Int) ^ k % 256 = ((2 ^ k : Nat) : Int) := by
    have : (2 : Int) ^ k = ((2 ^ k : Nat) : Int) := by simp
    rw [this]
    omega
  rw [e, u8_or_nat p (2 ^ k) (by omega) (by omega)]
  have := Nat.two_pow_add_eq_or_of_lt hp 1
  rw [Nat.mul_one] at this
  rw [Nat.or_comm, ← this, Nat.add_comm]

theorem packN_succ {l : List Bool} {k : Nat} {x : Bool} (h : l[k]? = some x) : packN (l.take (k + 1)) = packN (l.take k) + 2 ^ k * x.toNat := by
  have hk := (List.getElem?_eq_some_iff.1 h).1
  rw [List.take_add_one, h, Option.toList_some, packN_snoc, List.length_take, Nat.min_eq_left (by omega)]

set_option maxHeartbeats 400000 in
theorem pack_some (w : World) (b off cap : Nat) (l : List Bool) (hl : l.length ≤ 8) (h : ∀ j x, l[j]? = some x → w.cell? ⟨b, off + j, none⟩ = some (.bool x)) :
    Calls Tryd.prog 69 #[.slice (some ⟨b, off, none⟩) l.length cap] w fun e w' => e = .returned (.int .u8 (packN l)) ∧ w = w' := by
  obtain ⟨L, hL⟩ : ∃ L, L = l.length := ⟨_, rfl⟩
  rw [← hL] at hl
  rw [← hL]
  have HC := Lib.hid h
  have HL := Lib.hid hL
  clear h hL
  go_enter Tryd.func69, Tryd.ntmps69
  go_wp2
  go_loop [3, 8] (fun n i => ∃ k : Nat, k ≤ L ∧ i = .int .i64 k ∧ n = .int .u8 (packN (l.take k))) (fun _ i => L - (intOf i).toNat)
  case atStart => exact ⟨0, Nat.zero_le _, rfl, by simp [packN]⟩
  case round =>
    obtain ⟨k, hk, rfl, rfl⟩ := hrel
    by_cases hlt : k < L
    · have hkl : k < l.length := by rw [← HL.out]; exact hlt
      obtain ⟨x, hx⟩ : ∃ x, l[k]? = some x := ⟨_, List.getElem?_eq_getElem hkl⟩
      have hc := HC.out k x hx
      have hp := packN_lt (l.take k)
      rw [List.length_take, Nat.min_eq_left (by omega)] at hp
      have hs := packN_succ hx
      obtain ⟨p, hpe⟩ : ∃ p, p = packN (l.take k) := ⟨_, rfl⟩
      rw [← hpe] at hp hs
      rw [← hpe]
      have HS := Lib.hid hs
      have HLT := Lib.hid hp
      clear hpe hx hp hs hkl
      cases x
      · go_wp2
        go_round
        case rel => exact ⟨k + 1, by omega, by go_num, by rw [HS.out]; simp⟩
        case measure => simp [intOf]; omega
      · have HO := Lib.hid (or_step p k (by omega) HLT.out)
        go_wp2
        go_round
        case rel => exact ⟨k + 1, by omega, by go_num, by rw [HS.out, HO.out]; simp⟩
        case measure => simp [intOf]; omega
    · have hkl : l.take k = l := List.take_of_length_le (by rw [← HL.out]; omega)
      rw [hkl]
      clear hkl
      go_wp2
      go_ret
      exact ⟨rfl, rfl⟩

set_option maxHeartbeats 400000 in
theorem pack_nil (w : World) (ao : Option Addr) (cap : Nat) : Calls Tryd.prog 69 #[.slice ao 0 cap] w fun e w' => e = .returned (.int .u8 0) ∧ w = w' := by
  go_enter Tryd.func69, Tryd.ntmps69
  go_wp2_with fail
  refine wp_loop_rounds 1 ?_
  rw [rounds_succ]
  go_wp2
  go_ret
  exact ⟨rfl, rfl⟩

theorem pack_any (w : World) (B : Nat) (ao : Option Addr) (n b off cap : Nat) (l : List Bool) (hn : n = l.length) (hl : l.length ≤ 8) (h : BRowAt w B ao b off l) :
    Calls Tryd.prog 69 #[.slice ao n cap] w fun e w' => e = .returned (.int .u8 (packN l)) ∧ w = w' := by
  subst hn
  by_cases h0 : l.length = 0
  · obtain rfl : l = [] := List.eq_nil_of_length_eq_zero h0
    exact pack_nil w ao cap
  · rw [h.addr (by omega)]
    exact pack_some w b off cap l hl h.cells

end Go.Proofs.YtnbdpalbompjlaaDoor
