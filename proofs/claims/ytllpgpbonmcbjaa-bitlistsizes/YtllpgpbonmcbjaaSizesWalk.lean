/-
  The walk of BitlistSizes.
-/
import Derived.Test.YtllpgpbonmcbjaaAlive
import Derived.Test.YtllpgpbonmcbjaaSame
namespace Go.Proofs.Ytllpgpbonmcbjaa
open Go.RowKit

/-- How many of the first m bits of N are set. -/
def cnt (N : Nat) : Nat → Nat
  | 0 => 0
  | m + 1 => cnt N m + (N.testBit m).toNat

theorem cnt_le (N : Nat) : ∀ m, cnt N m ≤ m
  | 0 => Nat.le_refl _
  | m + 1 => by have := cnt_le N m; have := toNat_le (N.testBit m); rw [cnt]; omega

theorem rowN_bit (l : List Bool) (i : Nat) (h : i < l.length) : (rowN l).testBit i = l.getD i false := by
  unfold rowN
  rw [packN_bit, List.getD_eq_getElem?_getD, List.getD_eq_getElem?_getD, List.getElem?_append_left h]

theorem cnt_row (l : List Bool) : ∀ m, m ≤ l.length → cnt (rowN l) m = (pl l m).length
  | 0, _ => rfl
  | m + 1, h => by
    rw [cnt, cnt_row l m (by omega), pl, List.length_append, rowN_bit l m (by omega)]
    cases l.getD m false <;> rfl

theorem cnt_over (l : List Bool) : ∀ k, cnt (rowN l) (l.length + 1 + k) = (pl l l.length).length + 1
  | 0 => by
    rw [Nat.add_zero, cnt, cnt_row l _ (Nat.le_refl _), bit_top (rowN_ge l) (rowN_lt l)]; rfl
  | k + 1 => by
    rw [← Nat.add_assoc, cnt, cnt_over l k, bit_over (rowN_lt l) (by omega)]; rfl

theorem cnt_all (l : List Bool) : cnt (rowN l) (8 * (l.length / 8 + 1)) = (pl l l.length).length + 1 := by
  have := cnt_over l (8 * (l.length / 8 + 1) - (l.length + 1))
  rwa [show l.length + 1 + (8 * (l.length / 8 + 1) - (l.length + 1)) = 8 * (l.length / 8 + 1) by omega] at this

theorem and_bit (c j : Nat) (hc : c < 256) : bits BinOp.and IntKind.u8 ((c : Int) / 2 ^ j) 1 = ((c / 2 ^ j % 2 : Nat) : Int) := by
  have e : (c : Int) / 2 ^ j = ((c / 2 ^ j : Nat) : Int) := by simp
  have hlt : c / 2 ^ j < 256 := Nat.lt_of_le_of_lt (Nat.div_le_self _ _) hc
  have h := u8_and_nat (c / 2 ^ j) 1 hlt (by omega)
  rw [e]
  rw [show ((1 : Nat) : Int) = 1 from rfl] at h
  rw [h, Nat.and_one_is_mod]

theorem cnt_step (l : List Bool) (j q : Nat) (hq : q < 8) (h : j < (enc l).length) : cnt (rowN l) (8 * j + (q + 1)) = cnt (rowN l) (8 * j + q) + (enc l)[j].toNat / 2 ^ q % 2 := by
  rw [← Nat.add_assoc, cnt, ← leN_enc l, leN_bit (enc l) (8 * j + q) (by rw [show (8 * j + q) / 8 = j by omega]; exact h)]
  congr 1
  have e1 : (8 * j + q) / 8 = j := by omega
  have e2 : (8 * j + q) % 8 = q := by omega
  simp only [e1, e2]
  have : (enc l)[j].toNat / 2 ^ q % 2 = 0 ∨ (enc l)[j].toNat / 2 ^ q % 2 = 1 := by omega
  rcases this with h | h <;> rw [h] <;> rfl

theorem wrap_sum (t x : Nat) (ht : t ≤ 10000) (hx : x ≤ 1) : wrap64 ((t : Int) + wrap64 (x : Int)) = ((t + x : Nat) : Int) := by
  have e : wrap64 (x : Int) = (x : Int) := by unfold wrap64; omega
  rw [e]
  unfold wrap64
  omega

set_option maxHeartbeats 1000000 in
theorem sizes_in (w : World) (ao : Option Addr) (n cap : Nat) (l : List Bool) (hn : l.length = n) (hu : Row w w.heap.size (.slice ao n cap) l) (hl : n ≤ 500) :
    Calls Try.prog 5 #[.slice ao n cap] w fun e w' => e = .returned (.bool true) ∧ Below w.heap.size w w' := by
  have HN := Lib.hid hn
  have HU := Lib.hid hu
  clear hn hu
  have c1 : ¬ ((500 : Int) < (n : Int)) := by omega
  go_enter Try.func5, Try.ntmps5
  go_wp2_with fail
  refine (alive_any w).mono ?_
  rintro e w1 ⟨rfl, hb1⟩
  go_wp2_with fail
  refine (put_nil w1 _ l ((HU.out.keep hb1).more hb1.size) (by rw [HN.out]; omega)).mono ?_
  rintro e w2 ⟨v2, rfl, hh2, hb2⟩
  have HB2 := Lib.hid (hb1.trans (hb2.mono hb1.size))
  obtain ⟨L, cap2, g, off, ao2, rfl, h2⟩ := hh2
  have hL : L = (enc l).length := by rw [h2.len, bv_length]
  have hL2 : L = n / 8 + 1 := by rw [hL, enc_length, HN.out]
  obtain rfl := h2.addr (by have := h2.le; omega)
  have hcs : ∀ j (h : j < (enc l).length), w2.cell? ⟨g, off + j, none⟩ = some (.int .u8 ((enc l)[j].toNat : Int)) := fun j h => h2.cells j _ (bv_at h)
  have HC := Lib.hid hcs
  have HL := Lib.hid hL
  have HL2 := Lib.hid hL2
  have hLb : L ≤ 100 := by omega
  clear hcs hL hL2 h2 hb1 hb2
  go_wp2_with fail
  go_loop [4, 17] (fun c i => ∃ j : Nat, j ≤ L ∧ i = .int .i64 j ∧ c = .int .i64 (cnt (rowN l) (8 * j) : Nat)) (fun _ i => L - (intOf i).toNat)
  case atStart => exact ⟨0, Nat.zero_le _, rfl, rfl⟩
  case round =>
    obtain ⟨j, hj, rfl, rfl⟩ := hrel
    by_cases hlt : j < L
    · have hjl : j < (enc l).length := by rw [← HL.out]; exact hlt
      have hc := HC.out j hjl
      have hst := fun q (hq : q < 8) => cnt_step l j q hq hjl
      have hcb := (enc l)[j].toNat_lt
      generalize (enc l)[j].toNat = c at hc hst hcb
      have HST := Lib.hid hst
      clear hst hjl
      go_wp2_with fail
      go_loop [4, 7] (fun t k => ∃ q : Nat, q ≤ 8 ∧ k = .int .i64 q ∧ t = .int .i64 (cnt (rowN l) (8 * j + q) : Nat)) (fun _ k => 8 - (intOf k).toNat)
      case atStart => exact ⟨0, Nat.zero_le _, rfl, rfl⟩
      case round =>
        obtain ⟨q, hq, rfl, rfl⟩ := hrel
        have hle := cnt_le (rowN l) (8 * j + q)
        by_cases hq8 : q < 8
        · have HQ := Lib.hid (HST.out q hq8)
          have HA := Lib.hid (and_bit c q (by omega))
          generalize cnt (rowN l) (8 * j + q) = t at hle HQ
          go_wp2
          go_round
          case rel => exact ⟨q + 1, by omega, by go_num, by rw [HA.out, HQ.out, wrap_sum _ _ (by omega) (by omega)]⟩
          case measure => simp [intOf]; omega
        · obtain rfl : q = 8 := by omega
          go_wp2
          go_round
          case rel => exact ⟨j + 1, by omega, by go_num, rfl⟩
          case measure => simp [intOf]; omega
    · obtain rfl : j = L := by omega
      have hcn := cnt_all l
      rw [HN.out, ← HL2.out] at hcn
      rw [hcn]
      have hpl := pl_length l n
      have HB := Lib.hid HB2.out
      have HP := Lib.hid (places_any w2 w.heap.size _ l HB2.out.size (HU.out.keep HB2.out) (by rw [HN.out]; omega))
      rw [HN.out] at HP
      obtain ⟨M, hM⟩ : ∃ M, M = (pl l n).length := ⟨_, rfl⟩
      rw [← hM] at hpl
      rw [← hM]
      have HM := Lib.hid hM
      have HSz := Lib.hid (size_any w2 n (by omega))
      rw [← HL2.out] at HSz
      clear hcn hM
      have e1 : ((M + 1 : Nat) : Int) = (M : Int) + 1 := by omega
      rw [e1]
      clear e1
      go_wp2_with fail
      refine HSz.out.mono ?_
      rintro e w3 ⟨rfl, rfl⟩
      go_wp2_with fail
      refine HP.out.mono ?_
      rintro e w3 ⟨v3, rfl, hh3, hb3⟩
      obtain ⟨ao3, cap3, rfl⟩ := hh3.shape
      rw [iv_length, ← HM.out]
      clear hh3
      go_wp2
      go_ret
      exact ⟨rfl, HB.out.trans (hb3.mono HB.out.size)⟩

set_option maxHeartbeats 400000 in
theorem sizes_out (w : World) (ao : Option Addr) (n cap : Nat) (h : 500 < n) : Calls Try.prog 5 #[.slice ao n cap] w fun e w' => e = .returned (.bool true) ∧ Below w.heap.size w w' := by
  have c1 : (500 : Int) < (n : Int) := by omega
  go_enter Try.func5, Try.ntmps5
  go_wp2_with fail
  refine (alive_any w).mono ?_
  rintro e w1 ⟨rfl, hb1⟩
  go_wp2
  go_ret
  exact ⟨rfl, hb1⟩

theorem sizes_all (w : World) (ao : Option Addr) (n cap : Nat) (l : List Bool) (hn : l.length = n) (hu : Row w w.heap.size (.slice ao n cap) l) :
    Calls Try.prog 5 #[.slice ao n cap] w fun e w' => e = .returned (.bool true) ∧ Below w.heap.size w w' := by
  by_cases h : 500 < n
  · exact sizes_out w ao n cap h
  · exact sizes_in w ao n cap l hn hu (by omega)

end Go.Proofs.Ytllpgpbonmcbjaa
