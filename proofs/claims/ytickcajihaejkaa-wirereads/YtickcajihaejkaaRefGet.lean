/-
  What the document's own Get does.
-/
import Derived.Test.YtickcajihaejkaaBMore
namespace Go.Proofs.Ytickcajihaejkaa
open Go.RowKit
set_option maxRecDepth 10000

theorem byte_bit (s : ByteArray) (i k : Nat) (hi : i < s.size) (hk : k < 8) : (leN s.data.toList).testBit (8 * i + k) = decide (s[i].toNat / 2 ^ k % 2 = 1) := by
  have e1 : (8 * i + k) / 8 = i := by omega
  have e2 : (8 * i + k) % 8 = k := by omega
  rw [leN_bit s.data.toList (8 * i + k) (by rw [Array.length_toList, e1]; exact hi)]
  simp only [e1, e2]
  rfl

theorem div_pow_succ (c k : Nat) : c / 2 ^ k / 2 = c / 2 ^ (k + 1) := by rw [Nat.div_div_eq_div_mul, Nat.pow_succ]

/-- The bits of the last byte are those at the end. -/
theorem last_bits (s : ByteArray) (h0 : 0 < s.size) (hl : s[s.size - 1].toNat = 0) (j : Nat) (h1 : 8 * s.size ≤ j + 8) (h2 : j < 8 * s.size) : (leN s.data.toList).testBit j = false := by
  have := byte_bit s (s.size - 1) (j - 8 * (s.size - 1)) (by omega) (by omega)
  rw [show 8 * (s.size - 1) + (j - 8 * (s.size - 1)) = j by omega, hl] at this
  rw [this]
  simp

/-- What Get by the document answers: nothing and no, if the bytes are no row's; else the row, and whether it has at most so many. -/

def BRowF (w : World) (base : Nat) (v : Value) (l : List Bool) : Prop := ∃ ao cap rb off, v = .slice ao l.length cap ∧ l.length ≤ cap ∧ cap ≤ maxLen ∧ BRowAt w w.heap.size ao rb off l ∧ (0 < l.length → base ≤ rb)
theorem BRowF.row {w : World} {base : Nat} {v : Value} {l : List Bool} (h : BRowF w base v l) : BRow w w.heap.size v l := by
  obtain ⟨ao, cap, rb, off, h1, h2, h3, h4, _⟩ := h
  exact ⟨ao, cap, rb, off, h1, h2, h3, h4⟩

def GetPost (w : World) (s : ByteArray) (most : Int) (e : Ending) (w' : World) : Prop :=
  (Bad s ∧ e = .returned (.tuple #[.slice none 0 0, .bool false]) ∧ Below w.heap.size w w') ∨
  ∃ (m : Nat) (v : Value), IsLen s.data.toList m ∧ e = .returned (.tuple #[v, .bool (decide ((m : Int) ≤ most))]) ∧ BRowF w' w.heap.size v (decR (leN s.data.toList) m) ∧ Below w.heap.size w w'

theorem row_first {w : World} {base L cap g off m : Nat} {l r : List Bool} (h : HeldAt w base L cap g off (some ⟨g, off, none⟩) (ov l)) (hm : m ≤ L) (hr : l.take m = r) : BRowF w base (.slice (some ⟨g, off, none⟩) m cap) r := by
  have hlen := h.len
  rw [ov_length] at hlen
  have hle := h.le
  have hrl : r.length = m := by rw [← hr, List.length_take]; omega
  refine ⟨_, cap, g, off, by rw [hrl], by omega, h.max, ⟨fun _ => rfl, fun _ => h.lt (by omega), fun j x hj => ?_⟩, fun _ => h.own _ rfl⟩
  rw [← hr, List.getElem?_take] at hj
  split at hj
  · exact h.cells j _ (ov_at hj)
  · cases hj

set_option maxHeartbeats 2000000 in
theorem refget_any (w : World) (s : ByteArray) (most : Int) (hs : s.size ≤ 1000) : Calls Try.prog 24 #[.string s, .int .i64 most] w (GetPost w s most) := by
  obtain ⟨i0, hi, hz0, hz1, hz2⟩ := info_parts Try.infoB
  go_enter Try.func24, Try.ntmps24
  go_wp2_with fail
  go_loopw [6, 7] (fun v i wr => ∃ k : Nat, k ≤ s.size ∧ i = .int .i64 k ∧ Held wr w.heap.size v (ov (decR (leN s.data.toList) (8 * k))) ∧ Below w.heap.size w wr) (fun _ i _ => s.size - (intOf i).toNat)
  case atStart => exact ⟨0, Nat.zero_le _, rfl, Held.nil _ _, Below.refl _ _⟩
  case round =>
    obtain ⟨k, hk, rfl, hh, hbel⟩ := hrel
    by_cases hlt : k < s.size
    · have HBt := Lib.hid (fun q (hq : q < 8) => byte_bit s k q hlt hq)
      have hcb := s[k].toNat_lt
      obtain ⟨w0, hw0⟩ : ∃ w0 : World, w0 = wr := ⟨_, rfl⟩
      subst hw0
      go_wp2_with fail
      generalize s[k].toNat = c at HBt hcb
      go_loopw [6, 8, 9] (fun v c' i wr => ∃ q : Nat, q ≤ 8 ∧ i = .int .i64 q ∧ c' = .int .i64 (c / 2 ^ q : Nat) ∧ Held wr w.heap.size v (ov (decR (leN s.data.toList) (8 * k + q))) ∧ Below w.heap.size w wr) (fun _ _ i _ => 8 - (intOf i).toNat)
      case atStart => exact ⟨0, Nat.zero_le _, rfl, by simp, hh, hbel⟩
      case round =>
        clear hh hbel
        obtain ⟨q, hq, rfl, rfl, hh, hbel⟩ := hrel
        have hsz := hbel.size
        have hlen : (ov (decR (leN s.data.toList) (8 * k + q))).length ≤ 10000 := by rw [ov_length, dec_length]; omega
        by_cases hq8 : q < 8
        · have HX := Lib.hid (HBt.out q hq8)
          have HD := Lib.hid (div_pow_succ c q)
          have hdb : c / 2 ^ q ≤ c := Nat.div_le_self _ _
          generalize c / 2 ^ q = d at HX HD hdb
          go_wp2_with (at_builtin; refine wpList_append_held rfl _ _ 26 26 rfl rfl (hh.alloc _) 4 i0 (.bool false) 1 Try.underlying26 hi hz0 hz1 hz2 rfl _ rfl 1 [.bool ((d : Int) % 2 == 1)] (src_one _ 4 26 Try.underlying26 _ rfl) ?k2 ?k3 ?k4 ?_)
          case k2 => unfold maxLen; omega
          case k3 => omega
          case k4 => simp; omega
          intro v3 w3 hh3 hg3
          have hb3 := hbel.trans (((Below.refl _ _).alloc hsz _).trans (hg3.below (hh.alloc _) (by simp; omega)))
          have hx : ((d : Int) % 2 == 1) = (leN s.data.toList).testBit (8 * k + q) := by
            rw [HX.out, Bool.eq_iff_iff]
            simp
            omega
          have hH : Held w3 w.heap.size v3 (ov (decR (leN s.data.toList) (8 * k + (q + 1)))) := by
            rw [← Nat.add_assoc, dec_succ, ov_append, ← hx]
            exact hh3
          have HH := Lib.hid hH
          clear hH hx hh3 hg3 hh hbel hlen
          go_wp2
          go_roundw
          case rel => exact ⟨q + 1, by omega, by go_num, by rw [← HD.out]; go_num, HH.out, hb3⟩
          case measure => simp [intOf]; omega
        · obtain rfl : q = 8 := by omega
          clear hlen
          go_wp2
          go_roundw
          case rel => exact ⟨k + 1, by omega, by go_num, hh, hbel⟩
          case measure => simp [intOf]; omega
    · obtain rfl : k = s.size := by omega
      obtain ⟨L, cap, g, off, ao, rfl, h⟩ := hh
      have hL : L = 8 * s.size := by rw [h.len, ov_length, dec_length]
      have hLb : L ≤ 8000 := by omega
      have HB := Lib.hid hbel
      by_cases h0 : s.size = 0
      · obtain rfl : L = 0 := by omega
        have HBad := Lib.hid (show Bad s from .inl h0)
        have e0 : ((s.size : Nat) : Int) = 0 := by omega
        clear hL h hbel
        go_wp2_with fail
        refine wp_loop_rounds 1 ?_
        rw [rounds_succ]
        go_wp2
        go_ret2
        exact .inl ⟨HBad.out, rfl, HB.out⟩
      · obtain rfl := h.addr (by have := h.le; omega)
        have hL8 : 8 ≤ L := by omega
        have hcs : ∀ n, n < L → wr.cell? ⟨g, off + n, none⟩ = some (.bool ((leN s.data.toList).testBit n)) := fun n hn => h.cells n _ (ov_at (dec_get _ _ _ (by omega)))
        have HC := Lib.hid hcs
        rcases isLen_or s with hbad | ⟨m, hm, _⟩
        · have hbits : ∀ n, L ≤ n + 8 → n < L → (leN s.data.toList).testBit n = false := by
            rcases hbad with hb | ⟨hp, hl⟩
            · omega
            · intro n h1 h2
              exact last_bits s hp hl n (by omega) (by omega)
          have HBad := Lib.hid hbad
          have HBits := Lib.hid hbits
          clear hbits hbad hcs h hbel hL
          go_wp2_with fail
          go_loop [10] (fun t => ∃ n : Nat, n ≤ L ∧ L ≤ n + 8 ∧ t = .int .i64 ((n : Int) - 1)) (fun t => (intOf t + 1).toNat)
          case atStart => exact ⟨L, Nat.le_refl _, by omega, rfl⟩
          case round =>
            obtain ⟨n, hn1, hn2, rfl⟩ := hrel
            by_cases hn : L < n + 8
            · obtain ⟨n', rfl⟩ : ∃ n', n = n' + 1 := ⟨n - 1, by omega⟩
              have hc := HC.out n' (by omega)
              rw [HBits.out n' (by omega) (by omega)] at hc
              rw [show ((n' + 1 : Nat) : Int) - 1 = (n' : Int) by omega]
              have t1 : (L : Int) - 8 ≤ (n' : Int) := by omega
              go_wp2
              go_round
              case rel => exact ⟨n', by omega, by omega, rfl⟩
              case measure => simp [intOf] <;> omega
            · have t1 : ¬ ((L : Int) - 8 ≤ (n : Int) - 1) := by omega
              by_cases hn0 : n = 0
              · subst hn0
                go_wp2
                go_ret2
                exact .inl ⟨HBad.out, rfl, HB.out⟩
              · have t0 : (0 : Int) ≤ (n : Int) - 1 := by omega
                go_wp2
                go_ret2
                exact .inl ⟨HBad.out, rfl, HB.out⟩
        · have hsz := hm.size
          rw [Array.length_toList] at hsz
          have hmL : m < L ∧ L ≤ m + 8 := by change _ = s.size at hsz; omega
          obtain ⟨hmL1, hmL2⟩ := hmL
          have htop := bit_top hm.lo hm.hi
          have hbits : ∀ n, m < n → (leN s.data.toList).testBit n = false := fun n hn => bit_over hm.hi hn
          have hrow := row_first h (Nat.le_of_lt hmL1) (dec_take _ _ m (by omega))
          have HM := Lib.hid hm
          have HTop := Lib.hid htop
          have HBits := Lib.hid hbits
          have HRow := Lib.hid hrow
          have hLc := h.le
          clear hbits htop hrow hcs h hbel hL hsz hm
          go_wp2_with fail
          go_loop [10] (fun t => ∃ n : Nat, m ≤ n ∧ n < L ∧ t = .int .i64 (n : Int)) (fun t => (intOf t).toNat)
          case atStart => exact ⟨L - 1, by omega, by omega, by go_num⟩
          case round =>
            obtain ⟨n, hn1, hn2, rfl⟩ := hrel
            have hc := HC.out n hn2
            have t1 : (L : Int) - 8 ≤ (n : Int) := by omega
            by_cases hn : n = m
            · subst hn
              rw [HTop.out] at hc
              have t2 : (n : Int) ≤ (cap : Int) := by omega
              have t3 : ¬ (cap = 0) := by omega
              go_wp2
              go_ret2
              exact .inr ⟨n, _, HM.out, rfl, HRow.out, HB.out⟩
            · rw [HBits.out n (by omega)] at hc
              go_wp2
              go_round
              case rel => exact ⟨n - 1, by omega, by omega, by go_num⟩
              case measure => simp [intOf]; omega

end Go.Proofs.Ytickcajihaejkaa
