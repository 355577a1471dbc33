/-
  What the document's own Bytes does.
-/
import Derived.Test.YtnbdpalbompjlaaDoorM8
import Derived.Test.YtnbdpalbompjlaaDoorM10
namespace Go.Proofs.YtnbdpalbompjlaaDoor
open Go.RowKit
set_option maxRecDepth 10000

theorem leB_add (k : Nat) : ∀ n m, leB (n + 256 ^ k * m) k = leB n k := by
  induction k with
  | zero => intro n m; rfl
  | succ k ih =>
    intro n m
    have e : 256 ^ (k + 1) * m = 256 * (256 ^ k * m) := by rw [Nat.pow_succ, Nat.mul_comm (256 ^ k) 256, Nat.mul_assoc]
    rw [leB, leB, e, show (n + 256 * (256 ^ k * m)) % 256 = n % 256 by omega, show (n + 256 * (256 ^ k * m)) / 256 = n / 256 + 256 ^ k * m by omega, ih]

theorem pow_split (i : Nat) : 2 ^ i = 256 ^ (i / 8) * 2 ^ (i % 8) := by
  rw [pow_bytes, ← Nat.pow_add, show 8 * (i / 8) + i % 8 = i by omega]

theorem low_lt (i p : Nat) (hp : p < 2 ^ i) : p / 256 ^ (i / 8) < 2 ^ (i % 8) := by
  rw [pow_split] at hp
  exact Nat.div_lt_of_lt_mul hp

theorem pow_lt (i : Nat) : 2 ^ (i % 8) ≤ 128 := by
  have : 2 ^ (i % 8) ≤ 2 ^ 7 := Nat.pow_le_pow_right (by omega) (by omega)
  omega

/-- The byte that is begun. -/
theorem leB_zero (i p : Nat) (hp : p < 2 ^ i) (h : i % 8 = 0) : leB p (i / 8 + 1) = leB p (i / 8) ++ [0] := by
  have := low_lt i p hp
  rw [h] at this
  have h0 : p / 256 ^ (i / 8) = 0 := by simpa using this
  rw [leB_snoc, h0]
  rfl

/-- A yes more. -/
theorem leB_yes (i p : Nat) (hp : p < 2 ^ i) : leB (p + 2 ^ i) (i / 8 + 1) = leB p (i / 8) ++ [UInt8.ofNat (p / 256 ^ (i / 8) + 2 ^ (i % 8))] := by
  have h1 := low_lt i p hp
  have h2 := pow_lt i
  rw [leB_snoc, pow_split i, leB_add]
  have hpos : 0 < 256 ^ (i / 8) := Nat.pow_pos (by omega)
  rw [Nat.add_mul_div_left _ _ hpos, Nat.mod_eq_of_lt (by omega)]

theorem leB_no (i p : Nat) (hp : p < 2 ^ i) : leB p (i / 8 + 1) = leB p (i / 8) ++ [UInt8.ofNat (p / 256 ^ (i / 8))] := by
  have h1 := low_lt i p hp
  have h2 := pow_lt i
  rw [leB_snoc, Nat.mod_eq_of_lt (by omega)]

set_option maxHeartbeats 1000000 in
theorem refrow_any (w : World) (ao : Option Addr) (n cap : Nat) (l : List Bool) (hn : l.length = n) (hu : BRow w w.heap.size (.slice ao n cap) l) (hl : n ≤ 500) :
    Calls Tryd.prog 57 #[.slice ao n cap] w fun e w' => e = .returned (.string (bstr (encR l))) ∧ Below w.heap.size w w' := by
  obtain ⟨i0, hi, hz0, hz1, hz2⟩ := info_parts Tryd.infoB
  obtain ⟨i1, hi', hy0, hy1, hy2⟩ := info_parts Tryd.infoU8
  have HN := Lib.hid hn
  have HSrc := Lib.hid ((hu.keep (((Below.refl _ _).alloc (Nat.le_refl _) (.cells #[] 4)))).src 28 4 (P := Tryd.prog) Tryd.underlying28)
  clear hn hu
  go_enter Tryd.func57, Tryd.ntmps57
  go_wp2_with (at_builtin; refine wpList_append_held rfl _ _ 28 28 rfl rfl (held_empty w 4 _ (Nat.le_refl _)) 4 i0 (.bool false) 1 Tryd.underlying28 hi hz0 hz1 hz2 rfl _ rfl n (ov l) HSrc.out ?e2 ?e3 ?e4 ?_)
  case e2 => unfold maxLen; simp; omega
  case e3 => simp; omega
  case e4 => simp
  intro v1 w1 hh1 hg1
  have hbA : Below w.heap.size w w1 := ((Below.refl _ _).alloc (Nat.le_refl _) _).trans (hg1.below (held_empty w 4 _ (Nat.le_refl _)) (by simp))
  have hzA := hbA.size
  have hlA : (ov l).length ≤ 500 := by rw [ov_length, HN.out]; exact hl
  clear HSrc hg1
  go_wp2_with (at_builtin; refine wpList_append_held rfl _ _ 28 28 rfl rfl (hh1.alloc _) 4 i0 (.bool false) 1 Tryd.underlying28 hi hz0 hz1 hz2 rfl _ rfl 1 [.bool true] (src_one _ 4 28 Tryd.underlying28 _ rfl) ?g2 ?g3 ?g4 ?_)
  case g2 => unfold maxLen; simp; omega
  case g3 => simp; omega
  case g4 => simp; omega
  intro v2 w2 hh2 hg2
  have HB2 := Lib.hid (hbA.trans (((Below.refl _ _).alloc hzA _).trans (hg2.below (hh1.alloc _) (by simp; omega))))
  have hr2 : BRow w2 w2.heap.size v2 (l ++ [true]) := Held.brow (base := w.heap.size) (by rw [ov_append]; exact hh2)
  clear hh2 hg2 hbA hh1 hzA hlA
  obtain ⟨r, hr⟩ : ∃ r, r = l ++ [true] := ⟨_, rfl⟩
  rw [← hr] at hr2
  have hrl : r.length = n + 1 := by rw [hr, List.length_append, HN.out]; rfl
  have HR := Lib.hid hr
  clear hr
  obtain ⟨ao2, cap2, b, off, rfl, hcap2, _, hrow⟩ := hr2
  obtain rfl := hrow.addr (by omega)
  have hblt := hrow.lt (by omega)
  have HC := Lib.hid hrow.cells
  rw [hrl]
  have HRL := Lib.hid hrl
  clear hrl hcap2 hrow
  go_wp2_with fail
  go_loopw [4, 16] (fun c i wr => ∃ k : Nat, k ≤ n + 1 ∧ i = .int .i64 k ∧ Held wr w2.heap.size c (bv (leB (packN (r.take k)) ((k + 7) / 8))) ∧ Below w2.heap.size w2 wr) (fun _ i _ => n + 1 - (intOf i).toNat)
  case atStart => exact ⟨0, Nat.zero_le _, rfl, by simpa [leB, bv] using Held.nil _ _, Below.refl _ _⟩
  case round =>
    obtain ⟨k, hk, rfl, hh, hbel⟩ := hrel
    by_cases hlt : k < n + 1
    · have hkl : k < r.length := by rw [HRL.out]; exact hlt
      obtain ⟨x, hx⟩ : ∃ x, r[k]? = some x := ⟨_, List.getElem?_eq_getElem hkl⟩
      have hcell := (hbel.cell (p := ⟨b, off + k, none⟩) hblt).trans (HC.out k x hx)
      have hp := packN_lt (r.take k)
      rw [List.length_take, Nat.min_eq_left (by omega)] at hp
      have HS := Lib.hid (packN_succ hx)
      obtain ⟨p, hpe⟩ : ∃ p, p = packN (r.take k) := ⟨_, rfl⟩
      rw [← hpe] at hp hh HS
      have HP := Lib.hid hp
      have hsz := hbel.size
      clear hx hkl hp hpe
      by_cases h8 : k % 8 = 0
      · have d8 : (k : Int) % 8 = 0 := by omega
        have hlen : (bv (leB p ((k + 7) / 8))).length ≤ 100 := by rw [bv_length, leB_length]; omega
        go_wp2_with (at_builtin; refine wpList_append_held rfl _ _ 86 86 rfl rfl (hh.alloc _) 5 i1 (.int .u8 0) 1 Tryd.underlying86 hi' hy0 hy1 hy2 rfl _ rfl 1 [.int .u8 0] (src_one _ 5 86 Tryd.underlying86 _ rfl) ?k2 ?k3 ?k4 ?_)
        case k2 => unfold maxLen; omega
        case k3 => omega
        case k4 => simp; omega
        intro v3 w3 hh3 hg3
        have hb3 := hbel.trans (((Below.refl _ _).alloc hsz _).trans (hg3.below (hh.alloc _) (by simp; omega)))
        have hhT : Held w3 w2.heap.size v3 (bv (leB p (k / 8 + 1))) := by
          rw [leB_zero k p HP.out h8, bv_append]
          rw [show (k + 7) / 8 = k / 8 by omega] at hh3
          exact hh3
        clear hh3 hg3 hh hbel hcell hlen
        cases x
        · have hH : Held w3 w2.heap.size v3 (bv (leB (packN (r.take (k + 1))) ((k + 1 + 7) / 8))) := by
            rw [HS.out, show (k + 1 + 7) / 8 = k / 8 + 1 by omega]; simpa using hhT
          have HH := Lib.hid hH
          clear hH hhT
          go_wp2
          go_roundw
          case rel => exact ⟨k + 1, by omega, by go_num, HH.out, hb3⟩
          case measure => simp [intOf]; omega
        · obtain ⟨L3, cap3, g, off3, ao3, rfl, h3⟩ := hhT
          obtain rfl : L3 = k / 8 + 1 := by rw [h3.len, bv_length, leB_length]
          obtain rfl := h3.addr (by have := h3.le; omega)
          have hgo : w2.heap.size ≤ g := h3.own _ rfl
          have hq1 := low_lt k p HP.out
          have hq2 := pow_lt k
          have hno := leB_no k p HP.out
          have hyes := leB_yes k p HP.out
          rw [hno] at h3
          obtain ⟨q, hq⟩ : ∃ q, q = p / 256 ^ (k / 8) := ⟨_, rfl⟩
          rw [← hq] at hq1 hyes h3
          have hc3 := h3.cells (k / 8) (.int .u8 (q : Int)) (by rw [bv_append, List.getElem?_append_right (by rw [bv_length, leB_length]; omega), bv_length, leB_length, Nat.sub_self, bv_byte q (by omega)]; rfl)
          have hf3 := h3.free (k / 8) (by have := h3.le; omega)
          obtain ⟨z, hz⟩ : ∃ z, z = q + 2 ^ (k % 8) := ⟨_, rfl⟩
          have hset := h3.set (k / 8) (by omega) (.int .u8 (z : Int))
          rw [bv_append, List.set_append_right _ _ (by rw [bv_length, leB_length]; omega), bv_length, leB_length, Nat.sub_self, bv_byte q (by omega), List.set_cons_zero, ← bv_byte z (by omega), ← bv_append, hz, ← hyes] at hset
          have hH : Held (w3.setCell ⟨g, off3 + k / 8, none⟩ (.int .u8 ((q + 2 ^ (k % 8) : Nat) : Int))) w2.heap.size (.slice (some ⟨g, off3, none⟩) (k / 8 + 1) cap3) (bv (leB (packN (r.take (k + 1))) ((k + 1 + 7) / 8))) := by
            rw [HS.out, show (k + 1 + 7) / 8 = k / 8 + 1 by omega, show p + 2 ^ k * true.toNat = p + 2 ^ k by simp]
            exact ⟨_, _, _, _, _, rfl, hset⟩
          have hbS : Below w2.heap.size w2 (w3.setCell ⟨g, off3 + k / 8, none⟩ (.int .u8 ((q + 2 ^ (k % 8) : Nat) : Int))) := hb3.setCell hgo _
          have HH := Lib.hid hH
          have HBS := Lib.hid hbS
          have HQ1 := Lib.hid hq1
          have HQ2 := Lib.hid hq2
          have hq256 : q < 256 := by omega
          clear hH hbS hset hz hq hno hyes h3 hq1 hq2
          go_wp2_with fail
          go_loop [7, 8] (fun u t => ∃ j : Nat, j ≤ k % 8 ∧ t = .int .i64 j ∧ u = .int .i64 (2 ^ j : Nat)) (fun _ t => k % 8 - (intOf t).toNat)
          case atStart => exact ⟨0, Nat.zero_le _, rfl, rfl⟩
          case round =>
            obtain ⟨j, hj, rfl, rfl⟩ := hrel
            have hjp : 2 ^ j ≤ 2 ^ 7 := Nat.pow_le_pow_right (by omega) (by omega)
            have hjs : 2 ^ (j + 1) = 2 * 2 ^ j := by rw [Nat.pow_succ, Nat.mul_comm]
            have HJS := Lib.hid hjs
            clear hjs
            by_cases hjk : j < k % 8
            · exfalso; omega
            · obtain rfl : j = k % 8 := by omega
              have djk : ¬ (((k % 8 : Nat) : Int) < (k : Int) % 8) := by omega
              have hQ1 := HQ1.out
              have hQ2 := HQ2.out
              obtain ⟨U, hU⟩ : ∃ U, U = 2 ^ (k % 8) := ⟨_, rfl⟩
              rw [← hU] at hQ1 hQ2 HH HBS
              rw [← hU]
              clear hU HQ1 HQ2 hjp HJS
              go_wp2
              go_roundw
              case rel => exact ⟨k + 1, by omega, by go_num, HH.out, HBS.out⟩
              case measure => simp [intOf]; omega
      · have d8 : ((k : Int) % 8 == 0) = false := by simp; omega
        have d8' : ¬ ((k : Int) % 8 = 0) := by omega
        have hhT : Held wr w2.heap.size u4 (bv (leB p (k / 8 + 1))) := by
          rw [show (k + 7) / 8 = k / 8 + 1 by omega] at hh
          exact hh
        clear hh
        cases x
        · have hH : Held wr w2.heap.size u4 (bv (leB (packN (r.take (k + 1))) ((k + 1 + 7) / 8))) := by
            rw [HS.out, show (k + 1 + 7) / 8 = k / 8 + 1 by omega]; simpa using hhT
          have HH := Lib.hid hH
          clear hH hhT
          go_wp2
          go_roundw
          case rel => exact ⟨k + 1, by omega, by go_num, HH.out, hbel⟩
          case measure => simp [intOf]; omega
        · obtain ⟨L3, cap3, g, off3, ao3, rfl, h3⟩ := hhT
          obtain rfl : L3 = k / 8 + 1 := by rw [h3.len, bv_length, leB_length]
          obtain rfl := h3.addr (by have := h3.le; omega)
          have hgo : w2.heap.size ≤ g := h3.own _ rfl
          have hq1 := low_lt k p HP.out
          have hq2 := pow_lt k
          have hno := leB_no k p HP.out
          have hyes := leB_yes k p HP.out
          rw [hno] at h3
          obtain ⟨q, hq⟩ : ∃ q, q = p / 256 ^ (k / 8) := ⟨_, rfl⟩
          rw [← hq] at hq1 hyes h3
          have hc3 := h3.cells (k / 8) (.int .u8 (q : Int)) (by rw [bv_append, List.getElem?_append_right (by rw [bv_length, leB_length]; omega), bv_length, leB_length, Nat.sub_self, bv_byte q (by omega)]; rfl)
          have hf3 := h3.free (k / 8) (by have := h3.le; omega)
          obtain ⟨z, hz⟩ : ∃ z, z = q + 2 ^ (k % 8) := ⟨_, rfl⟩
          have hset := h3.set (k / 8) (by omega) (.int .u8 (z : Int))
          rw [bv_append, List.set_append_right _ _ (by rw [bv_length, leB_length]; omega), bv_length, leB_length, Nat.sub_self, bv_byte q (by omega), List.set_cons_zero, ← bv_byte z (by omega), ← bv_append, hz, ← hyes] at hset
          have hH : Held (wr.setCell ⟨g, off3 + k / 8, none⟩ (.int .u8 ((q + 2 ^ (k % 8) : Nat) : Int))) w2.heap.size (.slice (some ⟨g, off3, none⟩) (k / 8 + 1) cap3) (bv (leB (packN (r.take (k + 1))) ((k + 1 + 7) / 8))) := by
            rw [HS.out, show (k + 1 + 7) / 8 = k / 8 + 1 by omega, show p + 2 ^ k * true.toNat = p + 2 ^ k by simp]
            exact ⟨_, _, _, _, _, rfl, hset⟩
          have hbS : Below w2.heap.size w2 (wr.setCell ⟨g, off3 + k / 8, none⟩ (.int .u8 ((q + 2 ^ (k % 8) : Nat) : Int))) := hbel.setCell hgo _
          have HH := Lib.hid hH
          have HBS := Lib.hid hbS
          have HQ1 := Lib.hid hq1
          have HQ2 := Lib.hid hq2
          have hq256 : q < 256 := by omega
          clear hH hbS hset hz hq hno hyes h3 hq1 hq2
          go_wp2_with fail
          go_loop [7, 8] (fun u t => ∃ j : Nat, j ≤ k % 8 ∧ t = .int .i64 j ∧ u = .int .i64 (2 ^ j : Nat)) (fun _ t => k % 8 - (intOf t).toNat)
          case atStart => exact ⟨0, Nat.zero_le _, rfl, rfl⟩
          case round =>
            obtain ⟨j, hj, rfl, rfl⟩ := hrel
            have hjp : 2 ^ j ≤ 2 ^ 7 := Nat.pow_le_pow_right (by omega) (by omega)
            have hjs : 2 ^ (j + 1) = 2 * 2 ^ j := by rw [Nat.pow_succ, Nat.mul_comm]
            have HJS := Lib.hid hjs
            clear hjs
            by_cases hjk : j < k % 8
            · obtain ⟨U, hU⟩ : ∃ U, U = 2 ^ j := ⟨_, rfl⟩
              rw [← hU] at hjp HJS
              rw [← hU]
              clear hU
              have djk : (j : Int) < (k : Int) % 8 := by omega
              go_wp2
              go_round
              case rel => exact ⟨j + 1, by omega, by go_num, by rw [HJS.out]; go_num⟩
              case measure => simp [intOf]; omega
            · obtain rfl : j = k % 8 := by omega
              have djk : ¬ (((k % 8 : Nat) : Int) < (k : Int) % 8) := by omega
              have hQ1 := HQ1.out
              have hQ2 := HQ2.out
              obtain ⟨U, hU⟩ : ∃ U, U = 2 ^ (k % 8) := ⟨_, rfl⟩
              rw [← hU] at hQ1 hQ2 HH HBS
              rw [← hU]
              clear hU HQ1 HQ2 hjp HJS
              go_wp2
              go_roundw
              case rel => exact ⟨k + 1, by omega, by go_num, HH.out, HBS.out⟩
              case measure => simp [intOf]; omega
    · obtain rfl : k = n + 1 := by omega
      rw [List.take_of_length_le (by rw [HRL.out]; omega)] at hh
      have hen : leB (packN r) ((n + 1 + 7) / 8) = encR l := by
        unfold encR rowN
        rw [HR.out, HN.out, show (n + 1 + 7) / 8 = n / 8 + 1 by omega]
      rw [hen] at hh
      have hs := hh.string (P := Tryd.prog) 86 9 5 Tryd.underlying86 Tryd.underlying5 Tryd.underlying9
      have hs' : Sem.run Tryd.prog (convert 86 9 u4) wr = .ok (.string (bstr (encR l))) wr := hs
      clear hs hen hh
      go_wp2
      go_ret
      exact ⟨rfl, HB2.out.trans (hbel.mono HB2.out.size)⟩

end Go.Proofs.YtnbdpalbompjlaaDoor
