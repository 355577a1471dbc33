/-
  What bitlist.Get, and what it calls, do.
-/
import Derived.Test.YtickcajihaejkaaDoorBPut
namespace Go.Proofs.YtickcajihaejkaaDoor
open Go.RowKit
set_option maxRecDepth 10000

def bitLen (n : Nat) : Nat := if n = 0 then 0 else Nat.log2 n + 1

theorem ret_intB {k : IntKind} {a b : Int} (h : a = b) : Ending.returned (.int k a) = .returned (.int k b) := by rw [h]

theorem tab_at (t : ByteArray) (c : Nat) (h : c < t.size) (ht : t.size = 256) (hall : ∀ i : Fin 256, wrap64 ((t.data.getD i.1 0).toNat : Int) = ((bitLen i.1 : Nat) : Int)) : wrap64 (t[c].toNat : Int) = ((bitLen c : Nat) : Int) := by
  have := hall ⟨c, by omega⟩
  rw [← this]
  congr 2
  have hs : c < t.data.size := h
  rw [Array.getD_eq_getD_getElem?, Array.getElem?_eq_getElem hs]
  rfl

theorem notEmpty (s : ByteArray) (h : 0 < s.size) : s.toList.isEmpty = false := by
  rw [ByteArray.toList_eq]
  have : s.data.toList.length = s.size := Array.length_toList
  cases hd : s.data.toList with
  | nil => rw [hd] at this; simp at this; omega
  | cons a r => rfl

set_option maxRecDepth 100000 in
set_option maxHeartbeats 400000 in
theorem len8_any (w : World) (c : Nat) (hc : c < 256) : Calls Tryd.prog 46 #[.int .u8 c] w fun e w' => e = .returned (.int .i64 (bitLen c)) ∧ w = w' := by
  have h0 : (0 : Int) ≤ (c : Int) := by omega
  have h1 : (c : Int) < 256 := by omega
  go_enter Tryd.func46, Tryd.ntmps46
  go_wp2
  go_ret
  refine ⟨ret_intB ?_, rfl⟩
  exact tab_at _ c _ (by decide +kernel) (by decide +kernel)

set_option maxRecDepth 100000 in
theorem length_bad (w : World) (s : ByteArray) (h0 : 0 < s.size) (hs : s.size ≤ 1000) (hl : s[s.size - 1].toNat = 0) : Calls Tryd.prog 39 #[.string s] w fun e w' => e = .returned (.int .i64 (-1)) ∧ w = w' := by
  have t1 := notEmpty s h0
  have t2 : ((s[s.size - 1].toNat : Int) == 0) = true := by rw [hl]; rfl
  clear hl
  go_enter Tryd.func39, Tryd.ntmps39
  go_wp2
  go_ret
  exact ⟨rfl, rfl⟩

theorem length_none (w : World) (s : ByteArray) (h0 : s.size = 0) : Calls Tryd.prog 39 #[.string s] w fun e w' => e = .returned (.int .i64 (-1)) ∧ w = w' := by
  have hd : s.data.toList = [] := List.eq_nil_of_length_eq_zero (by rw [Array.length_toList]; exact h0)
  have t1 : s.toList.isEmpty = true := by rw [ByteArray.toList_eq, hd]; rfl
  clear hd h0
  go_enter Tryd.func39, Tryd.ntmps39
  go_wp2
  go_ret
  exact ⟨rfl, rfl⟩

set_option maxHeartbeats 400000 in
theorem length_ok (w : World) (s : ByteArray) (h0 : 0 < s.size) (hs : s.size ≤ 1000) (m : Nat) (hl : s[s.size - 1].toNat ≠ 0) (hm : m = 8 * (s.size - 1) + Nat.log2 s[s.size - 1].toNat) : Calls Tryd.prog 39 #[.string s] w fun e w' => e = .returned (.int .i64 m) ∧ w = w' := by
  have t1 := notEmpty s h0
  have t2 : ((s[s.size - 1].toNat : Int) == 0) = false := by simp; omega
  have hk := len8_any w s[s.size - 1].toNat s[s.size - 1].toNat_lt
  have hb : bitLen s[s.size - 1].toNat = Nat.log2 s[s.size - 1].toNat + 1 := by unfold bitLen; rw [if_neg hl]
  have hlog : Nat.log2 s[s.size - 1].toNat < 8 := (Nat.log2_lt hl).2 s[s.size - 1].toNat_lt
  rw [hb] at hk
  generalize Nat.log2 s[s.size - 1].toNat = g at *
  have HK := Lib.hid hk
  have HM := Lib.hid hm
  clear hk hm hl hb
  go_enter Tryd.func39, Tryd.ntmps39
  go_wp2_with fail
  refine HK.out.mono ?_
  rintro e w' ⟨rfl, rfl⟩
  go_wp2
  go_ret
  exact ⟨ret_intB (by rw [HM.out]; omega), rfl⟩

/-- s is no row's bytes. -/
def Bad (s : ByteArray) : Prop := s.size = 0 ∨ ∃ h : 0 < s.size, s[s.size - 1].toNat = 0

theorem length_no (w : World) (s : ByteArray) (hs : s.size ≤ 1000) (h : Bad s) : Calls Tryd.prog 39 #[.string s] w fun e w' => e = .returned (.int .i64 (-1)) ∧ w = w' := by
  rcases h with h | ⟨h0, h⟩
  · exact length_none w s h
  · exact length_bad w s h0 hs h

theorem isLen_or (s : ByteArray) : Bad s ∨ ∃ m, IsLen s.data.toList m ∧ ∃ h : 0 < s.size, s[s.size - 1].toNat ≠ 0 ∧ m = 8 * (s.size - 1) + Nat.log2 s[s.size - 1].toNat := by
  by_cases h0 : s.size = 0
  · exact .inl (.inl h0)
  · have hp : 0 < s.size := by omega
    by_cases hl : s[s.size - 1].toNat = 0
    · exact .inl (.inr ⟨hp, hl⟩)
    · refine .inr ⟨_, ?_, hp, hl, rfl⟩
      have hlen : s.data.toList.length = s.size := Array.length_toList
      have e : s.data.toList = s.data.toList.take (s.size - 1) ++ [s[s.size - 1]] := by
        conv => lhs; rw [← List.take_length (l := s.data.toList), hlen, show s.size = (s.size - 1) + 1 by omega]
        rw [List.take_add_one, List.getElem?_eq_getElem (by omega)]
        rfl
      have h := isLen_snoc (s.data.toList.take (s.size - 1)) s[s.size - 1] hl
      rw [← e, List.length_take, hlen, Nat.min_eq_left (by omega)] at h
      exact h

theorem length_yes (w : World) (s : ByteArray) (m : Nat) (hs : s.size ≤ 1000) (hm : IsLen s.data.toList m) : Calls Tryd.prog 39 #[.string s] w fun e w' => e = .returned (.int .i64 m) ∧ w = w' := by
  rcases isLen_or s with h | ⟨m', h, h0, hl, he⟩
  · exfalso
    have h1 := hm.size
    have h2 := hm.lo
    have hlen : s.data.toList.length = s.size := Array.length_toList
    rcases h with h | ⟨h0, h⟩
    · omega
    · have hb := leN_byte s.data.toList (s.size - 1) (by omega)
      have e : s.data.toList[s.size - 1]'(by omega) = s[s.size - 1] := rfl
      rw [e, h, leN_drop] at hb
      have hd : s.data.toList.drop (s.size - 1) = [s[s.size - 1]] := by
        rw [List.drop_eq_getElem_cons (by omega), List.drop_of_length_le (by omega)]; rfl
      have hz : leN s.data.toList / 256 ^ (s.size - 1) = 0 := by
        rw [leN_drop, hd]
        simp [leN, h]
      have hpos : 0 < 256 ^ (s.size - 1) := Nat.pow_pos (by omega)
      rw [Nat.div_eq_zero_iff_lt hpos, pow_bytes] at hz
      have : 2 ^ (8 * (s.size - 1)) ≤ 2 ^ m := Nat.pow_le_pow_right (by omega) (by omega)
      omega
  · have := hm.unique h
    subst this
    exact length_ok w s h0 hs m hl he

set_option maxHeartbeats 400000 in
theorem get_bad (w : World) (s : ByteArray) (most : Int) (hs : s.size ≤ 1000) (h : Bad s) : Calls Tryd.prog 27 #[.string s, .int .i64 most] w fun e w' => e = .returned (.tuple #[.slice none 0 0, .bool false]) ∧ w = w' := by
  have HK := Lib.hid (length_no w s hs h)
  clear h
  go_enter Tryd.func27, Tryd.ntmps27
  go_wp2_with fail
  refine HK.out.mono ?_
  rintro e w' ⟨rfl, rfl⟩
  go_wp2
  go_ret2
  exact ⟨rfl, rfl⟩

set_option maxHeartbeats 400000 in
theorem get_over (w : World) (s : ByteArray) (most : Int) (m : Nat) (hs : s.size ≤ 1000) (h : IsLen s.data.toList m) (hm : most < (m : Int)) : Calls Tryd.prog 27 #[.string s, .int .i64 most] w fun e w' => e = .returned (.tuple #[.slice none 0 0, .bool false]) ∧ w = w' := by
  have HK := Lib.hid (length_yes w s m hs h)
  clear h
  have h1 : ¬ ((m : Int) < 0) := by omega
  go_enter Tryd.func27, Tryd.ntmps27
  go_wp2_with fail
  refine HK.out.mono ?_
  rintro e w' ⟨rfl, rfl⟩
  go_wp2
  go_ret2
  exact ⟨rfl, rfl⟩

theorem and_one (c j : Nat) (hc : c < 256) : (bits BinOp.and IntKind.u8 ((c : Int) / 2 ^ j) 1 == 1) = decide (c / 2 ^ j % 2 = 1) := by
  have e : (c : Int) / 2 ^ j = ((c / 2 ^ j : Nat) : Int) := by simp
  have hlt : c / 2 ^ j < 256 := Nat.lt_of_le_of_lt (Nat.div_le_self _ _) hc
  have h := u8_and_nat (c / 2 ^ j) 1 hlt (by omega)
  rw [e]
  rw [show ((1 : Nat) : Int) = 1 from rfl] at h
  rw [h, Nat.and_one_is_mod]
  rw [Bool.eq_iff_iff]
  simp
  omega

theorem get_bit (s : ByteArray) (k : Nat) (h : k / 8 < s.size) : (bits BinOp.and IntKind.u8 ((s[k / 8].toNat : Int) / 2 ^ (k % 8)) 1 == 1) = (leN s.data.toList).testBit k := by
  rw [leN_bit s.data.toList k (by rw [Array.length_toList]; exact h), and_one _ _ s[k / 8].toNat_lt]
  rfl

theorem dec_set (N m k : Nat) (h : k < m) : (decR N k ++ List.replicate (m - k) false).set k (N.testBit k) = decR N (k + 1) ++ List.replicate (m - (k + 1)) false := by
  rw [List.set_append_right _ _ (by rw [dec_length]; omega), dec_length, Nat.sub_self, show m - k = (m - (k + 1)) + 1 by omega, List.replicate_succ, List.set_cons_zero, dec_succ, List.append_assoc]
  rfl

set_option maxHeartbeats 400000 in
theorem get_yes (w : World) (s : ByteArray) (most : Int) (m : Nat) (hs : s.size ≤ 1000) (h : IsLen s.data.toList m) (hm : (m : Int) ≤ most) :
    Calls Tryd.prog 27 #[.string s, .int .i64 most] w fun e w' => e = .returned (.tuple #[.slice (some ⟨w.heap.size, 0, none⟩) m m, .bool true]) ∧ BMade w' w.heap.size (decR (leN s.data.toList) m) ∧ Below w.heap.size w w' := by
  have HK := Lib.hid (length_yes w s m hs h)
  have hsz := h.size
  rw [Array.length_toList] at hsz
  have hms : m / 8 < s.size := by change _ = s.size at hsz; omega
  clear h hsz
  have h1 : ¬ ((m : Int) < 0) := by omega
  have h2 : ¬ (most < (m : Int)) := by omega
  obtain ⟨i0, hi, hz0, hz1, hz2⟩ := info_parts Tryd.infoB
  have hmk := fun W => run_makeSlice (P := Tryd.prog) W 25 4 i0 (.bool false) Tryd.underlying25 hi hz0 .i64 .i64 (m : Int) (m : Int) (by omega) (by omega) (by rw [hz1]; simp; omega) (by rw [hz2]; omega) (by omega)
  simp only [Int.toNat_natCast, hz1, Nat.mul_one] at hmk
  have hmade := bmade_new w m 4
  have hbel : Below w.heap.size w (w.alloc (.cells (madeCells (Value.bool false).cells m) 4)) := (Below.refl _ _).alloc (Nat.le_refl _) _
  have hmk0 := hmk w
  obtain ⟨w1, hw1⟩ : ∃ w1, w1 = w.alloc (.cells (madeCells (Value.bool false).cells m) 4) := ⟨_, rfl⟩
  rw [← hw1] at hmade hbel hmk0
  have HM := Lib.hid hmade
  have HB := Lib.hid hbel
  clear hmk hw1 hmade hbel
  obtain ⟨g, hg⟩ : ∃ g, g = w.heap.size := ⟨_, rfl⟩
  rw [← hg] at hmk0 HM HB
  rw [← hg]
  have HG := Lib.hid hg
  clear hg
  go_enter Tryd.func27, Tryd.ntmps27
  go_wp2_with fail
  refine HK.out.mono ?_
  rintro e w' ⟨rfl, rfl⟩
  clear HK
  go_wp2_with fail
  clear hmk0
  go_loopw [8, 22] (fun _ i wr => ∃ k : Nat, k ≤ m ∧ i = .int .i64 k ∧ BMade wr g (decR (leN s.data.toList) k ++ List.replicate (m - k) false) ∧ Below g w wr) (fun _ i _ => m - (intOf i).toNat)
  case atStart => exact ⟨0, Nat.zero_le _, rfl, by simpa [decR] using HM.out, HB.out⟩
  case round =>
    clear HM HB
    obtain ⟨k, hk, rfl, hmd, hbl⟩ := hrel
    by_cases hlt : k < m
    · have hkl : k < (decR (leN s.data.toList) k ++ List.replicate (m - k) false).length := by rw [List.length_append, dec_length, List.length_replicate]; omega
      obtain ⟨y, hy⟩ : ∃ y, (decR (leN s.data.toList) k ++ List.replicate (m - k) false)[k]? = some y := ⟨_, List.getElem?_eq_getElem hkl⟩
      have hcell := hmd.cells k y hy
      have hfree := hmd.free k hkl
      have hset := fun x => hmd.set k hkl x
      clear hy
      have HS := Lib.hid hset
      clear hset hmd
      have hd : k / 8 < s.size := by omega
      have HX := Lib.hid (get_bit s k hd)
      have HD := Lib.hid (dec_set (leN s.data.toList) m k hlt)
      clear hkl
      go_wp2
      go_roundw
      case rel => exact ⟨k + 1, by omega, by go_num, by rw [HX.out, ← HD.out]; exact HS.out _, hbl.setCell (Nat.le_refl _) _⟩
      case measure => simp [intOf]; omega
    · obtain rfl : k = m := by omega
      rw [Nat.sub_self, List.replicate_zero, List.append_nil] at hmd
      have HH := Lib.hid hmd
      have HB := Lib.hid hbl
      clear hbl hmd
      go_wp2
      go_ret2
      exact ⟨rfl, HH.out, HB.out⟩

end Go.Proofs.YtickcajihaejkaaDoor
