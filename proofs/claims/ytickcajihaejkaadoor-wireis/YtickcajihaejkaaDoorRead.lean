/-
  What le's reader does, call by call.
-/
import Derived.Test.YtickcajihaejkaaDoorPut
import Derived.Laws.BitsAllLaws
namespace Go.Proofs.YtickcajihaejkaaDoor
open Go.RowKit
set_option maxRecDepth 10000

/-- A reader that lies at block b: what is left, and whether it is short. -/
def Rd (w : World) (b : Nat) (s : ByteArray) (sh : Bool) : Prop := w.heap[b]? = some (.cells #[.string s, .bool sh] 71 (0, 0))

theorem Rd.cell0 {w : World} {b : Nat} {s : ByteArray} {sh : Bool} (h : Rd w b s sh) : w.cell? ⟨b, 0, none⟩ = some (.string s) := by
  unfold Rd at h; simp [World.cell?, h]
theorem Rd.cell1 {w : World} {b : Nat} {s : ByteArray} {sh : Bool} (h : Rd w b s sh) : w.cell? ⟨b, 1, none⟩ = some (.bool sh) := by
  unfold Rd at h; simp [World.cell?, h]
theorem Rd.free {w : World} {b : Nat} {s : ByteArray} {sh : Bool} (h : Rd w b s sh) (j : Nat) : w.frozen? ⟨b, j, none⟩ = false := by
  unfold Rd at h; simp [World.frozen?, h]
theorem Rd.lt {w : World} {b : Nat} {s : ByteArray} {sh : Bool} (h : Rd w b s sh) : b < w.heap.size := by
  unfold Rd at h; exact (Array.getElem?_eq_some_iff.1 h).1
theorem Rd.set0 {w : World} {b : Nat} {s : ByteArray} {sh : Bool} (h : Rd w b s sh) (s' : ByteArray) : Rd (w.setCell ⟨b, 0, none⟩ (.string s')) b s' sh := by
  unfold Rd at h ⊢; simp [World.setCell, Array.getElem?_modify, h]
theorem Rd.set1 {w : World} {b : Nat} {s : ByteArray} {sh : Bool} (h : Rd w b s sh) (sh' : Bool) : Rd (w.setCell ⟨b, 1, none⟩ (.bool sh')) b s sh' := by
  unfold Rd at h ⊢; simp [World.setCell, Array.getElem?_modify, h]
theorem Rd.keep {w w' : World} {b : Nat} {s : ByteArray} {sh : Bool} (h : Rd w b s sh) (hb : w'.heap[b]? = w.heap[b]?) : Rd w' b s sh := by
  unfold Rd at h ⊢; rw [hb, h]
theorem Rd.below {w w' : World} {b : Nat} {s : ByteArray} {sh : Bool} (h : Rd w b s sh) (hb : Below w.heap.size w w') : Rd w' b s sh := h.keep (hb.block b h.lt)
theorem Rd.grown {w w' : World} {b : Nat} {s : ByteArray} {sh : Bool} {row : Option Nat} (h : Rd w b s sh) (hb : w.grownBy w' row) (hne : some b ≠ row) : Rd w' b s sh := h.keep (hb.block b h.lt hne)

theorem grown_refl (w : World) (row : Option Nat) : w.grownBy w row := ⟨rfl, rfl, rfl, Nat.le_refl _, fun _ _ _ => rfl⟩
theorem grown_set {w w' : World} {b : Nat} (h : w.grownBy w' (some b)) (j : Nat) (u : Value) : w.grownBy (w'.setCell ⟨b, j, none⟩ u) (some b) :=
  ⟨h.os, h.tape, h.output, by simpa [World.setCell] using h.size, fun k hk hne => (Below.heap_setCell w' ⟨b, j, none⟩ u k (fun e => hne (by rw [e]))).trans (h.block k hk hne)⟩
theorem grown_trans {w w1 w2 : World} {row : Option Nat} (a : w.grownBy w1 row) (b : w1.grownBy w2 row) : w.grownBy w2 row :=
  ⟨b.os.trans a.os, b.tape.trans a.tape, b.output.trans a.output, Nat.le_trans a.size b.size, fun k hk hne => (b.block k (Nat.lt_of_lt_of_le hk a.size) hne).trans (a.block k hk hne)⟩
theorem below_of_grown {w w' : World} {b B : Nat} (h : w.grownBy w' (some b)) (hB : B ≤ w.heap.size) (hb : B ≤ b) : Below B w w' :=
  (Below.refl _ _).grown h hB fun k e => by cases e; exact hb

def rdOk (s : ByteArray) (n : Int) : Bool := decide (0 ≤ n) && decide (n ≤ s.size)
def rdOut (s : ByteArray) (n : Int) : ByteArray := if rdOk s n then s.extract 0 n.toNat else ByteArray.empty
def rdLeft (s : ByteArray) (n : Int) : ByteArray := if rdOk s n then s.extract n.toNat s.size else ByteArray.empty
def rdShort (s : ByteArray) (sh : Bool) (n : Int) : Bool := if rdOk s n then sh else true

theorem from_any (w : World) (s : ByteArray) : Calls Tryd.prog 24 #[.string s] w fun e w' => e = .returned (.pointer (some ⟨w.heap.size, 0, none⟩)) ∧ w' = w.alloc (.cells #[.string s, .bool false] 71) := by
  go_enter Tryd.func24, Tryd.ntmps24
  go_wp2
  go_ret
  exact ⟨rfl, rfl⟩

theorem rd_new (w : World) (s : ByteArray) : Rd (w.alloc (.cells #[.string s, .bool false] 71)) w.heap.size s false := heap_alloc_new w _

theorem fail_any (w : World) (b : Nat) (s : ByteArray) (sh : Bool) (h : Rd w b s sh) :
    Calls Tryd.prog 38 #[.pointer (some ⟨b, 0, none⟩)] w fun e w' => e = .returned (.tuple #[]) ∧ Rd w' b ByteArray.empty true ∧ w.grownBy w' (some b) := by
  have h0 := h.cell0
  have h1 := h.cell1
  have f0 := h.free 0
  have f1 := h.free 1
  go_enter Tryd.func38, Tryd.ntmps38
  go_wp2
  go_end0
  exact ⟨rfl, (h.set0 _).set1 _, grown_set (grown_set (grown_refl _ _) _ _) _ _⟩

theorem rbytes_nil (w : World) (n : Int) : Calls Tryd.prog 26 #[.pointer none, .int .i64 n] w fun e w' => e = .returned (.string ByteArray.empty) ∧ w = w' := by
  go_enter Tryd.func26, Tryd.ntmps26
  go_wp2
  go_ret
  exact ⟨rfl, rfl⟩

theorem rbytes_any (w : World) (b : Nat) (s : ByteArray) (sh : Bool) (n : Int) (h : Rd w b s sh) (_hs : s.size ≤ maxLen) :
    Calls Tryd.prog 26 #[.pointer (some ⟨b, 0, none⟩), .int .i64 n] w fun e w' => e = .returned (.string (rdOut s n)) ∧ Rd w' b (rdLeft s n) (rdShort s sh n) ∧ w.grownBy w' (some b) := by
  unfold maxLen at _hs
  have h0 := h.cell0
  have h1 := h.cell1
  have f0 := h.free 0
  have f1 := h.free 1
  by_cases hn : n < 0
  · have e1 : rdOk s n = false := by unfold rdOk; simp; omega
    have e2 : rdOut s n = ByteArray.empty := by simp [rdOut, e1]
    have e3 : rdLeft s n = ByteArray.empty := by simp [rdLeft, e1]
    have e4 : rdShort s sh n = true := by simp [rdShort, e1]
    rw [e2, e3, e4]
    clear e1 e2 e3 e4
    go_enter Tryd.func26, Tryd.ntmps26
    go_wp2_with (go_at_call 38; refine (fail_any w b s sh h).mono ?_; rintro e w1 ⟨rfl, hr, hg⟩)
    go_ret
    exact ⟨rfl, hr, hg⟩
  · by_cases hl : (s.size : Int) < n
    · have e1 : rdOk s n = false := by unfold rdOk; simp; omega
      have e2 : rdOut s n = ByteArray.empty := by simp [rdOut, e1]
      have e3 : rdLeft s n = ByteArray.empty := by simp [rdLeft, e1]
      have e4 : rdShort s sh n = true := by simp [rdShort, e1]
      rw [e2, e3, e4]
      clear e1 e2 e3 e4
      go_enter Tryd.func26, Tryd.ntmps26
      go_wp2_with (go_at_call 38; refine (fail_any w b s sh h).mono ?_; rintro e w1 ⟨rfl, hr, hg⟩)
      go_ret
      exact ⟨rfl, hr, hg⟩
    · have e1 : rdOk s n = true := by unfold rdOk; simp; omega
      have e2 : rdOut s n = s.extract 0 n.toNat := by simp [rdOut, e1]
      have e3 : rdLeft s n = s.extract n.toNat s.size := by simp [rdLeft, e1]
      have e4 : rdShort s sh n = sh := by simp [rdShort, e1]
      rw [e2, e3, e4]
      clear e1 e2 e3 e4
      go_enter Tryd.func26, Tryd.ntmps26
      go_wp2
      go_ret
      exact ⟨rfl, h.set0 _, grown_set (grown_refl _ _) _ _⟩

theorem left_nil (w : World) : Calls Tryd.prog 28 #[.pointer none] w fun e w' => e = .returned (.int .i64 0) ∧ w = w' := by
  go_enter Tryd.func28, Tryd.ntmps28
  go_wp2
  go_ret
  exact ⟨rfl, rfl⟩

theorem left_any (w : World) (b : Nat) (s : ByteArray) (sh : Bool) (h : Rd w b s sh) : Calls Tryd.prog 28 #[.pointer (some ⟨b, 0, none⟩)] w fun e w' => e = .returned (.int .i64 s.size) ∧ w = w' := by
  have h0 := h.cell0
  go_enter Tryd.func28, Tryd.ntmps28
  go_wp2
  go_ret
  exact ⟨rfl, rfl⟩

theorem end_nil (w : World) : Calls Tryd.prog 29 #[.pointer none] w fun e w' => e = .returned (.bool false) ∧ w = w' := by
  go_enter Tryd.func29, Tryd.ntmps29
  go_wp2
  go_ret
  exact ⟨rfl, rfl⟩

theorem end_any (w : World) (b : Nat) (s : ByteArray) (sh : Bool) (h : Rd w b s sh) : Calls Tryd.prog 29 #[.pointer (some ⟨b, 0, none⟩)] w fun e w' => e = .returned (.bool (!sh && s.toList.isEmpty)) ∧ w = w' := by
  have h0 := h.cell0
  have h1 := h.cell1
  cases sh
  · go_enter Tryd.func29, Tryd.ntmps29
    go_wp2
    go_ret
    exact ⟨rfl, rfl⟩
  · go_enter Tryd.func29, Tryd.ntmps29
    go_wp2
    go_ret
    exact ⟨rfl, rfl⟩

theorem pow_bytesR (k : Nat) : 256 ^ k = 2 ^ (8 * k) := by rw [show (256 : Nat) = 2 ^ 8 from rfl, ← Nat.pow_mul]

theorem ret_int {k : IntKind} {a b : Int} (h : a = b) : Ending.returned (.int k a) = .returned (.int k b) := by rw [h]

/-- One byte more, by a shift and an or. -/
theorem or_byte (q c k : Nat) (hq : q < 256 ^ k) (hc : c < 256) (hk : k < 8) :
    bits BinOp.or IntKind.u64 (q : Int) (IntKind.u64.wrap (IntKind.u64.wrap (c : Int) * 2 ^ (8 * k))) = ((q + 256 ^ k * c : Nat) : Int) := by
  have hp : 256 ^ k * c < 256 ^ (k + 1) := by rw [Nat.pow_succ]; exact Nat.mul_lt_mul_of_pos_left hc (Nat.pow_pos (by omega))
  have hle : 256 ^ (k + 1) ≤ 256 ^ 8 := Nat.pow_le_pow_right (by omega) (by omega)
  have hle' : 256 ^ k ≤ 256 ^ 8 := Nat.pow_le_pow_right (by omega) (by omega)
  have h64 : (256 : Nat) ^ 8 = 18446744073709551616 := by decide
  rw [h64] at hle hle'
  rw [IntKind.wrap_u64, IntKind.wrap_u64]
  have e1 : (c : Int) % 18446744073709551616 = (c : Int) := by omega
  have e2 : (c : Int) * 2 ^ (8 * k) = ((256 ^ k * c : Nat) : Int) := by
    rw [pow_bytesR, Nat.mul_comm (2 ^ (8 * k)) c]; simp
  rw [e1, e2]
  have e3 : ((256 ^ k * c : Nat) : Int) % 18446744073709551616 = ((256 ^ k * c : Nat) : Int) := by omega
  rw [e3, u64_or_nat q (256 ^ k * c) (by omega) (by omega), Nat.or_comm, nat_join (8 * k) (256 ^ k * c) q (by rw [← pow_bytesR]; simp) (by rw [← pow_bytesR]; exact hq), Nat.add_comm]

theorem leN_take_succ (d : ByteArray) (k : Nat) (h : k < d.size) : leN (d.data.toList.take (k + 1)) = leN (d.data.toList.take k) + 256 ^ k * d[k].toNat := by
  rw [List.take_succ_eq_append_getElem (by simpa using h), leN_snoc, List.length_take, Nat.min_eq_left (by simpa using Nat.le_of_lt h)]
  rfl

theorem uint_loop (w : World) (b : Nat) (s : ByteArray) (sh : Bool) (n : Int) (h : Rd w b s sh) (hs : s.size ≤ maxLen) (hn : n ≤ 8) :
    Calls Tryd.prog 25 #[.pointer (some ⟨b, 0, none⟩), .int .i64 n] w fun e w' => e = .returned (.int .u64 (leN (rdOut s n).data.toList)) ∧ Rd w' b (rdLeft s n) (rdShort s sh n) ∧ w.grownBy w' (some b) := by
  obtain ⟨d, hd⟩ : ∃ d, d = rdOut s n := ⟨_, rfl⟩
  have hdl : d.size ≤ 8 := by rw [hd]; unfold rdOut rdOk; split <;> simp <;> omega
  have h8 : decide (8 < n) = false := by simp; omega
  have HD := Lib.hid hd
  clear hd
  go_enter Tryd.func25, Tryd.ntmps25
  go_wp2_with (go_at_call 26; refine (rbytes_any w b s sh n h hs).mono ?_; rintro e w1 ⟨rfl, hr, hg⟩; rw [← HD.out])
  go_loop [6, 15] (fun m i => ∃ k : Nat, k ≤ d.size ∧ i = .int .i64 k ∧ m = .int .u64 ((leN (d.data.toList.take k) : Nat) : Int)) (fun _ i => d.size - (intOf i).toNat)
  case atStart => exact ⟨0, Nat.zero_le _, rfl, rfl⟩
  case round =>
    obtain ⟨k, hk, rfl, rfl⟩ := hrel
    obtain ⟨q, hq⟩ : ∃ q : Nat, q = leN (d.data.toList.take k) := ⟨_, rfl⟩
    rw [← hq]
    have HQ := Lib.hid hq
    clear hq
    by_cases hlt : k < d.size
    · have hqb : q < 256 ^ k := by
        rw [HQ.out]
        have := leN_lt (d.data.toList.take k)
        rwa [List.length_take, Nat.min_eq_left (by simpa using Nat.le_of_lt hlt)] at this
      have HB := Lib.hid hqb
      clear hqb
      go_wp2
      go_roundw
      case rel => exact ⟨k + 1, by omega, by go_num, by rw [or_byte q _ k HB.out d[k].toNat_lt (by omega), leN_take_succ d k hlt, HQ.out]⟩
      case measure => simp [intOf]; omega
    · have hall : leN (rdOut s n).data.toList = q := by rw [HQ.out, ← HD.out, List.take_of_length_le (by simp; omega)]
      have HA := Lib.hid hall
      clear hall
      go_wp2
      go_ret
      exact ⟨ret_int (by rw [HA.out]), hr, hg⟩


theorem rd_neg (s : ByteArray) : rdOut s (-1) = ByteArray.empty ∧ rdLeft s (-1) = ByteArray.empty ∧ ∀ sh, rdShort s sh (-1) = true := by
  have : rdOk s (-1) = false := by simp [rdOk]
  simp [rdOut, rdLeft, rdShort, this]

/-- A width above 8 is as one below 0. -/
def wd (n : Int) : Int := if 8 < n then -1 else n

theorem uint_any (w : World) (b : Nat) (s : ByteArray) (sh : Bool) (n : Int) (h : Rd w b s sh) (hs : s.size ≤ maxLen) :
    Calls Tryd.prog 25 #[.pointer (some ⟨b, 0, none⟩), .int .i64 n] w fun e w' => e = .returned (.int .u64 (leN (rdOut s (wd n)).data.toList)) ∧ Rd w' b (rdLeft s (wd n)) (rdShort s sh (wd n)) ∧ w.grownBy w' (some b) := by
  by_cases hn : 8 < n
  · obtain ⟨e1, e2, e3⟩ := rd_neg s
    have ew : wd n = -1 := by simp [wd, hn]
    rw [ew, e1, e2, e3]
    have hc := rbytes_any w b s sh (-1) h hs
    rw [e1, e2, e3] at hc
    have H := Lib.hid hc
    have h8 : decide (8 < n) = true := by simp; omega
    clear hc e1 e2 e3 ew
    go_enter Tryd.func25, Tryd.ntmps25
    go_wp2_with (go_at_call 26; refine H.out.mono ?_; rintro e w1 ⟨rfl, hr, hg⟩)
    refine wp_loop_rounds 1 ?_
    rw [rounds_succ]
    go_wp2
    go_ret
    exact ⟨rfl, hr, hg⟩
  · have ew : wd n = n := by simp [wd, hn]
    rw [ew]
    exact uint_loop w b s sh n h hs (by omega)

theorem uint_nil (w : World) (n : Int) : Calls Tryd.prog 25 #[.pointer none, .int .i64 n] w fun e w' => e = .returned (.int .u64 0) ∧ w = w' := by
  by_cases hn : 8 < n
  · have h8 : decide (8 < n) = true := by simp; omega
    go_enter Tryd.func25, Tryd.ntmps25
    go_wp2_with (go_at_call 26; refine (rbytes_nil _ _).mono ?_; rintro e w1 ⟨rfl, rfl⟩)
    refine wp_loop_rounds 1 ?_
    rw [rounds_succ]
    go_wp2
    go_ret
    exact ⟨rfl, rfl⟩
  · have h8 : decide (8 < n) = false := by simp; omega
    go_enter Tryd.func25, Tryd.ntmps25
    go_wp2_with (go_at_call 26; refine (rbytes_nil _ _).mono ?_; rintro e w1 ⟨rfl, rfl⟩)
    refine wp_loop_rounds 1 ?_
    rw [rounds_succ]
    go_wp2
    go_ret
    exact ⟨rfl, rfl⟩

/-- A new reader: it lies in a block of its own, behind all others. -/
theorem from_new (w : World) (s : ByteArray) : Calls Tryd.prog 24 #[.string s] w fun e w' => ∃ b, e = .returned (.pointer (some ⟨b, 0, none⟩)) ∧ w.heap.size ≤ b ∧ Rd w' b s false ∧ Below w.heap.size w w' :=
  (from_any w s).mono fun _ _ ⟨he, hw⟩ => ⟨w.heap.size, he, Nat.le_refl _, by rw [hw]; exact rd_new w s, by rw [hw]; exact (Below.refl _ _).alloc (Nat.le_refl _) _⟩

end Go.Proofs.YtickcajihaejkaaDoor
