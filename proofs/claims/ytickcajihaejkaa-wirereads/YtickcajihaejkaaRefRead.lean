/-
  What the document's own reader (tollerref01) does, and that le's reader does the same.
-/
import Derived.Test.YtickcajihaejkaaConv
import Derived.Test.YtickcajihaejkaaRead
import Derived.Deep.QuietTactic
import Derived.BigQuiet
import Derived.WalkSmall
import Derived.IntWalk
import Derived.OpenShut
namespace Go.Proofs.Ytickcajihaejkaa
open Go.RowKit
set_option maxRecDepth 10000

/-- The document's reader, at block b: its text, how much is over, whether it is short. -/
def Rm (w : World) (b : Nat) (s : ByteArray) (at' : Nat) (sh : Bool) : Prop := w.heap[b]? = some (.cells #[.string s, .int .i64 at', .bool sh] 52 (0, 0))

variable {w w' : World} {b : Nat} {s : ByteArray} {p : Nat} {sh : Bool}
theorem Rm.cell0 (h : Rm w b s p sh) : w.cell? ⟨b, 0, none⟩ = some (.string s) := by unfold Rm at h; simp [World.cell?, h]
theorem Rm.cell1 (h : Rm w b s p sh) : w.cell? ⟨b, 1, none⟩ = some (.int .i64 p) := by unfold Rm at h; simp [World.cell?, h]
theorem Rm.cell2 (h : Rm w b s p sh) : w.cell? ⟨b, 2, none⟩ = some (.bool sh) := by unfold Rm at h; simp [World.cell?, h]
theorem Rm.free (h : Rm w b s p sh) (j : Nat) : w.frozen? ⟨b, j, none⟩ = false := by unfold Rm at h; simp [World.frozen?, h]
theorem Rm.lt (h : Rm w b s p sh) : b < w.heap.size := by unfold Rm at h; exact (Array.getElem?_eq_some_iff.1 h).1
theorem Rm.set1 (h : Rm w b s p sh) (p' : Nat) : Rm (w.setCell ⟨b, 1, none⟩ (.int .i64 p')) b s p' sh := by
  unfold Rm at h ⊢; simp [World.setCell, Array.getElem?_modify, h]
theorem Rm.set2 (h : Rm w b s p sh) (sh' : Bool) : Rm (w.setCell ⟨b, 2, none⟩ (.bool sh')) b s p sh' := by
  unfold Rm at h ⊢; simp [World.setCell, Array.getElem?_modify, h]
theorem Rm.keep (h : Rm w b s p sh) (hb : w'.heap[b]? = w.heap[b]?) : Rm w' b s p sh := by unfold Rm at h ⊢; rw [hb, h]
theorem Rm.below (h : Rm w b s p sh) (hb : Below w.heap.size w w') : Rm w' b s p sh := h.keep (hb.block b h.lt)
theorem Rm.grown {row : Option Nat} (h : Rm w b s p sh) (hb : w.grownBy w' row) (hne : some b ≠ row) : Rm w' b s p sh := h.keep (hb.block b h.lt hne)

def mOk (s : ByteArray) (p : Nat) (n : Int) : Bool := decide (0 ≤ n) && decide (n + p ≤ s.size)
def mOut (s : ByteArray) (p : Nat) (n : Int) : ByteArray := if mOk s p n then s.extract p (p + n.toNat) else ByteArray.empty
def mAt (s : ByteArray) (p : Nat) (n : Int) : Nat := if mOk s p n then p + n.toNat else s.size
def mSh (s : ByteArray) (p : Nat) (sh : Bool) (n : Int) : Bool := if mOk s p n then sh else true

theorem grown_drewN (w : World) (row : Option Nat) (n : Nat) : w.grownBy (w.drewN n) row := ⟨rfl, rfl, rfl, Nat.le_refl _, fun _ _ _ => rfl⟩

set_option maxHeartbeats 400000 in
theorem refrbytes_no (w : World) (b : Nat) (s : ByteArray) (p : Nat) (sh : Bool) (n : Int) (h : Rm w b s p sh) (hp : p ≤ s.size) (hs : s.size ≤ 2000) (hno : sh = true ∨ n < 0 ∨ (s.size : Int) - p < n) :
    Calls Try.prog 25 #[.pointer (some ⟨b, 0, none⟩), .int .i64 n] w fun e w' => e = .returned (.string ByteArray.empty) ∧ Rm w' b s s.size true ∧ w.grownBy w' (some b) := by
  have h0 := h.cell0
  have h1 := h.cell1
  have h2 := h.cell2
  have f1 := h.free 1
  have f2 := h.free 2
  have key : ∀ nq, Rm (((w.setCell ⟨b, 2, none⟩ (.bool true)).setCell ⟨b, 1, none⟩ (.int .i64 s.size)).drewN nq) b s s.size true ∧ w.grownBy (((w.setCell ⟨b, 2, none⟩ (.bool true)).setCell ⟨b, 1, none⟩ (.int .i64 s.size)).drewN nq) (some b) := fun nq =>
    ⟨((h.set2 true).set1 s.size).keep rfl, grown_trans (grown_set (grown_set (grown_refl _ _) _ _) _ _) (grown_drewN _ _ _)⟩
  rcases sh with _ | _
  · by_cases hn : n < 0
    · have d1 : decide (n < 0) = true := by simpa using hn
      go_enter Try.func25, Try.ntmps25
      go_wp2_with fail
      go_quiet (fail)
      go_wp2
      go_ret
      exact ⟨rfl, key _⟩
    · have d1 : decide (n < 0) = false := by simp; omega
      have d2 : decide ((s.size : Int) - (p : Int) < n) = true := by
        simp at hno ⊢
        omega
      have e1 : IntKind.i64.wrap ((s.size : Int) - (p : Int)) = (s.size : Int) - (p : Int) := IntWalk.i64_in _ (by omega)
      clear hno
      go_enter Try.func25, Try.ntmps25
      go_wp2_with fail
      go_quiet (fail)
      go_wp2
      go_ret
      exact ⟨rfl, key _⟩
  · go_enter Try.func25, Try.ntmps25
    go_wp2_with fail
    go_quiet (fail)
    go_wp2
    go_ret
    exact ⟨rfl, key _⟩

set_option maxHeartbeats 400000 in
theorem refrbytes_yes (w : World) (b : Nat) (s : ByteArray) (p n : Nat) (h : Rm w b s p false) (hs : s.size ≤ 2000) (hn : p + n ≤ s.size) :
    Calls Try.prog 25 #[.pointer (some ⟨b, 0, none⟩), .int .i64 n] w fun e w' => e = .returned (.string (s.extract p (p + n))) ∧ Rm w' b s (p + n) false ∧ w.grownBy w' (some b) := by
  have h0 := h.cell0
  have h1 := h.cell1
  have h2 := h.cell2
  have f1 := h.free 1
  have d1 : decide ((n : Int) < 0) = false := by simp
  have e1 : IntKind.i64.wrap ((s.size : Int) - (p : Int)) = (s.size : Int) - (p : Int) := IntWalk.i64_in _ (by omega)
  have d2 : decide ((s.size : Int) - (p : Int) < (n : Int)) = false := by simp; omega
  go_enter Try.func25, Try.ntmps25
  go_wp2_with fail
  go_quiet (fail)
  go_wp2_with fail
  have hR : Rm ((w.drewN nq).setCell ⟨b, 1, none⟩ (.int .i64 ((p : Int) + (n : Int)))) b s (p + n) false := by
    have := (h.keep (w' := w.drewN nq) rfl).set1 (p + n)
    simpa using this
  have hG : w.grownBy ((w.drewN nq).setCell ⟨b, 1, none⟩ (.int .i64 ((p : Int) + (n : Int)))) (some b) := grown_set (grown_drewN _ _ _) _ _
  obtain ⟨W2, hW2⟩ : ∃ W2, W2 = (w.drewN nq).setCell ⟨b, 1, none⟩ (.int .i64 ((p : Int) + (n : Int))) := ⟨_, rfl⟩
  rw [← hW2] at hR hG ⊢
  have g0 := hR.cell0
  have g1 : W2.cell? ⟨b, 1, none⟩ = some (.int .i64 ((p : Int) + (n : Int))) := by simpa using hR.cell1
  clear hW2 h0 h1 h2 f1 d1 e1 d2
  have e3 : IntKind.i64.wrap ((p : Int)) = (p : Int) := IntWalk.i64_in _ (by omega)
  have b1 : (0 : Int) ≤ (p : Int) + (n : Int) := by omega
  have b2 : ((p : Int) + (n : Int)).toNat = p + n := by omega
  have b3 : (p : Int) ≤ (p : Int) + (n : Int) := by omega
  have b4 : (p : Int) + (n : Int) ≤ (s.size : Int) := by omega
  go_quiet (fail)
  go_wp2
  go_ret
  exact ⟨rfl, hR.keep rfl, grown_trans hG (grown_drewN _ _ _)⟩

theorem extract_self (s : ByteArray) (p : Nat) : s.extract p p = ByteArray.empty := by
  apply ByteArray.ext
  rw [ByteArray.data_extract]
  apply Array.ext'
  simp

theorem mOk_iff (s : ByteArray) (p : Nat) (n : Int) : mOk s p n = true ↔ 0 ≤ n ∧ n + p ≤ s.size := by unfold mOk; simp

/-- The document's Bytes. -/
theorem refrbytes_any (w : World) (b : Nat) (s : ByteArray) (p : Nat) (sh : Bool) (n : Int) (h : Rm w b s p sh) (hp : p ≤ s.size) (hsp : sh = true → p = s.size) (hs : s.size ≤ 2000) :
    Calls Try.prog 25 #[.pointer (some ⟨b, 0, none⟩), .int .i64 n] w fun e w' => e = .returned (.string (mOut s p n)) ∧ Rm w' b s (mAt s p n) (mSh s p sh n) ∧ w.grownBy w' (some b) := by
  by_cases hok : mOk s p n = true
  · obtain ⟨h1, h2⟩ := (mOk_iff s p n).1 hok
    obtain ⟨k, rfl⟩ : ∃ k : Nat, n = k := ⟨n.toNat, by omega⟩
    have e1 : mOut s p k = s.extract p (p + k) := by simp [mOut, hok]
    have e2 : mAt s p k = p + k := by simp [mAt, hok]
    have e3 : mSh s p sh k = sh := by simp [mSh, hok]
    rw [e1, e2, e3]
    cases sh with
    | false => exact refrbytes_yes w b s p k h hs (by omega)
    | true =>
      have hps := hsp rfl
      obtain rfl : k = 0 := by omega
      have := refrbytes_no w b s p true ((0 : Nat) : Int) h hp hs (.inl rfl)
      rw [Nat.add_zero, extract_self, hps]
      exact this
  · have hk : mOk s p n = false := by simpa using hok
    have e1 : mOut s p n = ByteArray.empty := by simp [mOut, hk]
    have e2 : mAt s p n = s.size := by simp [mAt, hk]
    have e3 : mSh s p sh n = true := by simp [mSh, hk]
    rw [e1, e2, e3]
    refine refrbytes_no w b s p sh n h hp hs (.inr ?_)
    rw [mOk_iff] at hok
    omega

theorem m_le (s : ByteArray) (p : Nat) (n : Int) : mAt s p n ≤ s.size := by
  unfold mAt
  split
  · rename_i h
    rw [mOk_iff] at h
    omega
  · exact Nat.le_refl _

theorem m_short (s : ByteArray) (p : Nat) (sh : Bool) (n : Int) (hsp : sh = true → p = s.size) : mSh s p sh n = true → mAt s p n = s.size := by
  unfold mSh mAt
  split
  · rename_i h
    rw [mOk_iff] at h
    intro hsh
    have := hsp hsh
    omega
  · intro _; rfl

/-- le's reader does the same. -/
theorem rd_is_m (s : ByteArray) (p : Nat) (sh : Bool) (n : Int) (hp : p ≤ s.size) :
    rdOut (s.extract p s.size) n = mOut s p n ∧ rdLeft (s.extract p s.size) n = s.extract (mAt s p n) s.size ∧ rdShort (s.extract p s.size) sh n = mSh s p sh n := by
  have hsz : (s.extract p s.size).size = s.size - p := by simp
  have hok : rdOk (s.extract p s.size) n = mOk s p n := by
    unfold rdOk mOk
    rw [hsz]
    congr 1
    simp
    omega
  unfold rdOut rdLeft rdShort mOut mAt mSh
  rw [hok]
  by_cases h : mOk s p n = true
  · have hh := (mOk_iff s p n).1 h
    rw [if_pos h, if_pos h, if_pos h, if_pos h]
    refine ⟨?_, ?_, rfl⟩
    · apply ByteArray.ext
      apply Array.ext'
      simp [ByteArray.data_extract]
      omega
    · apply ByteArray.ext
      apply Array.ext'
      simp [ByteArray.data_extract]
      omega
  · rw [if_neg h, if_neg h, if_neg h, if_neg h]
    exact ⟨rfl, (extract_self s s.size).symm, rfl⟩

theorem bytes_m (w : World) (b : Nat) (s : ByteArray) (p : Nat) (sh : Bool) (n : Int) (h : Rd w b (s.extract p s.size) sh) (hp : p ≤ s.size) (hs : s.size ≤ 2000) :
    Calls Try.prog 19 #[.pointer (some ⟨b, 0, none⟩), .int .i64 n] w fun e w' => e = .returned (.string (mOut s p n)) ∧ Rd w' b (s.extract (mAt s p n) s.size) (mSh s p sh n) ∧ w.grownBy w' (some b) := by
  have := rbytes_any w b (s.extract p s.size) sh n h (by simp; unfold maxLen; omega)
  obtain ⟨h1, h2, h3⟩ := rd_is_m s p sh n hp
  rwa [h1, h2, h3] at this

theorem uint_m (w : World) (b : Nat) (s : ByteArray) (p : Nat) (sh : Bool) (n : Int) (h : Rd w b (s.extract p s.size) sh) (hp : p ≤ s.size) (hs : s.size ≤ 2000) :
    Calls Try.prog 18 #[.pointer (some ⟨b, 0, none⟩), .int .i64 n] w fun e w' => e = .returned (.int .u64 (leN (mOut s p (wd n)).data.toList)) ∧ Rd w' b (s.extract (mAt s p (wd n)) s.size) (mSh s p sh (wd n)) ∧ w.grownBy w' (some b) := by
  have := uint_any w b (s.extract p s.size) sh n h (by simp; unfold maxLen; omega)
  obtain ⟨h1, h2, h3⟩ := rd_is_m s p sh (wd n) hp
  rwa [h1, h2, h3] at this

theorem isEmpty_extract (s : ByteArray) (p : Nat) (hp : p ≤ s.size) : (s.extract p s.size).toList.isEmpty = decide (p = s.size) := by
  have h1 : (s.extract p s.size).toList.length = s.size - p := by
    rw [Go.ByteArray.toList_eq, Array.length_toList]
    show (s.extract p s.size).size = _
    simp
  rw [Bool.eq_iff_iff]
  simp only [List.isEmpty_iff, decide_eq_true_eq, ← List.length_eq_zero_iff, h1]
  omega

def mEnd (s : ByteArray) (p : Nat) (sh : Bool) : Bool := !sh && decide (p = s.size)

theorem end_m (w : World) (b : Nat) (s : ByteArray) (p : Nat) (sh : Bool) (h : Rd w b (s.extract p s.size) sh) (hp : p ≤ s.size) :
    Calls Try.prog 22 #[.pointer (some ⟨b, 0, none⟩)] w fun e w' => e = .returned (.bool (mEnd s p sh)) ∧ w = w' := by
  have := end_any w b (s.extract p s.size) sh h
  rwa [isEmpty_extract s p hp] at this

theorem left_m (w : World) (b : Nat) (s : ByteArray) (p : Nat) (sh : Bool) (h : Rd w b (s.extract p s.size) sh) (hp : p ≤ s.size) :
    Calls Try.prog 21 #[.pointer (some ⟨b, 0, none⟩)] w fun e w' => e = .returned (.int .i64 ((s.size : Int) - (p : Int))) ∧ w = w' := by
  have := left_any w b (s.extract p s.size) sh h
  rwa [show (((s.extract p s.size).size : Nat) : Int) = (s.size : Int) - (p : Int) by simp; omega] at this

/-- The document's End. -/
theorem refend_any (w : World) (b : Nat) (s : ByteArray) (p : Nat) (sh : Bool) (h : Rm w b s p sh) :
    Calls Try.prog 26 #[.pointer (some ⟨b, 0, none⟩)] w fun e w' => e = .returned (.bool (mEnd s p sh)) ∧ ∃ n, w' = w.drewN n := by
  have h0 := h.cell0
  have h1 := h.cell1
  have h2 := h.cell2
  cases sh with
  | false =>
    have he : mEnd s p false = ((p : Int) == (s.size : Int)) := by
      unfold mEnd
      rw [Bool.eq_iff_iff]
      simp
      omega
    rw [he]
    clear he
    go_enter Try.func26, Try.ntmps26
    go_wp2_with fail
    go_quiet (fail)
    go_wp2
    go_ret
    exact ⟨rfl, _, rfl⟩
  | true =>
    have he : mEnd s p true = false := rfl
    rw [he]
    clear he
    go_enter Try.func26, Try.ntmps26
    go_wp2_with fail
    go_quiet (fail)
    go_wp2
    go_ret
    exact ⟨rfl, _, rfl⟩

theorem mOut_size (s : ByteArray) (p : Nat) (n : Int) (hn : n ≤ 8) : (mOut s p n).size ≤ 8 := by
  unfold mOut
  split
  · simp; omega
  · simp

/-- '[]byte(d)': its value written out. -/
theorem bytes_run' (W : World) (d : ByteArray) : ∃ cap, Sem.run Try.prog (convert 9 41 (.string d)) W = .ok (.slice (some ⟨W.heap.size, 0, none⟩) d.size cap) (bytesWorld W d) := ⟨_, bytes_run W d⟩

theorem bytes_cell (W : World) (d : ByteArray) (j : Nat) (hj : j < d.size) : (bytesWorld W d).cell? ⟨W.heap.size, j, none⟩ = some (.int .u8 (d[j].toNat : Int)) := by
  unfold bytesWorld
  rw [show W.heap.size = W.drew.heap.size from rfl, World.cell?_alloc_mark W.drew]
  exact bytesRow_at d _ j hj

theorem unit_step (q c k : Nat) (hq : q < 256 ^ k) (hc : c < 256) (hk : k < 8) :
    IntKind.u64.wrap ((q : Int) + IntKind.u64.wrap (((256 ^ k % 2 ^ 64 : Nat) : Int) * (c : Int))) = ((q + 256 ^ k * c : Nat) : Int) := by
  have hp : 256 ^ k * c < 256 ^ (k + 1) := by rw [Nat.pow_succ]; exact Nat.mul_lt_mul_of_pos_left hc (Nat.pow_pos (by omega))
  have hs : q + 256 ^ k * c < 256 ^ (k + 1) := by
    have : 256 ^ k * c ≤ 256 ^ k * 255 := Nat.mul_le_mul_left _ (by omega)
    rw [Nat.pow_succ]
    omega
  have hle : 256 ^ (k + 1) ≤ 256 ^ 8 := Nat.pow_le_pow_right (by omega) (by omega)
  have hlt : 256 ^ k < 256 ^ 8 := Nat.pow_lt_pow_right (by omega) (by omega)
  have h64 : (256 : Nat) ^ 8 = 18446744073709551616 := by decide
  rw [h64] at hle hlt
  rw [show (2 : Nat) ^ 64 = 18446744073709551616 from by decide, Nat.mod_eq_of_lt hlt, IntKind.wrap_u64, IntKind.wrap_u64, ← Int.natCast_mul]
  generalize 256 ^ k * c = t at hp hs ⊢
  generalize 256 ^ (k + 1) = u at hp hs hle
  omega

theorem unit_next (k : Nat) : IntKind.u64.wrap (((256 ^ k % 2 ^ 64 : Nat) : Int) * 256) = ((256 ^ (k + 1) % 2 ^ 64 : Nat) : Int) := by
  rw [show (2 : Nat) ^ 64 = 18446744073709551616 from by decide, IntKind.wrap_u64, Nat.pow_succ]
  generalize 256 ^ k = t
  omega

set_option maxHeartbeats 400000 in
theorem refuint_loop (w : World) (b : Nat) (s : ByteArray) (p : Nat) (sh : Bool) (n : Int) (h : Rm w b s p sh) (hp : p ≤ s.size) (hsp : sh = true → p = s.size) (hs : s.size ≤ 2000) (hn : n ≤ 8) :
    Calls Try.prog 23 #[.pointer (some ⟨b, 0, none⟩), .int .i64 n] w fun e w' => e = .returned (.int .u64 (leN (mOut s p n).data.toList)) ∧ Rm w' b s (mAt s p n) (mSh s p sh n) ∧ w.grownBy w' (some b) := by
  obtain ⟨d, hd⟩ : ∃ d, d = mOut s p n := ⟨_, rfl⟩
  have hdl : d.size ≤ 8 := by rw [hd]; exact mOut_size s p n hn
  have h8 : decide (8 < n) = false := by simp; omega
  have H := Lib.hid (refrbytes_any w b s p sh n h hp hsp hs)
  rw [← hd] at H ⊢
  clear hd
  go_enter Try.func23, Try.ntmps23
  go_wp2_with fail
  refine H.out.mono ?_
  rintro e w1 ⟨rfl, hr, hg⟩
  obtain ⟨cap, hcv⟩ := bytes_run' w1 d
  have hbel := (bytes_held w1 d (by unfold maxLen; omega)).2
  have hcell := fun j hj => bytes_cell w1 d j hj
  have HCE := Lib.hid hcell
  clear hcell
  go_wp2_with fail
  go_loop [5, 6, 16] (fun m u i => ∃ k : Nat, k ≤ d.size ∧ i = .int .i64 k ∧ m = .int .u64 ((leN (d.data.toList.take k) : Nat) : Int) ∧ u = .int .u64 ((256 ^ k % 2 ^ 64 : Nat) : Int)) (fun _ _ i => d.size - (intOf i).toNat)
  case atStart => exact ⟨0, Nat.zero_le _, rfl, rfl, rfl⟩
  case round =>
    obtain ⟨k, hk, rfl, rfl, rfl⟩ := hrel
    obtain ⟨q, hq⟩ : ∃ q : Nat, q = leN (d.data.toList.take k) := ⟨_, rfl⟩
    obtain ⟨u, hu⟩ : ∃ u : Nat, u = 256 ^ k % 2 ^ 64 := ⟨_, rfl⟩
    rw [← hq, ← hu]
    have HQ := Lib.hid hq
    have HU := Lib.hid hu
    clear hq hu
    by_cases hlt : k < d.size
    · have hc := HCE.out k hlt
      obtain ⟨c, hcc⟩ : ∃ c : Nat, c = d[k].toNat := ⟨_, rfl⟩
      rw [← hcc] at hc
      have hcb : c < 256 := by rw [hcc]; exact d[k].toNat_lt
      have HC := Lib.hid hcc
      clear hcc
      have hqb : q < 256 ^ k := by
        rw [HQ.out]
        have := leN_lt (d.data.toList.take k)
        rwa [List.length_take, Nat.min_eq_left (by simpa using Nat.le_of_lt hlt)] at this
      have st := unit_step q c k hqb hcb (by omega)
      have nx := unit_next k
      rw [← HU.out] at st nx
      have ST := Lib.hid st
      have NX := Lib.hid nx
      clear st nx hqb
      go_wp2
      go_roundw
      case rel => exact ⟨k + 1, by omega, by go_num, by rw [ST.out, leN_take_succ d k hlt, HQ.out, HC.out], by rw [NX.out]⟩
      case measure => simp [intOf]; omega
    · have hall : leN d.data.toList = q := by rw [HQ.out, List.take_of_length_le (by simp; omega)]
      have HA := Lib.hid hall
      clear hall
      go_wp2
      go_ret
      exact ⟨ret_int (by rw [HA.out]), hr.below (hbel.mono (Nat.le_refl _)), grown_trans hg ⟨hbel.os, hbel.tape, hbel.output, hbel.size, fun k hk _ => hbel.block k hk⟩⟩

theorem refuint_any (w : World) (b : Nat) (s : ByteArray) (p : Nat) (sh : Bool) (n : Int) (h : Rm w b s p sh) (hp : p ≤ s.size) (hsp : sh = true → p = s.size) (hs : s.size ≤ 2000) :
    Calls Try.prog 23 #[.pointer (some ⟨b, 0, none⟩), .int .i64 n] w fun e w' => e = .returned (.int .u64 (leN (mOut s p (wd n)).data.toList)) ∧ Rm w' b s (mAt s p (wd n)) (mSh s p sh (wd n)) ∧ w.grownBy w' (some b) := by
  by_cases hn : 8 < n
  · have ew : wd n = -1 := by simp [wd, hn]
    have hf : mOk s p (-1) = false := by simp [mOk]
    have e1 : mOut s p (-1) = ByteArray.empty := by simp [mOut, hf]
    rw [ew, e1]
    have hc := refrbytes_any w b s p sh (-1) h hp hsp hs
    rw [e1] at hc
    have H := Lib.hid hc
    have h8 : decide (8 < n) = true := by simp; omega
    clear hc e1 hf ew
    go_enter Try.func23, Try.ntmps23
    go_wp2_with fail
    refine H.out.mono ?_
    rintro e w1 ⟨rfl, hr, hg⟩
    obtain ⟨cap, hcv⟩ := bytes_run' w1 ByteArray.empty
    have hbel := (bytes_held w1 ByteArray.empty (by decide)).2
    go_wp2_with fail
    refine wp_loop_rounds 1 ?_
    rw [rounds_succ]
    go_wp2
    go_ret
    exact ⟨rfl, hr.below (hbel.mono (Nat.le_refl _)), grown_trans hg ⟨hbel.os, hbel.tape, hbel.output, hbel.size, fun k hk _ => hbel.block k hk⟩⟩
  · have ew : wd n = n := by simp [wd, hn]
    rw [ew]
    exact refuint_loop w b s p sh n h hp hsp hs (by omega)

end Go.Proofs.Ytickcajihaejkaa
