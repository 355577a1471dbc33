/-
  Messages out of bytes, as le's reader hands them out: plain mathematics, nothing of the program's text.
-/
import Derived.Test.YtickcajihaejkaaDoorMsg
import Derived.Test.YtickcajihaejkaaDoorRead
import Derived.Test.YtickcajihaejkaaDoorBGet
namespace Go.Proofs.YtickcajihaejkaaDoor
open Go.RowKit

theorem size_list (s : ByteArray) : s.size = s.data.toList.length := by rw [Array.length_toList]; rfl
theorem ext_take (s : ByteArray) (n : Nat) : (s.extract 0 n).data.toList = s.data.toList.take n := by
  rw [ByteArray.data_extract]; simp
theorem ext_drop (s : ByteArray) (n : Nat) : (s.extract n s.size).data.toList = s.data.toList.drop n := by
  rw [ByteArray.data_extract]
  show (s.data.extract n s.data.size).toList = _
  simp only [Array.toList_extract, List.extract_eq_take_drop]
  exact List.take_of_length_le (by rw [List.length_drop, Array.length_toList]; exact Nat.le_refl _)

/-- Just N bytes are left, and the reader isn't short. -/
def Exact (s : ByteArray) (sh : Bool) (N : Nat) : Prop := sh = false ∧ s.size = N

theorem rd_yes {s : ByteArray} {n : Nat} (h : n ≤ s.size) (sh : Bool) : rdOut s n = s.extract 0 n ∧ rdLeft s n = s.extract n s.size ∧ rdShort s sh n = sh := by
  have hok : rdOk s n = true := by unfold rdOk; simp; omega
  simp [rdOut, rdLeft, rdShort, hok]
theorem rd_no {s : ByteArray} {n : Int} (h : n < 0 ∨ (s.size : Int) < n) (sh : Bool) : rdOut s n = ByteArray.empty ∧ rdLeft s n = ByteArray.empty ∧ rdShort s sh n = true := by
  have hok : rdOk s n = false := by unfold rdOk; simp; omega
  simp [rdOut, rdLeft, rdShort, hok]

theorem exact_step {s : ByteArray} {sh : Bool} {n N : Nat} : Exact (rdLeft s n) (rdShort s sh n) N ↔ Exact s sh (n + N) := by
  by_cases h : n ≤ s.size
  · obtain ⟨_, h2, h3⟩ := rd_yes h sh
    unfold Exact
    rw [h2, h3]
    simp
    omega
  · obtain ⟨_, _, h3⟩ := rd_no (s := s) (n := n) (.inr (by omega)) sh
    unfold Exact
    rw [h3]
    simp
    intro _
    omega

theorem exact_cut {s : ByteArray} {sh : Bool} {n N : Nat} (h : Exact s sh (n + N)) : s.data.toList = (rdOut s n).data.toList ++ (rdLeft s n).data.toList ∧ (rdOut s n).data.toList.length = n := by
  have hn : n ≤ s.size := by have := h.2; omega
  obtain ⟨h1, h2, _⟩ := rd_yes hn sh
  rw [h1, h2, ext_take, ext_drop, List.take_append_drop, List.length_take, ← size_list]
  exact ⟨rfl, by omega⟩

theorem exact_end (s : ByteArray) (sh : Bool) : (!sh && s.toList.isEmpty) = true ↔ Exact s sh 0 := by
  unfold Exact
  rw [Bool.and_eq_true, Go.ByteArray.toList_eq, List.isEmpty_iff, ← List.length_eq_zero_iff, ← size_list]
  simp

theorem exact_nil {s : ByteArray} {sh : Bool} (h : Exact s sh 0) : s.data.toList = [] := List.eq_nil_of_length_eq_zero (by rw [← size_list]; exact h.2)

/-- So many bytes; noughts behind those that are there. -/
def padTo (n : Nat) (l : List UInt8) : List UInt8 := l ++ List.replicate (n - l.length) 0
theorem padTo_length {n : Nat} {l : List UInt8} (h : l.length ≤ n) : (padTo n l).length = n := by simp [padTo]; omega
theorem padTo_full {n : Nat} {l : List UInt8} (h : l.length = n) : padTo n l = l := by simp [padTo, h]
theorem rdOut_le (s : ByteArray) (n : Nat) : (rdOut s n).data.toList.length ≤ n := by
  rw [← size_list]
  unfold rdOut
  split
  · simp; omega
  · simp

theorem leN_b {l : List UInt8} {n : Nat} (h : l.length ≤ n) : leN l < 256 ^ n := Nat.lt_of_lt_of_le (leN_lt l) (Nat.pow_le_pow_right (by omega) h)
theorem leB_back {l : List UInt8} {n : Nat} (h : l.length = n) : leB (leN l) n = l := by rw [← h, leB_leN]

/-- The head of what is decoded. -/
theorem dec_head {s : ByteArray} {M0 : Msg} (h0 : M0.Ranged) (e : msgB M0 = s.data.toList) : leN (rdOut s (1 : Nat)).data.toList = M0.k.toNat := by
  have hl : 1 ≤ s.size := by rw [size_list, ← e, msgB_length h0]; omega
  rw [(rd_yes hl false).1, ext_take, ← e, msgB_head h0]

/-- What a decoding comes to. -/
theorem dec_fin {s : List UInt8} {M : Msg} {E : Bool} (hf : M.Fits) (hS : E = true → msgGood M = true → msgB M = s) (hC : ∀ M0 : Msg, M0.Ranged → msgGood M0 = true → msgB M0 = s → E = true ∧ M = M0) :
    ((E && msgGood M) = true → Reads s (some M)) ∧ ((E && msgGood M) = false → Reads s none) := by
  refine ⟨fun h => ?_, fun h M0 hg0 hf0 e0 => ?_⟩
  · rw [Bool.and_eq_true] at h
    exact ⟨h.2, hf, hS h.1 h.2⟩
  · obtain ⟨h1, h2⟩ := hC M0 (msg_ranged hg0 hf0) hg0 e0
    rw [h1, h2, hg0] at h
    cases h

/-- Blocks and votes. -/
theorem dec_bytes {s : ByteArray} {K S m b : Nat} {o1 o2 o3 o4 o5 o6 : List UInt8} (e : s.data.toList = o1 ++ (o2 ++ (o3 ++ (o4 ++ (o5 ++ o6))))) (l1 : o1.length = 1) (l2 : o2.length = 4) (l4 : o4.length = 2) (k : (K = 1 ∧ o5.length = 8) ∨ (K = 2 ∧ o5 = []))
    (hK : K = leN o1) (hS : S = leN o2) (hm : m = leN o4) (hb : b = leN o5) : msgB ⟨(K : Int), (S : Int), o3, (m : Int), b, [], o6⟩ = s.data.toList := by
  rw [e]
  unfold msgB msgP msgR
  rw [hK, hS, hm, hb]
  simp only [Int.toNat_natCast]
  rcases k with ⟨k, l5⟩ | ⟨k, rfl⟩
  · rw [hK] at k
    rw [if_pos (by omega), leB_back l1, leB_back l2, leB_back l4, leB_back l5]
    simp
  · rw [hK] at k
    rw [if_neg (by omega), if_pos (by omega), leB_back l1, leB_back l2, leB_back l4]
    simp

theorem dec_bytes3 {s : ByteArray} {K S : Nat} {o1 o2 o3 o4 o6 : List UInt8} {l : List Bool} (e : s.data.toList = o1 ++ (o2 ++ (o3 ++ (o4 ++ o6)))) (l1 : o1.length = 1) (l2 : o2.length = 4) (k : K = 3)
    (hK : K = leN o1) (hS : S = leN o2) (hl : encR l = o4) : msgB ⟨(K : Int), (S : Int), o3, 0, 0, l, o6⟩ = s.data.toList := by
  rw [e]
  unfold msgB msgP msgR
  simp only [Int.toNat_natCast]
  rw [if_neg (by omega), if_neg (by omega), if_pos (by omega), hK, hS, leB_back l1, leB_back l2, hl]
  simp
/-- The decodings of blocks and votes. -/
theorem dec_one (s s1 s2 s3 s4 s5 s6 : ByteArray) (h1 h2 h3 h4 h5 h6 : Bool) (K S m b : Nat) (e1 : rdLeft s (1 : Nat) = s1) (e2 : rdLeft s1 (4 : Nat) = s2) (e3 : rdLeft s2 (32 : Nat) = s3) (e4 : rdLeft s3 (2 : Nat) = s4) (e5 : rdLeft s4 (8 : Nat) = s5) (e6 : rdLeft s5 (16 : Nat) = s6) (f1 : rdShort s false (1 : Nat) = h1) (f2 : rdShort s1 h1 (4 : Nat) = h2) (f3 : rdShort s2 h2 (32 : Nat) = h3) (f4 : rdShort s3 h3 (2 : Nat) = h4) (f5 : rdShort s4 h4 (8 : Nat) = h5) (f6 : rdShort s5 h5 (16 : Nat) = h6)
    (hK : K = leN (rdOut s (1 : Nat)).data.toList) (hS : S = leN (rdOut s1 (4 : Nat)).data.toList) (hm : m = leN (rdOut s3 (2 : Nat)).data.toList) (hb : b = leN (rdOut s4 (8 : Nat)).data.toList) (k : K = 1) :
    (((!h6 && s6.toList.isEmpty) && msgGood ⟨(K : Int), (S : Int), padTo 32 (rdOut s2 (32 : Nat)).data.toList, (m : Int), b, [], padTo 16 (rdOut s5 (16 : Nat)).data.toList⟩) = true → Reads s.data.toList (some ⟨(K : Int), (S : Int), padTo 32 (rdOut s2 (32 : Nat)).data.toList, (m : Int), b, [], padTo 16 (rdOut s5 (16 : Nat)).data.toList⟩)) ∧ (((!h6 && s6.toList.isEmpty) && msgGood ⟨(K : Int), (S : Int), padTo 32 (rdOut s2 (32 : Nat)).data.toList, (m : Int), b, [], padTo 16 (rdOut s5 (16 : Nat)).data.toList⟩) = false → Reads s.data.toList none) := by
  have r3 := rdOut_le s2 32
  have r6 := rdOut_le s5 16
  have q2 := leN_b (rdOut_le s1 4)
  have q4 := leN_b (rdOut_le s3 2)
  have q5 := leN_b (rdOut_le s4 8)
  rw [← hb] at q5
  rw [← hS] at q2
  rw [← hm] at q4
  have hfit : Msg.Fits ⟨(K : Int), (S : Int), padTo 32 (rdOut s2 (32 : Nat)).data.toList, (m : Int), b, [], padTo 16 (rdOut s5 (16 : Nat)).data.toList⟩ := ⟨padTo_length r3, padTo_length r6, Nat.lt_of_lt_of_le q5 (by decide)⟩
  have hrg : Msg.Ranged ⟨(K : Int), (S : Int), padTo 32 (rdOut s2 (32 : Nat)).data.toList, (m : Int), b, [], padTo 16 (rdOut s5 (16 : Nat)).data.toList⟩ := ⟨hfit, by simp only; omega, by simp only; omega, by simp only; omega, fun _ => rfl, fun h => absurd (by simp only; omega) h, fun h => by simp only at h; omega⟩
  have hall : Exact s false 63 → msgB ⟨(K : Int), (S : Int), padTo 32 (rdOut s2 (32 : Nat)).data.toList, (m : Int), b, [], padTo 16 (rdOut s5 (16 : Nat)).data.toList⟩ = s.data.toList := by
    intro E0
    have E1 : Exact s1 h1 62 := by rw [← e1, ← f1]; exact exact_step.2 E0
    obtain ⟨c1, l1⟩ := exact_cut (n := 1) (N := 62) E0
    rw [e1] at c1
    have E2 : Exact s2 h2 58 := by rw [← e2, ← f2]; exact exact_step.2 E1
    obtain ⟨c2, l2⟩ := exact_cut (n := 4) (N := 58) E1
    rw [e2] at c2
    have E3 : Exact s3 h3 26 := by rw [← e3, ← f3]; exact exact_step.2 E2
    obtain ⟨c3, l3⟩ := exact_cut (n := 32) (N := 26) E2
    rw [e3] at c3
    have E4 : Exact s4 h4 24 := by rw [← e4, ← f4]; exact exact_step.2 E3
    obtain ⟨c4, l4⟩ := exact_cut (n := 2) (N := 24) E3
    rw [e4] at c4
    have E5 : Exact s5 h5 16 := by rw [← e5, ← f5]; exact exact_step.2 E4
    obtain ⟨c5, l5⟩ := exact_cut (n := 8) (N := 16) E4
    rw [e5] at c5
    have E6 : Exact s6 h6 0 := by rw [← e6, ← f6]; exact exact_step.2 E5
    obtain ⟨c6, l6⟩ := exact_cut (n := 16) (N := 0) E5
    rw [e6] at c6
    rw [exact_nil E6, List.append_nil] at c6
    rw [padTo_full l3, padTo_full l6]
    exact dec_bytes (by rw [c1, c2, c3, c4, c5, c6]) l1 l2 l4 (.inl ⟨k, l5⟩) hK hS hm hb
  refine dec_fin hfit (fun hE _ => hall ?_) (fun M0 hM0 _ e0 => ?_)
  · have E6 := (exact_end _ _).1 hE
    rw [← e6, ← f6] at E6
    have E5 := exact_step.1 E6
    rw [← e5, ← f5] at E5
    have E4 := exact_step.1 E5
    rw [← e4, ← f4] at E4
    have E3 := exact_step.1 E4
    rw [← e3, ← f3] at E3
    have E2 := exact_step.1 E3
    rw [← e2, ← f2] at E2
    have E1 := exact_step.1 E2
    rw [← e1, ← f1] at E1
    have E0 := exact_step.1 E1
    exact E0
  · have hk0 := dec_head hM0 e0
    rw [← hK, k] at hk0
    have hkk : M0.k = 1 := by have := hM0.k; omega
    have E0 : Exact s false 63 := ⟨rfl, by rw [size_list, ← e0, msgB_length hM0, hkk]; rfl⟩
    refine ⟨?_, msgB_inj hrg hM0 ((hall E0).trans e0.symm)⟩
    have E1 : Exact s1 h1 62 := by rw [← e1, ← f1]; exact exact_step.2 E0
    have E2 : Exact s2 h2 58 := by rw [← e2, ← f2]; exact exact_step.2 E1
    have E3 : Exact s3 h3 26 := by rw [← e3, ← f3]; exact exact_step.2 E2
    have E4 : Exact s4 h4 24 := by rw [← e4, ← f4]; exact exact_step.2 E3
    have E5 : Exact s5 h5 16 := by rw [← e5, ← f5]; exact exact_step.2 E4
    have E6 : Exact s6 h6 0 := by rw [← e6, ← f6]; exact exact_step.2 E5
    exact (exact_end _ _).2 E6

theorem dec_two (s s1 s2 s3 s4 s5 : ByteArray) (h1 h2 h3 h4 h5 : Bool) (K S m : Nat) (e1 : rdLeft s (1 : Nat) = s1) (e2 : rdLeft s1 (4 : Nat) = s2) (e3 : rdLeft s2 (32 : Nat) = s3) (e4 : rdLeft s3 (2 : Nat) = s4) (e5 : rdLeft s4 (16 : Nat) = s5) (f1 : rdShort s false (1 : Nat) = h1) (f2 : rdShort s1 h1 (4 : Nat) = h2) (f3 : rdShort s2 h2 (32 : Nat) = h3) (f4 : rdShort s3 h3 (2 : Nat) = h4) (f5 : rdShort s4 h4 (16 : Nat) = h5)
    (hK : K = leN (rdOut s (1 : Nat)).data.toList) (hS : S = leN (rdOut s1 (4 : Nat)).data.toList) (hm : m = leN (rdOut s3 (2 : Nat)).data.toList) (k : K = 2) :
    (((!h5 && s5.toList.isEmpty) && msgGood ⟨(K : Int), (S : Int), padTo 32 (rdOut s2 (32 : Nat)).data.toList, (m : Int), 0, [], padTo 16 (rdOut s4 (16 : Nat)).data.toList⟩) = true → Reads s.data.toList (some ⟨(K : Int), (S : Int), padTo 32 (rdOut s2 (32 : Nat)).data.toList, (m : Int), 0, [], padTo 16 (rdOut s4 (16 : Nat)).data.toList⟩)) ∧ (((!h5 && s5.toList.isEmpty) && msgGood ⟨(K : Int), (S : Int), padTo 32 (rdOut s2 (32 : Nat)).data.toList, (m : Int), 0, [], padTo 16 (rdOut s4 (16 : Nat)).data.toList⟩) = false → Reads s.data.toList none) := by
  have r3 := rdOut_le s2 32
  have r5 := rdOut_le s4 16
  have q2 := leN_b (rdOut_le s1 4)
  have q4 := leN_b (rdOut_le s3 2)
  rw [← hS] at q2
  rw [← hm] at q4
  have hfit : Msg.Fits ⟨(K : Int), (S : Int), padTo 32 (rdOut s2 (32 : Nat)).data.toList, (m : Int), 0, [], padTo 16 (rdOut s4 (16 : Nat)).data.toList⟩ := ⟨padTo_length r3, padTo_length r5, Nat.two_pow_pos 64⟩
  have hrg : Msg.Ranged ⟨(K : Int), (S : Int), padTo 32 (rdOut s2 (32 : Nat)).data.toList, (m : Int), 0, [], padTo 16 (rdOut s4 (16 : Nat)).data.toList⟩ := ⟨hfit, by simp only; omega, by simp only; omega, by simp only; omega, fun _ => rfl, fun h => rfl, fun h => by simp only at h; omega⟩
  have hall : Exact s false 55 → msgB ⟨(K : Int), (S : Int), padTo 32 (rdOut s2 (32 : Nat)).data.toList, (m : Int), 0, [], padTo 16 (rdOut s4 (16 : Nat)).data.toList⟩ = s.data.toList := by
    intro E0
    have E1 : Exact s1 h1 54 := by rw [← e1, ← f1]; exact exact_step.2 E0
    obtain ⟨c1, l1⟩ := exact_cut (n := 1) (N := 54) E0
    rw [e1] at c1
    have E2 : Exact s2 h2 50 := by rw [← e2, ← f2]; exact exact_step.2 E1
    obtain ⟨c2, l2⟩ := exact_cut (n := 4) (N := 50) E1
    rw [e2] at c2
    have E3 : Exact s3 h3 18 := by rw [← e3, ← f3]; exact exact_step.2 E2
    obtain ⟨c3, l3⟩ := exact_cut (n := 32) (N := 18) E2
    rw [e3] at c3
    have E4 : Exact s4 h4 16 := by rw [← e4, ← f4]; exact exact_step.2 E3
    obtain ⟨c4, l4⟩ := exact_cut (n := 2) (N := 16) E3
    rw [e4] at c4
    have E5 : Exact s5 h5 0 := by rw [← e5, ← f5]; exact exact_step.2 E4
    obtain ⟨c5, l5⟩ := exact_cut (n := 16) (N := 0) E4
    rw [e5] at c5
    rw [exact_nil E5, List.append_nil] at c5
    rw [padTo_full l3, padTo_full l5]
    exact dec_bytes (o5 := []) (by rw [c1, c2, c3, c4, c5]; rfl) l1 l2 l4 (.inr ⟨k, rfl⟩) hK hS hm rfl
  refine dec_fin hfit (fun hE _ => hall ?_) (fun M0 hM0 _ e0 => ?_)
  · have E5 := (exact_end _ _).1 hE
    rw [← e5, ← f5] at E5
    have E4 := exact_step.1 E5
    rw [← e4, ← f4] at E4
    have E3 := exact_step.1 E4
    rw [← e3, ← f3] at E3
    have E2 := exact_step.1 E3
    rw [← e2, ← f2] at E2
    have E1 := exact_step.1 E2
    rw [← e1, ← f1] at E1
    have E0 := exact_step.1 E1
    exact E0
  · have hk0 := dec_head hM0 e0
    rw [← hK, k] at hk0
    have hkk : M0.k = 2 := by have := hM0.k; omega
    have E0 : Exact s false 55 := ⟨rfl, by rw [size_list, ← e0, msgB_length hM0, hkk]; rfl⟩
    refine ⟨?_, msgB_inj hrg hM0 ((hall E0).trans e0.symm)⟩
    have E1 : Exact s1 h1 54 := by rw [← e1, ← f1]; exact exact_step.2 E0
    have E2 : Exact s2 h2 50 := by rw [← e2, ← f2]; exact exact_step.2 E1
    have E3 : Exact s3 h3 18 := by rw [← e3, ← f3]; exact exact_step.2 E2
    have E4 : Exact s4 h4 16 := by rw [← e4, ← f4]; exact exact_step.2 E3
    have E5 : Exact s5 h5 0 := by rw [← e5, ← f5]; exact exact_step.2 E4
    exact (exact_end _ _).2 E5

theorem bad_no {s : ByteArray} {m : Nat} (h : Bad s) (hm : IsLen s.data.toList m) : False := by
  have h1 := hm.size
  have h2 := hm.lo
  have hlen : s.data.toList.length = s.size := Array.length_toList
  rcases h with h | ⟨h0, h⟩
  · omega
  · have hd : s.data.toList.drop (s.size - 1) = [s[s.size - 1]] := by
      rw [List.drop_eq_getElem_cons (by omega), List.drop_of_length_le (by omega)]; rfl
    have hz : leN s.data.toList / 256 ^ (s.size - 1) = 0 := by
      rw [leN_drop, hd]
      simp [leN, h]
    have hpos : 0 < 256 ^ (s.size - 1) := Nat.pow_pos (by omega)
    rw [Nat.div_eq_zero_iff_lt hpos, pow_bytes] at hz
    have : 2 ^ (8 * (s.size - 1)) ≤ 2 ^ m := Nat.pow_le_pow_right (by omega) (by omega)
    omega

/-- What a row's bytes lead to, where one of at most 16 is asked for. -/
def RowOf (o : ByteArray) (l : List Bool) : Prop := (Bad o ∧ l = []) ∨ ∃ q, IsLen o.data.toList q ∧ ((16 < q ∧ l = []) ∨ (q ≤ 16 ∧ l = decR (leN o.data.toList) q))

theorem RowOf.len {o : ByteArray} {l : List Bool} (h : RowOf o l) : l.length ≤ 16 := by
  rcases h with ⟨_, rfl⟩ | ⟨q, _, ⟨_, rfl⟩ | ⟨hq, rfl⟩⟩
  · simp
  · simp
  · rw [dec_length]; exact hq
theorem RowOf.back {o : ByteArray} {l : List Bool} (h : RowOf o l) (hl : l.any id = true) : encR l = o.data.toList := by
  rcases h with ⟨_, rfl⟩ | ⟨q, hq, ⟨_, rfl⟩ | ⟨_, rfl⟩⟩
  · cases hl
  · cases hl
  · exact encR_dec hq
theorem RowOf.own {o : ByteArray} {l r : List Bool} (h : RowOf o l) (hr : encR r = o.data.toList) (h16 : r.length ≤ 16) : l = r := by
  have hi : IsLen o.data.toList r.length := by rw [← hr]; exact isLen_encR r
  rcases h with ⟨hb, _⟩ | ⟨q, hq, ⟨h1, _⟩ | ⟨_, rfl⟩⟩
  · exact (bad_no hb hi).elim
  · have := hq.unique hi; omega
  · have := hq.unique hi
    subst this
    rw [← hr, dec_encR]

theorem good_any3 {M : Msg} (h : msgGood M = true) (k : M.k = 3) : M.l.any id = true := by
  unfold msgGood at h
  rw [Bool.and_eq_true, if_neg (by omega), if_neg (by omega), if_pos k] at h
  simp only [Bool.and_eq_true] at h
  exact h.2.2.2

/-- The decodings of sums. -/
theorem dec_three (s s1 s2 s3 s4 s5 o : ByteArray) (h1 h2 h3 h4 h5 : Bool) (K S n : Nat) (l : List Bool) (e1 : rdLeft s (1 : Nat) = s1) (e2 : rdLeft s1 (4 : Nat) = s2) (e3 : rdLeft s2 (32 : Nat) = s3) (e4 : rdLeft s3 (n : Nat) = s4) (e5 : rdLeft s4 (16 : Nat) = s5)
    (f1 : rdShort s false (1 : Nat) = h1) (f2 : rdShort s1 h1 (4 : Nat) = h2) (f3 : rdShort s2 h2 (32 : Nat) = h3) (f4 : rdShort s3 h3 (n : Nat) = h4) (f5 : rdShort s4 h4 (16 : Nat) = h5)
    (hK : K = leN (rdOut s (1 : Nat)).data.toList) (hS : S = leN (rdOut s1 (4 : Nat)).data.toList) (ho : rdOut s3 (n : Nat) = o) (hl : RowOf o l) (k : K = 3) (hn : n + 16 = s3.size) :
    (((!h5 && s5.toList.isEmpty) && msgGood ⟨(K : Int), (S : Int), padTo 32 (rdOut s2 (32 : Nat)).data.toList, 0, 0, l, padTo 16 (rdOut s4 (16 : Nat)).data.toList⟩) = true → Reads s.data.toList (some ⟨(K : Int), (S : Int), padTo 32 (rdOut s2 (32 : Nat)).data.toList, 0, 0, l, padTo 16 (rdOut s4 (16 : Nat)).data.toList⟩)) ∧
    (((!h5 && s5.toList.isEmpty) && msgGood ⟨(K : Int), (S : Int), padTo 32 (rdOut s2 (32 : Nat)).data.toList, 0, 0, l, padTo 16 (rdOut s4 (16 : Nat)).data.toList⟩) = false → Reads s.data.toList none) := by
  have r3 := rdOut_le s2 32
  have r5 := rdOut_le s4 16
  have q2 := leN_b (rdOut_le s1 4)
  rw [← hS] at q2
  have hfit : Msg.Fits ⟨(K : Int), (S : Int), padTo 32 (rdOut s2 (32 : Nat)).data.toList, 0, 0, l, padTo 16 (rdOut s4 (16 : Nat)).data.toList⟩ := ⟨padTo_length r3, padTo_length r5, Nat.two_pow_pos 64⟩
  have hrg : Msg.Ranged ⟨(K : Int), (S : Int), padTo 32 (rdOut s2 (32 : Nat)).data.toList, 0, 0, l, padTo 16 (rdOut s4 (16 : Nat)).data.toList⟩ := ⟨hfit, by simp only; omega, by simp only; omega, by simp, fun h => absurd (by simp only; omega) h, fun _ => rfl, fun _ => rfl⟩
  have hcut : Exact s false (1 + (4 + (32 + (n + 16)))) → s.data.toList = (rdOut s (1 : Nat)).data.toList ++ ((rdOut s1 (4 : Nat)).data.toList ++ ((rdOut s2 (32 : Nat)).data.toList ++ (o.data.toList ++ (rdOut s4 (16 : Nat)).data.toList))) ∧ (rdOut s (1 : Nat)).data.toList.length = 1 ∧ (rdOut s1 (4 : Nat)).data.toList.length = 4 ∧ (rdOut s2 (32 : Nat)).data.toList.length = 32 ∧ o.data.toList.length = n ∧ (rdOut s4 (16 : Nat)).data.toList.length = 16 ∧ Exact s5 h5 0 := by
    intro E0
    have E1 : Exact s1 h1 (4 + (32 + (n + 16))) := by rw [← e1, ← f1]; exact exact_step.2 E0
    have E2 : Exact s2 h2 (32 + (n + 16)) := by rw [← e2, ← f2]; exact exact_step.2 E1
    have E3 : Exact s3 h3 (n + 16) := by rw [← e3, ← f3]; exact exact_step.2 E2
    have E4 : Exact s4 h4 (16 + 0) := by rw [← e4, ← f4]; exact exact_step.2 E3
    have E5 : Exact s5 h5 0 := by rw [← e5, ← f5]; exact exact_step.2 E4
    obtain ⟨c1, l1⟩ := exact_cut E0
    obtain ⟨c2, l2⟩ := exact_cut E1
    obtain ⟨c3, l3⟩ := exact_cut E2
    obtain ⟨c4, l4⟩ := exact_cut E3
    obtain ⟨c5, l5⟩ := exact_cut E4
    rw [e1] at c1
    rw [e2] at c2
    rw [e3] at c3
    rw [e4, ho] at c4
    rw [e5, exact_nil E5, List.append_nil] at c5
    rw [ho] at l4
    exact ⟨by rw [c1, c2, c3, c4, c5], l1, l2, l3, l4, l5, E5⟩
  refine dec_fin hfit (fun hE hg => ?_) (fun M0 hM0 hg0 e0 => ?_)
  · have E5 := (exact_end _ _).1 hE
    rw [← e5, ← f5] at E5
    have E4 := exact_step.1 E5
    rw [← e4, ← f4] at E4
    have E3 := exact_step.1 E4
    rw [← e3, ← f3] at E3
    have E2 := exact_step.1 E3
    rw [← e2, ← f2] at E2
    have E1 := exact_step.1 E2
    rw [← e1, ← f1] at E1
    have E0 := exact_step.1 E1
    obtain ⟨c, l1, l2, l3, _, l5, _⟩ := hcut E0
    rw [padTo_full l3, padTo_full l5]
    exact dec_bytes3 c l1 l2 k hK hS (hl.back (good_any3 hg (by simp only; omega)))
  · have hk0 := dec_head hM0 e0
    rw [← hK, k] at hk0
    have hkk : M0.k = 3 := by have := hM0.k; omega
    have hsz : s.size = 53 + (M0.l.length / 8 + 1) := by rw [size_list, ← e0, msgB_length hM0, hkk]; rfl
    have hnn : n = M0.l.length / 8 + 1 := by
      have E0 : Exact s false (1 + (4 + (32 + ((M0.l.length / 8 + 1) + 16)))) := ⟨rfl, by omega⟩
      have E1 : Exact s1 h1 (4 + (32 + ((M0.l.length / 8 + 1) + 16))) := by rw [← e1, ← f1]; exact exact_step.2 E0
      have E2 : Exact s2 h2 (32 + ((M0.l.length / 8 + 1) + 16)) := by rw [← e2, ← f2]; exact exact_step.2 E1
      have E3 : Exact s3 h3 ((M0.l.length / 8 + 1) + 16) := by rw [← e3, ← f3]; exact exact_step.2 E2
      have := E3.2
      omega
    obtain ⟨c, l1, l2, l3, l4, l5, E5⟩ := hcut ⟨rfl, by omega⟩
    refine ⟨(exact_end _ _).2 E5, msgB_inj hrg hM0 ?_⟩
    have e1' := e0
    rw [c] at e1'
    unfold msgB msgP msgR at e1'
    rw [if_neg (by omega), if_neg (by omega), if_pos hkk] at e1'
    simp only [List.append_assoc] at e1'
    obtain ⟨_, e1'⟩ := List.append_inj e1' (by rw [leB_length, l1])
    obtain ⟨_, e1'⟩ := List.append_inj e1' (by rw [leB_length, l2])
    obtain ⟨_, e1'⟩ := List.append_inj e1' (by rw [hM0.fits.T, l3])
    obtain ⟨e4', _⟩ := List.append_inj e1' (by rw [encR_length, l4]; omega)
    have hlr := hl.own e4' (msg_bits hg0)
    rw [padTo_full l3, padTo_full l5, e0]
    exact dec_bytes3 c l1 l2 k hK hS (by rw [hlr]; exact e4')

/-- Too few bytes for a tag behind the row. -/
theorem dec_short (s s1 s2 s3 : ByteArray) (h1 h2 h3 : Bool) (K : Nat) (e1 : rdLeft s (1 : Nat) = s1) (e2 : rdLeft s1 (4 : Nat) = s2) (e3 : rdLeft s2 (32 : Nat) = s3)
    (f1 : rdShort s false (1 : Nat) = h1) (f2 : rdShort s1 h1 (4 : Nat) = h2) (f3 : rdShort s2 h2 (32 : Nat) = h3) (hK : K = leN (rdOut s (1 : Nat)).data.toList) (k : K = 3) (hn : s3.size < 16) : Reads s.data.toList none := by
  intro M0 hg0 hf0 e0
  have hM0 := msg_ranged hg0 hf0
  have hk0 := dec_head hM0 e0
  rw [← hK, k] at hk0
  have hkk : M0.k = 3 := by have := hM0.k; omega
  have hsz : s.size = 53 + (M0.l.length / 8 + 1) := by rw [size_list, ← e0, msgB_length hM0, hkk]; rfl
  have E0 : Exact s false (1 + (4 + (32 + ((M0.l.length / 8 + 1) + 16)))) := ⟨rfl, by omega⟩
  have E1 : Exact s1 h1 (4 + (32 + ((M0.l.length / 8 + 1) + 16))) := by rw [← e1, ← f1]; exact exact_step.2 E0
  have E2 : Exact s2 h2 (32 + ((M0.l.length / 8 + 1) + 16)) := by rw [← e2, ← f2]; exact exact_step.2 E1
  have E3 : Exact s3 h3 ((M0.l.length / 8 + 1) + 16) := by rw [← e3, ← f3]; exact exact_step.2 E2
  have := E3.2
  omega

/-- No kind. -/
theorem dec_other (s : ByteArray) (K : Nat) (hK : K = leN (rdOut s (1 : Nat)).data.toList) (k : K ≠ 1 ∧ K ≠ 2 ∧ K ≠ 3) : Reads s.data.toList none := by
  intro M0 hg0 hf0 e0
  have hM0 := msg_ranged hg0 hf0
  have hk0 := dec_head hM0 e0
  rw [← hK] at hk0
  have := hM0.k
  omega
end Go.Proofs.YtickcajihaejkaaDoor
