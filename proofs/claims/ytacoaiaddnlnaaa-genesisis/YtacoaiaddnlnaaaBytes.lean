/-
  What genesis.Bytes and genesis.Epoch answer, of a configuration that can be.
-/
import Derived.Test.YtacoaiaddnlnaaaPutAll
namespace Go.Proofs.Ytacoaiaddnlnaaa
open Go.RowKit

/-- The numbers' bytes; the configuration's. -/
def numsB (l : List (Int × Int)) : List UInt8 := l.flatMap fun p => leB p.1.toNat 4
def cfgB (l : List (Int × Int)) (vs : List (Int × ByteArray)) : List UInt8 := numsB l ++ valsB vs

theorem numsB_length (l : List (Int × Int)) : (numsB l).length = l.length * 4 := by
  induction l with
  | nil => rfl
  | cons v r ih => simp only [numsB, List.flatMap_cons, List.length_append, List.length_cons, leB_length] at ih ⊢; omega
theorem numsB_snoc (l : List (Int × Int)) (j : Nat) (v : Int × Int) (h : l[j]? = some v) : numsB (l.take (j + 1)) = numsB (l.take j) ++ leB v.1.toNat 4 := by
  rw [List.take_add_one, h]
  simp [numsB]
theorem goodL_mem {l : List (Int × Int)} (h : goodL l = true) {v : Int × Int} (hv : v ∈ l) : 1 ≤ v.1 ∧ v.1 ≤ v.2 := by
  have := List.all_eq_true.1 h v hv
  simpa using this
theorem totFrom_can : ∀ (vs : List (Int × ByteArray)) (z : Int), (totFrom z vs).isSome = true → ∀ v ∈ vs, can v = true
  | [], _, _, v, hv => by cases hv
  | u :: r, z, h, v, hv => by
    rw [totFrom] at h
    split at h
    · rename_i hc
      rcases List.mem_cons.1 hv with rfl | hv
      · exact hc.1
      · exact totFrom_can r _ h v hv
    · simp at h
theorem goodB_can {l : List (Int × Int)} {vs : List (Int × ByteArray)} (h : goodB l vs = true) : ∀ v ∈ vs, can v = true := by
  simp only [goodB, Bool.and_eq_true] at h
  exact totFrom_can vs 0 h.2
theorem goodB_nums {l : List (Int × Int)} {vs : List (Int × ByteArray)} (h : goodB l vs = true) {v : Int × Int} (hv : v ∈ l) : 1 ≤ v.1 ∧ v.1 ≤ v.2 := by
  simp only [goodB, Bool.and_eq_true] at h
  exact goodL_mem h.1 hv
/-- No number's most is above 2^20. -/
theorem nums_most {len : Nat} {n1 n2 n3 n4 n5 n6 n7 n8 n9 n10 n11 : Int} {v : Int × Int} (hv : v ∈ nums len n1 n2 n3 n4 n5 n6 n7 n8 n9 n10 n11) : v.2 ≤ 1048576 := by
  simp only [nums, List.mem_cons, List.not_mem_nil, or_false] at hv
  rcases hv with rfl | rfl | rfl | rfl | rfl | rfl | rfl | rfl | rfl | rfl | rfl | rfl <;> simp <;> omega
theorem good_len {nlen : Nat} {n1 n2 n3 n4 n5 n6 n7 n8 n9 n10 n11 : Int} {vs : List (Int × ByteArray)} (h : goodB (nums nlen n1 n2 n3 n4 n5 n6 n7 n8 n9 n10 n11) vs = true) : nlen ≤ 64 ∧ 1 ≤ nlen := by
  have := goodB_nums h (v := ((nlen : Int), 64)) (by simp [nums])
  simp at this
  omega

set_option maxHeartbeats 2000000 in
theorem bytes_any (w : World) (nao : Option Addr) (nlen ncap b off : Nat) (n1 n2 n3 n4 n5 n6 n7 n8 n9 n10 n11 : Int) (vs : List (Int × ByteArray)) (hl : vs.length = nlen) (hst : Stakes vs) (hgood : goodB (nums nlen n1 n2 n3 n4 n5 n6 n7 n8 n9 n10 n11) vs = true) (hs : Lies w w.heap.size nao b off (vc vs)) :
    Calls Try.prog 14 #[.agg #[.slice nao nlen ncap, .int .i64 n1, .int .i64 n2, .int .i64 n3, .int .i64 n4, .int .i64 n5, .int .i64 n6, .int .i64 n7, .int .i64 n8, .int .i64 n9, .int .i64 n10, .int .i64 n11]] w fun e w' => e = .returned (.string ⟨(cfgB (nums nlen n1 n2 n3 n4 n5 n6 n7 n8 n9 n10 n11) vs).toArray⟩) ∧ Below w.heap.size w w' := by
  have HS := Lib.hid hs
  have HL := Lib.hid hl
  have HST := Lib.hid hst
  have HGD := Lib.hid hgood
  have HLE := Lib.hid (good_len hgood)
  have hB0 := (Below.refl w.heap.size w).alloc (Nat.le_refl _) (.cells #[.slice nao nlen ncap, .int .i64 n1, .int .i64 n2, .int .i64 n3, .int .i64 n4, .int .i64 n5, .int .i64 n6, .int .i64 n7, .int .i64 n8, .int .i64 n9, .int .i64 n10, .int .i64 n11] 24)
  have hk0 := Blk.new w 24 #[.slice nao nlen ncap, .int .i64 n1, .int .i64 n2, .int .i64 n3, .int .i64 n4, .int .i64 n5, .int .i64 n6, .int .i64 n7, .int .i64 n8, .int .i64 n9, .int .i64 n10, .int .i64 n11]
  have HB0 := Lib.hid hB0
  have HK0 := Lib.hid hk0
  clear hs hl hst hB0 hk0 hgood
  go_enter Try.func14, Try.ntmps14
  go_wp2_with fail
  refine (numbers_any _ nao nlen ncap n1 n2 n3 n4 n5 n6 n7 n8 n9 n10 n11).mono ?_
  rintro e w1 ⟨g, rfl, hg, hb1⟩
  have HK := Lib.hid (HK0.out.below hb1 (by simp))
  have HB := Lib.hid (HB0.out.trans (hb1.mono HB0.out.size))
  have HG := Lib.hid hg
  have HLM := Lib.hid (fun (v : Int × Int) (hv : v ∈ nums nlen n1 n2 n3 n4 n5 n6 n7 n8 n9 n10 n11) => (⟨goodB_nums HGD.out hv, nums_most hv⟩ : _ ∧ _))
  obtain ⟨L, hLL⟩ : ∃ L, L = nums nlen n1 n2 n3 n4 n5 n6 n7 n8 n9 n10 n11 := ⟨_, rfl⟩
  have hlen : L.length = 12 := by rw [hLL]; rfl
  rw [← hLL] at HG HLM
  have HLL := Lib.hid hLL
  have HLen := Lib.hid hlen
  generalize w.heap.size = A at HK ⊢
  clear hLL hlen hg hb1 HK0 HB0
  go_wp2_with fail
  go_loopw [3, 9] (fun u i wr => ∃ (j : Nat), j ≤ 12 ∧ i = .int .i64 j ∧ Hid (j = 0 → u = .slice none 0 0) ∧ Hid (Held wr w1.heap.size u (bv (numsB (L.take j)))) ∧ Hid (Below w1.heap.size w1 wr)) (fun _ i _ => 12 - (intOf i).toNat)
  case atStart => exact ⟨0, Nat.zero_le _, rfl, Lib.hid fun _ => rfl, Lib.hid (by simpa [numsB, bv] using Held.nil w1 w1.heap.size), Lib.hid (Below.refl _ _)⟩
  case round =>
    obtain ⟨j, hj, rfl, H0, HH, HBel⟩ := hrel
    by_cases hlt : j < 12
    · obtain ⟨v, hv⟩ : ∃ v, L[j]? = some v := ⟨_, List.getElem?_eq_getElem (by rw [HLen.out]; exact hlt)⟩
      obtain ⟨c0, c1⟩ := HG.out.num HBel.out hv
      obtain ⟨hm1, hm2⟩ := HLM.out v (List.mem_of_getElem? hv)
      have HSn := Lib.hid (numsB_snoc L j v hv)
      obtain ⟨x, m⟩ := v
      simp only at c0 c1 hm1 hm2
      obtain ⟨X, rfl⟩ : ∃ X : Nat, x = X := ⟨x.toNat, by omega⟩
      have hu1 : IntKind.u64.wrap (X : Int) = (X : Int) := by rw [IntKind.wrap_u64]; omega
      have HT4 := Lib.hid (show leB ((X : Int), m).1.toNat 4 = leB X 4 by simp)
      have HNL := Lib.hid (show (numsB (L.take j)).length ≤ 48 by rw [numsB_length, List.length_take]; omega)
      have HH0 := Lib.hid (HH.out.alloc (.cells #[.int .i64 (X : Int), .int .i64 m] 45))
      have HB0 := Lib.hid (HBel.out.alloc HBel.out.size (.cells #[.int .i64 (X : Int), .int .i64 m] 45))
      clear hv
      go_wp2_with fail
      refine (put_mid _ w1.heap.size u3 _ X 4 (by omega) (by omega) HH0.out HB0.out.size (by have := HNL.out; omega)).mono ?_
      rintro e w2 ⟨v2, rfl, hh2, hg2⟩
      have HB2 := Lib.hid (HB0.out.trans (hg2.below HH0.out HB0.out.size))
      have HH2 := Lib.hid hh2
      clear hh2 hg2 c0 c1
      go_wp2_with fail
      go_roundw
      case rel => exact ⟨j + 1, by omega, by go_num, Lib.hid (fun h => absurd h (by omega)), Lib.hid (by rw [HSn.out, HT4.out]; exact HH2.out), HB2⟩
      case measure => simp [intOf]; omega
    · have hjl : j = 12 := by omega
      have HR := Lib.hid (show L.take j = L by rw [hjl, ← HLen.out, List.take_length])
      rw [HR.out] at HH
      have c0 := (HK.out.below HBel.out HK.out.lt).cell 0
      simp only [List.getElem?_cons_zero] at c0
      have HNL := Lib.hid (show (numsB L).length = 48 by rw [numsB_length, HLen.out])
      have HBF := Lib.hid (HB.out.trans (HBel.out.mono HB.out.size))
      clear hjl HR
      go_wp2_with fail
      refine (putAll_any wr w1.heap.size u3 (numsB L) nao nlen ncap b off vs HL.out (by have := HLE.out; omega) HST.out (goodB_can HGD.out) HH.out (by rw [HNL.out]; omega) (by rw [HNL.out]; omega) HBel.out.size ((HS.out.keep HBF.out).more HB.out.size)).mono ?_
      rintro e w2 ⟨v2, rfl, hh2, hb2⟩
      have hs2 := hh2.string (P := Try.prog) 47 9 5 Try.underlying47 Try.underlying5 Try.underlying9
      have HB2 := Lib.hid (HB.out.trans ((HBel.out.trans hb2).mono HB.out.size))
      clear hh2 hb2 c0
      go_wp2_with fail
      go_ret
      rw [← HLL.out]
      exact ⟨rfl, HB2.out⟩

theorem epoch_any (w : World) (nao : Option Addr) (nlen ncap : Nat) (n1 n2 n3 n4 n5 n6 n7 n8 n9 n10 n11 : Int) (slot : Int) (h1 : 1 ≤ n1) (h0 : 0 ≤ slot) (hm : slot ≤ 9223372036854775807) :
    Calls Try.prog 16 #[.agg #[.slice nao nlen ncap, .int .i64 n1, .int .i64 n2, .int .i64 n3, .int .i64 n4, .int .i64 n5, .int .i64 n6, .int .i64 n7, .int .i64 n8, .int .i64 n9, .int .i64 n10, .int .i64 n11], .int .i64 slot] w fun e w' => e = .returned (.int .i64 (slot / n1)) ∧ Below w.heap.size w w' := by
  have HB0 := Lib.hid ((Below.refl w.heap.size w).alloc (Nat.le_refl _) (.cells #[.slice nao nlen ncap, .int .i64 n1, .int .i64 n2, .int .i64 n3, .int .i64 n4, .int .i64 n5, .int .i64 n6, .int .i64 n7, .int .i64 n8, .int .i64 n9, .int .i64 n10, .int .i64 n11] 24))
  have hc1 : ¬ n1 < 1 := by omega
  have hc2 : ¬ n1 = 0 := by omega
  go_enter Try.func16, Try.ntmps16
  go_wp2_with fail
  go_ret
  exact ⟨rfl, HB0.out⟩
end Go.Proofs.Ytacoaiaddnlnaaa
