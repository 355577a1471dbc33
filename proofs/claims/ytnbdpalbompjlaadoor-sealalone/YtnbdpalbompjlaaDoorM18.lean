/-
  The texts Nums0, Good0, RefGood, one behind the other.
-/
import Derived.Test.YtnbdpalbompjlaaDoorM9
import Derived.Test.YtnbdpalbompjlaaDoorBuildRows
/-
  A configuration's numbers, each with the most that it may be: what the reference's Numbers answers.
-/
namespace Go.Proofs.YtnbdpalbompjlaaDoor
open Go.RowKit
set_option maxRecDepth 10000

/-- The numbers, with their most. -/
def nums (len : Nat) (n1 n2 n3 n4 n5 n6 n7 n8 n9 n10 n11 : Int) : List (Int × Int) :=
  [(n1, 32), (n2, min 16 (len : Int)), (n3, 256), (n4, 64), (n5, 64), (n6, 64), (n7, 16), (n8, 256), (n9, 64), (n10, 1048576), (n11, 1048576), ((len : Int), 64)]

/-- Numbers as cells. -/
def nc (l : List (Int × Int)) : List Value := l.flatMap fun p => [Value.int .i64 p.1, Value.int .i64 p.2]
theorem nc_at (l : List (Int × Int)) : ∀ (j : Nat) (v : Int × Int), l[j]? = some v → (nc l)[j * 2]? = some (.int .i64 v.1) ∧ (nc l)[j * 2 + 1]? = some (.int .i64 v.2) := by
  induction l with
  | nil => intro j v h; simp at h
  | cons u r ih =>
    intro j v h
    have e : nc (u :: r) = Value.int .i64 u.1 :: Value.int .i64 u.2 :: nc r := rfl
    cases j with
    | zero => simp at h; subst h; rw [e]; exact ⟨rfl, rfl⟩
    | succ j =>
      simp at h
      have := ih j v h
      rw [e, show (j + 1) * 2 = j * 2 + 1 + 1 by omega, show j * 2 + 1 + 1 + 1 = (j * 2 + 1) + 1 + 1 by omega]
      simpa using this

set_option maxHeartbeats 1000000 in
theorem refNumbers_any (w : World) (nao : Option Addr) (nlen ncap : Nat) (n1 n2 n3 n4 n5 n6 n7 n8 n9 n10 n11 : Int) :
    Calls Tryd.prog 43 #[.agg #[.slice nao nlen ncap, .int .i64 n1, .int .i64 n2, .int .i64 n3, .int .i64 n4, .int .i64 n5, .int .i64 n6, .int .i64 n7, .int .i64 n8, .int .i64 n9, .int .i64 n10, .int .i64 n11]] w fun e w' => ∃ g, e = .returned (.slice (some ⟨g, 0, none⟩) 24 24) ∧ Blk w' g 3 (nc (nums nlen n1 n2 n3 n4 n5 n6 n7 n8 n9 n10 n11)) ∧ Below w.heap.size w w' := by
  have hB := ((Below.refl w.heap.size w).alloc (Nat.le_refl _) (.cells #[.slice nao nlen ncap, .int .i64 n1, .int .i64 n2, .int .i64 n3, .int .i64 n4, .int .i64 n5, .int .i64 n6, .int .i64 n7, .int .i64 n8, .int .i64 n9, .int .i64 n10, .int .i64 n11] 24)).alloc (by simp) (.cells (nc (nums nlen n1 n2 n3 n4 n5 n6 n7 n8 n9 n10 n11)).toArray 3)
  by_cases h16 : (16 : Int) ≤ (nlen : Int)
  · have HM := Lib.hid (show min 16 (nlen : Int) = 16 by omega)
    simp only [nums, HM.out, nc, List.flatMap_cons, List.flatMap_nil, List.cons_append, List.nil_append] at hB ⊢
    have HB := Lib.hid hB
    clear hB
    go_enter Tryd.func43, Tryd.ntmps43
    go_wp2_with fail
    go_ret
    exact ⟨_, rfl, Blk.newAt _ _ _ _ (by simp), HB.out⟩
  · have HM := Lib.hid (show min 16 (nlen : Int) = nlen by omega)
    simp only [nums, HM.out, nc, List.flatMap_cons, List.flatMap_nil, List.cons_append, List.nil_append] at hB ⊢
    have HB := Lib.hid hB
    clear hB
    go_enter Tryd.func43, Tryd.ntmps43
    go_wp2_with fail
    go_ret
    exact ⟨_, rfl, Blk.newAt _ _ _ _ (by simp), HB.out⟩

end Go.Proofs.YtnbdpalbompjlaaDoor

/-
  Which configurations can be.
-/
namespace Go.Proofs.YtnbdpalbompjlaaDoor
open Go.RowKit
set_option maxRecDepth 10000

/-- Every number is from 1 to its most. -/
def goodL (l : List (Int × Int)) : Bool := l.all fun p => decide (1 ≤ p.1) && decide (p.1 ≤ p.2)
/-- The configuration can be. -/
def goodB (l : List (Int × Int)) (vs : List (Int × ByteArray)) : Bool := goodL l && (totFrom 0 vs).isSome

theorem goodL_cons (x m : Int) (r : List (Int × Int)) : goodL ((x, m) :: r) = (decide (1 ≤ x) && decide (x ≤ m) && goodL r) := by simp [goodL]
theorem nums_length (len : Nat) (n1 n2 n3 n4 n5 n6 n7 n8 n9 n10 n11 : Int) : (nums len n1 n2 n3 n4 n5 n6 n7 n8 n9 n10 n11).length = 12 := rfl

/-- The number j, its two cells. -/
theorem Blk.num {w w' : World} {g : Nat} {t : TypeId} {l : List (Int × Int)} {j : Nat} {v : Int × Int} (h : Blk w g t (nc l)) (hb : Below w.heap.size w w') (hv : l[j]? = some v) :
    w'.cell? ⟨g, j * 2, none⟩ = some (.int .i64 v.1) ∧ w'.cell? ⟨g, j * 2 + 1, none⟩ = some (.int .i64 v.2) := by
  have h' := h.below hb h.lt
  obtain ⟨h1, h2⟩ := nc_at l j v hv
  exact ⟨(h'.cell _).trans h1, (h'.cell _).trans h2⟩

theorem goodL_mem {l : List (Int × Int)} (h : goodL l = true) {v : Int × Int} (hv : v ∈ l) : 1 ≤ v.1 ∧ v.1 ≤ v.2 := by
  have := List.all_eq_true.1 h v hv
  simpa using this
theorem totFrom_can : ∀ (vs : List (Int × ByteArray)) (z : Int), (totFrom z vs).isSome = true → ∀ v ∈ vs, can v = true
  | [], _, _, v, hv => by cases hv
  | u :: r, z, h, v, hv => by
    rw [totFrom] at h
    split at h
    · rename_i hc
      rcases List.mem_cons.1 hv with rfl | hv
      · exact hc.1
      · exact totFrom_can r _ h v hv
    · simp at h
theorem goodB_can {l : List (Int × Int)} {vs : List (Int × ByteArray)} (h : goodB l vs = true) : ∀ v ∈ vs, can v = true := by
  simp only [goodB, Bool.and_eq_true] at h
  exact totFrom_can vs 0 h.2
theorem goodB_nums {l : List (Int × Int)} {vs : List (Int × ByteArray)} (h : goodB l vs = true) {v : Int × Int} (hv : v ∈ l) : 1 ≤ v.1 ∧ v.1 ≤ v.2 := by
  simp only [goodB, Bool.and_eq_true] at h
  exact goodL_mem h.1 hv
/-- No number's most is above 2^20. -/
theorem nums_most {len : Nat} {n1 n2 n3 n4 n5 n6 n7 n8 n9 n10 n11 : Int} {v : Int × Int} (hv : v ∈ nums len n1 n2 n3 n4 n5 n6 n7 n8 n9 n10 n11) : v.2 ≤ 1048576 := by
  simp only [nums, List.mem_cons, List.not_mem_nil, or_false] at hv
  rcases hv with rfl | rfl | rfl | rfl | rfl | rfl | rfl | rfl | rfl | rfl | rfl | rfl <;> simp <;> omega
theorem good_len {nlen : Nat} {n1 n2 n3 n4 n5 n6 n7 n8 n9 n10 n11 : Int} {vs : List (Int × ByteArray)} (h : goodB (nums nlen n1 n2 n3 n4 n5 n6 n7 n8 n9 n10 n11) vs = true) : nlen ≤ 64 ∧ 1 ≤ nlen := by
  have := goodB_nums h (v := ((nlen : Int), 64)) (by simp [nums])
  simp at this
  omega

end Go.Proofs.YtnbdpalbompjlaaDoor

/-
  What the reference's Good answers.
-/
namespace Go.Proofs.YtnbdpalbompjlaaDoor
open Go.RowKit
set_option maxRecDepth 10000

theorem below_drewN {B : Nat} {a w : World} (h : Below B a w) (k : Nat) : Below B a (w.drewN k) := ⟨h.os, h.tape, h.output, h.size, h.block⟩

set_option maxHeartbeats 2000000 in
theorem refGood_any (w : World) (nao : Option Addr) (nlen ncap b off : Nat) (n1 n2 n3 n4 n5 n6 n7 n8 n9 n10 n11 : Int) (vs : List (Int × ByteArray)) (hl : vs.length = nlen) (hL : nlen ≤ 1000) (hst : Stakes vs) (hs : Lies w w.heap.size nao b off (vc vs)) :
    Calls Tryd.prog 25 #[.agg #[.slice nao nlen ncap, .int .i64 n1, .int .i64 n2, .int .i64 n3, .int .i64 n4, .int .i64 n5, .int .i64 n6, .int .i64 n7, .int .i64 n8, .int .i64 n9, .int .i64 n10, .int .i64 n11]] w fun e w' => e = .returned (.bool (goodB (nums nlen n1 n2 n3 n4 n5 n6 n7 n8 n9 n10 n11) vs)) ∧ Below w.heap.size w w' := by
  have HS := Lib.hid hs
  have HL := Lib.hid hl
  have HST := Lib.hid hst
  have hB0 := (Below.refl w.heap.size w).alloc (Nat.le_refl _) (.cells #[.slice nao nlen ncap, .int .i64 n1, .int .i64 n2, .int .i64 n3, .int .i64 n4, .int .i64 n5, .int .i64 n6, .int .i64 n7, .int .i64 n8, .int .i64 n9, .int .i64 n10, .int .i64 n11] 24)
  have hk0 := Blk.new w 24 #[.slice nao nlen ncap, .int .i64 n1, .int .i64 n2, .int .i64 n3, .int .i64 n4, .int .i64 n5, .int .i64 n6, .int .i64 n7, .int .i64 n8, .int .i64 n9, .int .i64 n10, .int .i64 n11]
  have HB0 := Lib.hid hB0
  have HK0 := Lib.hid hk0
  clear hs hl hst hB0 hk0
  go_enter Tryd.func25, Tryd.ntmps25
  go_wp2_with fail
  refine (refNumbers_any _ nao nlen ncap n1 n2 n3 n4 n5 n6 n7 n8 n9 n10 n11).mono ?_
  rintro e w1 ⟨g, rfl, hg, hb1⟩
  have HK := Lib.hid (HK0.out.below hb1 (by simp))
  have HB := Lib.hid (HB0.out.trans (hb1.mono HB0.out.size))
  have HG := Lib.hid hg
  obtain ⟨L, hLL⟩ : ∃ L, L = nums nlen n1 n2 n3 n4 n5 n6 n7 n8 n9 n10 n11 := ⟨_, rfl⟩
  have hlen : L.length = 12 := by rw [hLL]; rfl
  rw [← hLL] at HG
  have HLL := Lib.hid hLL
  have HLen := Lib.hid hlen
  generalize w.heap.size = A at HK ⊢
  clear hLL hlen hg hb1 HK0 HB0
  go_wp2_with fail
  go_loopw [4] (fun i wr => ∃ (j k : Nat), j ≤ 12 ∧ Hid (k = j * 2) ∧ i = .int .i64 k ∧ Hid (goodL L = goodL (L.drop j)) ∧ Hid (Below w1.heap.size w1 wr)) (fun i _ => 24 - (intOf i).toNat)
  case atStart => exact ⟨0, 0, Nat.zero_le _, Lib.hid rfl, rfl, Lib.hid rfl, Lib.hid (Below.refl _ _)⟩
  case round =>
    obtain ⟨j, k, hj, HKJ, rfl, HT, HBel⟩ := hrel
    by_cases hlt : j < 12
    · obtain ⟨v, hv⟩ : ∃ v, L[j]? = some v := ⟨_, List.getElem?_eq_getElem (by rw [HLen.out]; exact hlt)⟩
      obtain ⟨c0, c1⟩ := HG.out.num HBel.out hv
      rw [← HKJ.out] at c0 c1
      have k1 : k < 24 := by rw [HKJ.out]; omega
      have k2 : (k : Int) + 1 < 24 := by rw [HKJ.out]; omega
      have k5 : IntKind.i64.wrap ((k : Int) + 1) = (k : Int) + 1 := by rw [IntKind.wrap_i64]; omega
      have k3 : (0 : Int) ≤ (k : Int) + 1 := by omega
      have k4 : ((k : Int) + 1).toNat = k + 1 := by omega
      have HD := Lib.hid (drop_at hv)
      obtain ⟨x, m⟩ := v
      simp only at c0 c1
      have HBF := Lib.hid (HB.out.trans (HBel.out.mono HB.out.size))
      clear hv
      by_cases h1 : x < 1
      · have HR := Lib.hid (show goodB L vs = false by rw [goodB, HT.out, HD.out, goodL_cons, show decide (1 ≤ x) = false by simp; omega]; rfl)
        go_wp2_with fail
        go_quiet (fail)
        go_wp2_with fail
        go_ret
        rw [← HLL.out, HR.out]
        exact ⟨rfl, below_drewN HBF.out _⟩
      · by_cases h2 : m < x
        · have HR := Lib.hid (show goodB L vs = false by rw [goodB, HT.out, HD.out, goodL_cons, show decide (x ≤ m) = false by simp; omega, Bool.and_false]; rfl)
          go_wp2_with fail
          go_quiet (fail)
          go_wp2_with fail
          go_ret
          rw [← HLL.out, HR.out]
          exact ⟨rfl, below_drewN HBF.out _⟩
        · have HR := Lib.hid (show goodL L = goodL (L.drop (j + 1)) by rw [HT.out, HD.out, goodL_cons, show decide (1 ≤ x) = true by simp; omega, show decide (x ≤ m) = true by simp; omega]; rfl)
          go_wp2_with fail
          go_quiet (fail)
          go_wp2_with fail
          go_roundw
          case rel => exact ⟨j + 1, k + 2, by omega, Lib.hid (by rw [HKJ.out]; omega), by go_num, HR, Lib.hid (below_drewN HBel.out _)⟩
          case measure => simp [intOf]; omega
    · have hjl : j = 12 := by omega
      have hkl : k = 24 := by rw [HKJ.out]; omega
      have HR := Lib.hid (show goodL L = true by rw [HT.out, hjl, ← HLen.out, List.drop_length]; rfl)
      have c0 := (HK.out.below HBel.out HK.out.lt).cell 0
      simp only [List.getElem?_cons_zero] at c0
      have HBF := Lib.hid (HB.out.trans (HBel.out.mono HB.out.size))
      subst hkl
      clear hjl
      go_wp2_with fail
      refine (refTotal_any wr nao nlen ncap b off vs HL.out hL HST.out ((HS.out.keep HBF.out).more HBF.out.size)).mono ?_
      rintro e w2 ⟨rfl, hb2⟩
      have HBG := Lib.hid (HBF.out.trans (hb2.mono HBF.out.size))
      clear hb2 c0
      cases ht : totFrom 0 vs with
      | none =>
        have HRR := Lib.hid (show goodB L vs = false by rw [goodB, ht]; simp)
        clear ht
        simp only [totV]
        go_wp2_with fail
        go_ret
        rw [← HLL.out, HRR.out]
        exact ⟨rfl, HBG.out⟩
      | some z =>
        have HRR := Lib.hid (show goodB L vs = true by rw [goodB, ht, HR.out]; rfl)
        clear ht
        simp only [totV]
        go_wp2_with fail
        go_ret
        rw [← HLL.out, HRR.out]
        exact ⟨rfl, HBG.out⟩
end Go.Proofs.YtnbdpalbompjlaaDoor
