/-
  The texts Nums0, RefTot, Good0, RefGood, BRows, one behind the other.
-/
import Derived.Test.YtnbdpalbompjlaaDoorM9
import Derived.Test.YtnbdpalbompjlaaDoorM1
import Derived.Laws.MakeOwn
/-
  A configuration's numbers, each with the most that it may be: what the reference's Numbers answers.
-/
namespace Go.Proofs.YtnbdpalbompjlaaDoor
open Go.RowKit
set_option maxRecDepth 10000

/-- The numbers, with their most. -/
def nums (len : Nat) (n1 n2 n3 n4 n5 n6 n7 n8 n9 n10 n11 : Int) : List (Int × Int) :=
  [(n1, 32), (n2, min 16 (len : Int)), (n3, 256), (n4, 64), (n5, 64), (n6, 64), (n7, 16), (n8, 256), (n9, 64), (n10, 1048576), (n11, 1048576), ((len : Int), 64)]

/-- Numbers as cells. -/
def nc (l : List (Int × Int)) : List Value := l.flatMap fun p => [Value.int .i64 p.1, Value.int .i64 p.2]
theorem nc_at (l : List (Int × Int)) : ∀ (j : Nat) (v : Int × Int), l[j]? = some v → (nc l)[j * 2]? = some (.int .i64 v.1) ∧ (nc l)[j * 2 + 1]? = some (.int .i64 v.2) := by
  induction l with
  | nil => intro j v h; simp at h
  | cons u r ih =>
    intro j v h
    have e : nc (u :: r) = Value.int .i64 u.1 :: Value.int .i64 u.2 :: nc r := rfl
    cases j with
    | zero => simp at h; subst h; rw [e]; exact ⟨rfl, rfl⟩
    | succ j =>
      simp at h
      have := ih j v h
      rw [e, show (j + 1) * 2 = j * 2 + 1 + 1 by omega, show j * 2 + 1 + 1 + 1 = (j * 2 + 1) + 1 + 1 by omega]
      simpa using this

set_option maxHeartbeats 1000000 in
theorem refNumbers_any (w : World) (nao : Option Addr) (nlen ncap : Nat) (n1 n2 n3 n4 n5 n6 n7 n8 n9 n10 n11 : Int) :
    Calls Tryd.prog 43 #[.agg #[.slice nao nlen ncap, .int .i64 n1, .int .i64 n2, .int .i64 n3, .int .i64 n4, .int .i64 n5, .int .i64 n6, .int .i64 n7, .int .i64 n8, .int .i64 n9, .int .i64 n10, .int .i64 n11]] w fun e w' => ∃ g, e = .returned (.slice (some ⟨g, 0, none⟩) 24 24) ∧ Blk w' g 3 (nc (nums nlen n1 n2 n3 n4 n5 n6 n7 n8 n9 n10 n11)) ∧ Below w.heap.size w w' := by
  have hB := ((Below.refl w.heap.size w).alloc (Nat.le_refl _) (.cells #[.slice nao nlen ncap, .int .i64 n1, .int .i64 n2, .int .i64 n3, .int .i64 n4, .int .i64 n5, .int .i64 n6, .int .i64 n7, .int .i64 n8, .int .i64 n9, .int .i64 n10, .int .i64 n11] 24)).alloc (by simp) (.cells (nc (nums nlen n1 n2 n3 n4 n5 n6 n7 n8 n9 n10 n11)).toArray 3)
  by_cases h16 : (16 : Int) ≤ (nlen : Int)
  · have HM := Lib.hid (show min 16 (nlen : Int) = 16 by omega)
    simp only [nums, HM.out, nc, List.flatMap_cons, List.flatMap_nil, List.cons_append, List.nil_append] at hB ⊢
    have HB := Lib.hid hB
    clear hB
    go_enter Tryd.func43, Tryd.ntmps43
    go_wp2_with fail
    go_ret
    exact ⟨_, rfl, Blk.newAt _ _ _ _ (by simp), HB.out⟩
  · have HM := Lib.hid (show min 16 (nlen : Int) = nlen by omega)
    simp only [nums, HM.out, nc, List.flatMap_cons, List.flatMap_nil, List.cons_append, List.nil_append] at hB ⊢
    have HB := Lib.hid hB
    clear hB
    go_enter Tryd.func43, Tryd.ntmps43
    go_wp2_with fail
    go_ret
    exact ⟨_, rfl, Blk.newAt _ _ _ _ (by simp), HB.out⟩

end Go.Proofs.YtnbdpalbompjlaaDoor

/-
  What the reference's Total and Great answer.
-/
namespace Go.Proofs.YtnbdpalbompjlaaDoor
open Go.RowKit
set_option maxRecDepth 10000

set_option maxHeartbeats 1000000 in
theorem refTotal_any (w : World) (ao : Option Addr) (len cap b off : Nat) (vs : List (Int × ByteArray)) (hl : vs.length = len) (hL : len ≤ 1000) (hst : Stakes vs) (hs : Lies w w.heap.size ao b off (vc vs)) :
    Calls Tryd.prog 44 #[.slice ao len cap] w fun e w' => e = .returned (totV (totFrom 0 vs)) ∧ Below w.heap.size w w' := by
  have HS := Lib.hid hs
  have HL := Lib.hid hl
  have HST := Lib.hid hst
  clear hs hl hst
  go_enter Tryd.func44, Tryd.ntmps44
  go_wp2_with fail
  go_loopw [4, 9] (fun s i wr => ∃ (j : Nat) (z : Int), j ≤ len ∧ i = .int .i64 j ∧ s = .int .u64 z ∧ 0 ≤ z ∧ z < 4611686018427387904 ∧ Hid (totFrom z (vs.drop j) = totFrom 0 vs) ∧ Below w.heap.size w wr) (fun _ i _ => len - (intOf i).toNat)
  case atStart => exact ⟨0, 0, Nat.zero_le _, rfl, rfl, Int.le_refl _, by decide, Lib.hid rfl, Below.refl _ _⟩
  case round =>
    obtain ⟨j, z, hj, rfl, rfl, hz0, hz1, HT, hbel⟩ := hrel
    by_cases hlt : j < len
    · obtain ⟨v, hv⟩ : ∃ v, vs[j]? = some v := ⟨_, List.getElem?_eq_getElem (by rw [HL.out]; exact hlt)⟩
      have hr := HST.out v (List.mem_of_getElem? hv)
      obtain ⟨ha, c0, c1⟩ := HS.out.val hbel hv
      have HD := Lib.hid (drop_at hv)
      obtain ⟨x, k⟩ := v
      simp only at c0 c1 hr
      subst ha
      have HB2 := Lib.hid (hbel.alloc hbel.size (.cells #[.int .i64 x, .string k] 59))
      clear hv hbel
      have none_of : can (x, k) = false → totFrom 0 vs = none := fun h => by rw [← HT.out, HD.out, totFrom, if_neg (by simp [h])]
      have NO := Lib.hid none_of
      clear none_of
      by_cases hx0 : x < 0
      · have HR := Lib.hid (NO.out (by simp [can]; omega))
        go_wp2_with fail
        go_ret2
        rw [HR.out]
        exact ⟨rfl, HB2.out⟩
      · by_cases h1 : (k.size : Int) < 1
        · have HR := Lib.hid (NO.out (by simp [can]; omega))
          go_wp2_with fail
          go_ret2
          rw [HR.out]
          exact ⟨rfl, HB2.out⟩
        · by_cases h2 : (32 : Int) < (k.size : Int)
          · have HR := Lib.hid (NO.out (by simp [can]; omega))
            go_wp2_with fail
            go_ret2
            rw [HR.out]
            exact ⟨rfl, HB2.out⟩
          · have HC := Lib.hid (show can (x, k) = true by simp [can]; omega)
            have w1 : IntKind.u64.wrap x = x := by rw [IntKind.wrap_u64]; omega
            have w2 : (z + x) % 18446744073709551616 = z + x := by omega
            by_cases hle : 4611686018427387904 ≤ z + x
            · have HR := Lib.hid (show totFrom 0 vs = none by rw [← HT.out, HD.out, totFrom, if_neg (by simp; omega)])
              go_wp2_with fail
              go_ret2
              rw [HR.out]
              exact ⟨rfl, HB2.out⟩
            · have HR := Lib.hid (show totFrom (z + x) (vs.drop (j + 1)) = totFrom 0 vs by rw [← HT.out, HD.out, totFrom, if_pos ⟨HC.out, by simp; omega⟩])
              go_wp2_with fail
              go_roundw
              case rel => exact ⟨j + 1, z + x, by omega, by go_num, by go_num, by omega, by omega, HR, HB2.out⟩
              case measure => simp [intOf]; omega
    · have hjl : j = len := by omega
      have HR := Lib.hid (show totFrom 0 vs = some z by rw [← HT.out, hjl, ← HL.out, List.drop_length, totFrom])
      have HBel := Lib.hid hbel
      have w1 : IntKind.i64.wrap z = z := by rw [IntKind.wrap_i64]; omega
      clear hjl hbel
      go_wp2_with fail
      go_ret2
      rw [HR.out]
      exact ⟨rfl, HBel.out⟩

/-- More than is played. -/
def tooMuch (vs : List (Int × ByteArray)) : Bool := decide (100 < vs.length) || vs.any fun v => decide (200 < v.2.size)

set_option maxHeartbeats 1000000 in
theorem tooMuch_any (w : World) (nao : Option Addr) (nlen ncap b off : Nat) (n1 n2 n3 n4 n5 n6 n7 n8 n9 n10 n11 : Int) (vs : List (Int × ByteArray)) (hl : vs.length = nlen) (hs : Lies w w.heap.size nao b off (vc vs)) :
    Calls Tryd.prog 24 #[.agg #[.slice nao nlen ncap, .int .i64 n1, .int .i64 n2, .int .i64 n3, .int .i64 n4, .int .i64 n5, .int .i64 n6, .int .i64 n7, .int .i64 n8, .int .i64 n9, .int .i64 n10, .int .i64 n11]] w fun e w' => e = .returned (.bool (tooMuch vs)) ∧ Below w.heap.size w w' := by
  have HS := Lib.hid hs
  have HL := Lib.hid hl
  have HB0 := Lib.hid ((Below.refl w.heap.size w).alloc (Nat.le_refl _) (.cells #[.slice nao nlen ncap, .int .i64 n1, .int .i64 n2, .int .i64 n3, .int .i64 n4, .int .i64 n5, .int .i64 n6, .int .i64 n7, .int .i64 n8, .int .i64 n9, .int .i64 n10, .int .i64 n11] 24))
  clear hs hl
  by_cases h100 : (100 : Int) < (nlen : Int)
  · have HG := Lib.hid (show tooMuch vs = true by simp [tooMuch, HL.out]; omega)
    go_enter Tryd.func24, Tryd.ntmps24
    go_wp2_with fail
    go_ret
    rw [HG.out]
    exact ⟨rfl, HB0.out⟩
  · have hlen : nlen ≤ 100 := by omega
    go_enter Tryd.func24, Tryd.ntmps24
    go_wp2_with fail
    go_loopw [12] (fun i wr => ∃ (j : Nat), j ≤ nlen ∧ i = .int .i64 j ∧ Hid (tooMuch vs = (vs.drop j).any fun v => decide (200 < v.2.size)) ∧ Below w.heap.size w wr) (fun i _ => nlen - (intOf i).toNat)
    case atStart => exact ⟨0, Nat.zero_le _, rfl, Lib.hid (by simp [tooMuch, HL.out]; omega), HB0.out⟩
    case round =>
      obtain ⟨j, hj, rfl, HT, hbel⟩ := hrel
      by_cases hlt : j < nlen
      · obtain ⟨v, hv⟩ : ∃ v, vs[j]? = some v := ⟨_, List.getElem?_eq_getElem (by rw [HL.out]; exact hlt)⟩
        obtain ⟨ha, c0, c1⟩ := HS.out.val hbel hv
        have HD := Lib.hid (drop_at hv)
        obtain ⟨x, k⟩ := v
        simp only at c0 c1
        subst ha
        have HB2 := Lib.hid (hbel.alloc hbel.size (.cells #[.int .i64 x, .string k] 59))
        clear hv hbel
        by_cases h2 : (200 : Int) < (k.size : Int)
        · have HR := Lib.hid (show tooMuch vs = true by rw [HT.out, HD.out, List.any_cons]; simp; left; omega)
          go_wp2_with fail
          go_ret
          rw [HR.out]
          exact ⟨rfl, HB2.out⟩
        · have HR := Lib.hid (show tooMuch vs = (vs.drop (j + 1)).any fun v => decide (200 < v.2.size) by
            rw [HT.out, HD.out, List.any_cons, show decide (200 < (x, k).2.size) = false by simp; omega, Bool.false_or])
          go_wp2_with fail
          go_roundw
          case rel => exact ⟨j + 1, by omega, by go_num, HR, HB2.out⟩
          case measure => simp [intOf]; omega
      · have hjl : j = nlen := by omega
        have HR := Lib.hid (show tooMuch vs = false by rw [HT.out, hjl, ← HL.out, List.drop_length, List.any_nil])
        have HBel := Lib.hid hbel
        clear hjl hbel
        go_wp2_with fail
        go_ret
        rw [HR.out]
        exact ⟨rfl, HBel.out⟩
end Go.Proofs.YtnbdpalbompjlaaDoor

/-
  Which configurations can be.
-/
namespace Go.Proofs.YtnbdpalbompjlaaDoor
open Go.RowKit
set_option maxRecDepth 10000

/-- Every number is from 1 to its most. -/
def goodL (l : List (Int × Int)) : Bool := l.all fun p => decide (1 ≤ p.1) && decide (p.1 ≤ p.2)
/-- The configuration can be. -/
def goodB (l : List (Int × Int)) (vs : List (Int × ByteArray)) : Bool := goodL l && (totFrom 0 vs).isSome

theorem goodL_cons (x m : Int) (r : List (Int × Int)) : goodL ((x, m) :: r) = (decide (1 ≤ x) && decide (x ≤ m) && goodL r) := by simp [goodL]
theorem nums_length (len : Nat) (n1 n2 n3 n4 n5 n6 n7 n8 n9 n10 n11 : Int) : (nums len n1 n2 n3 n4 n5 n6 n7 n8 n9 n10 n11).length = 12 := rfl

/-- The number j, its two cells. -/
theorem Blk.num {w w' : World} {g : Nat} {t : TypeId} {l : List (Int × Int)} {j : Nat} {v : Int × Int} (h : Blk w g t (nc l)) (hb : Below w.heap.size w w') (hv : l[j]? = some v) :
    w'.cell? ⟨g, j * 2, none⟩ = some (.int .i64 v.1) ∧ w'.cell? ⟨g, j * 2 + 1, none⟩ = some (.int .i64 v.2) := by
  have h' := h.below hb h.lt
  obtain ⟨h1, h2⟩ := nc_at l j v hv
  exact ⟨(h'.cell _).trans h1, (h'.cell _).trans h2⟩

theorem goodL_mem {l : List (Int × Int)} (h : goodL l = true) {v : Int × Int} (hv : v ∈ l) : 1 ≤ v.1 ∧ v.1 ≤ v.2 := by
  have := List.all_eq_true.1 h v hv
  simpa using this
theorem totFrom_can : ∀ (vs : List (Int × ByteArray)) (z : Int), (totFrom z vs).isSome = true → ∀ v ∈ vs, can v = true
  | [], _, _, v, hv => by cases hv
  | u :: r, z, h, v, hv => by
    rw [totFrom] at h
    split at h
    · rename_i hc
      rcases List.mem_cons.1 hv with rfl | hv
      · exact hc.1
      · exact totFrom_can r _ h v hv
    · simp at h
theorem goodB_can {l : List (Int × Int)} {vs : List (Int × ByteArray)} (h : goodB l vs = true) : ∀ v ∈ vs, can v = true := by
  simp only [goodB, Bool.and_eq_true] at h
  exact totFrom_can vs 0 h.2
theorem goodB_nums {l : List (Int × Int)} {vs : List (Int × ByteArray)} (h : goodB l vs = true) {v : Int × Int} (hv : v ∈ l) : 1 ≤ v.1 ∧ v.1 ≤ v.2 := by
  simp only [goodB, Bool.and_eq_true] at h
  exact goodL_mem h.1 hv
/-- No number's most is above 2^20. -/
theorem nums_most {len : Nat} {n1 n2 n3 n4 n5 n6 n7 n8 n9 n10 n11 : Int} {v : Int × Int} (hv : v ∈ nums len n1 n2 n3 n4 n5 n6 n7 n8 n9 n10 n11) : v.2 ≤ 1048576 := by
  simp only [nums, List.mem_cons, List.not_mem_nil, or_false] at hv
  rcases hv with rfl | rfl | rfl | rfl | rfl | rfl | rfl | rfl | rfl | rfl | rfl | rfl <;> simp <;> omega
theorem good_len {nlen : Nat} {n1 n2 n3 n4 n5 n6 n7 n8 n9 n10 n11 : Int} {vs : List (Int × ByteArray)} (h : goodB (nums nlen n1 n2 n3 n4 n5 n6 n7 n8 n9 n10 n11) vs = true) : nlen ≤ 64 ∧ 1 ≤ nlen := by
  have := goodB_nums h (v := ((nlen : Int), 64)) (by simp [nums])
  simp at this
  omega

end Go.Proofs.YtnbdpalbompjlaaDoor

/-
  What the reference's Good answers.
-/
namespace Go.Proofs.YtnbdpalbompjlaaDoor
open Go.RowKit
set_option maxRecDepth 10000

theorem below_drewN {B : Nat} {a w : World} (h : Below B a w) (k : Nat) : Below B a (w.drewN k) := ⟨h.os, h.tape, h.output, h.size, h.block⟩

set_option maxHeartbeats 2000000 in
theorem refGood_any (w : World) (nao : Option Addr) (nlen ncap b off : Nat) (n1 n2 n3 n4 n5 n6 n7 n8 n9 n10 n11 : Int) (vs : List (Int × ByteArray)) (hl : vs.length = nlen) (hL : nlen ≤ 1000) (hst : Stakes vs) (hs : Lies w w.heap.size nao b off (vc vs)) :
    Calls Tryd.prog 25 #[.agg #[.slice nao nlen ncap, .int .i64 n1, .int .i64 n2, .int .i64 n3, .int .i64 n4, .int .i64 n5, .int .i64 n6, .int .i64 n7, .int .i64 n8, .int .i64 n9, .int .i64 n10, .int .i64 n11]] w fun e w' => e = .returned (.bool (goodB (nums nlen n1 n2 n3 n4 n5 n6 n7 n8 n9 n10 n11) vs)) ∧ Below w.heap.size w w' := by
  have HS := Lib.hid hs
  have HL := Lib.hid hl
  have HST := Lib.hid hst
  have hB0 := (Below.refl w.heap.size w).alloc (Nat.le_refl _) (.cells #[.slice nao nlen ncap, .int .i64 n1, .int .i64 n2, .int .i64 n3, .int .i64 n4, .int .i64 n5, .int .i64 n6, .int .i64 n7, .int .i64 n8, .int .i64 n9, .int .i64 n10, .int .i64 n11] 24)
  have hk0 := Blk.new w 24 #[.slice nao nlen ncap, .int .i64 n1, .int .i64 n2, .int .i64 n3, .int .i64 n4, .int .i64 n5, .int .i64 n6, .int .i64 n7, .int .i64 n8, .int .i64 n9, .int .i64 n10, .int .i64 n11]
  have HB0 := Lib.hid hB0
  have HK0 := Lib.hid hk0
  clear hs hl hst hB0 hk0
  go_enter Tryd.func25, Tryd.ntmps25
  go_wp2_with fail
  refine (refNumbers_any _ nao nlen ncap n1 n2 n3 n4 n5 n6 n7 n8 n9 n10 n11).mono ?_
  rintro e w1 ⟨g, rfl, hg, hb1⟩
  have HK := Lib.hid (HK0.out.below hb1 (by simp))
  have HB := Lib.hid (HB0.out.trans (hb1.mono HB0.out.size))
  have HG := Lib.hid hg
  obtain ⟨L, hLL⟩ : ∃ L, L = nums nlen n1 n2 n3 n4 n5 n6 n7 n8 n9 n10 n11 := ⟨_, rfl⟩
  have hlen : L.length = 12 := by rw [hLL]; rfl
  rw [← hLL] at HG
  have HLL := Lib.hid hLL
  have HLen := Lib.hid hlen
  generalize w.heap.size = A at HK ⊢
  clear hLL hlen hg hb1 HK0 HB0
  go_wp2_with fail
  go_loopw [4] (fun i wr => ∃ (j k : Nat), j ≤ 12 ∧ Hid (k = j * 2) ∧ i = .int .i64 k ∧ Hid (goodL L = goodL (L.drop j)) ∧ Hid (Below w1.heap.size w1 wr)) (fun i _ => 24 - (intOf i).toNat)
  case atStart => exact ⟨0, 0, Nat.zero_le _, Lib.hid rfl, rfl, Lib.hid rfl, Lib.hid (Below.refl _ _)⟩
  case round =>
    obtain ⟨j, k, hj, HKJ, rfl, HT, HBel⟩ := hrel
    by_cases hlt : j < 12
    · obtain ⟨v, hv⟩ : ∃ v, L[j]? = some v := ⟨_, List.getElem?_eq_getElem (by rw [HLen.out]; exact hlt)⟩
      obtain ⟨c0, c1⟩ := HG.out.num HBel.out hv
      rw [← HKJ.out] at c0 c1
      have k1 : k < 24 := by rw [HKJ.out]; omega
      have k2 : (k : Int) + 1 < 24 := by rw [HKJ.out]; omega
      have k5 : IntKind.i64.wrap ((k : Int) + 1) = (k : Int) + 1 := by rw [IntKind.wrap_i64]; omega
      have k3 : (0 : Int) ≤ (k : Int) + 1 := by omega
      have k4 : ((k : Int) + 1).toNat = k + 1 := by omega
      have HD := Lib.hid (drop_at hv)
      obtain ⟨x, m⟩ := v
      simp only at c0 c1
      have HBF := Lib.hid (HB.out.trans (HBel.out.mono HB.out.size))
      clear hv
      by_cases h1 : x < 1
      · have HR := Lib.hid (show goodB L vs = false by rw [goodB, HT.out, HD.out, goodL_cons, show decide (1 ≤ x) = false by simp; omega]; rfl)
        go_wp2_with fail
        go_quiet (fail)
        go_wp2_with fail
        go_ret
        rw [← HLL.out, HR.out]
        exact ⟨rfl, below_drewN HBF.out _⟩
      · by_cases h2 : m < x
        · have HR := Lib.hid (show goodB L vs = false by rw [goodB, HT.out, HD.out, goodL_cons, show decide (x ≤ m) = false by simp; omega, Bool.and_false]; rfl)
          go_wp2_with fail
          go_quiet (fail)
          go_wp2_with fail
          go_ret
          rw [← HLL.out, HR.out]
          exact ⟨rfl, below_drewN HBF.out _⟩
        · have HR := Lib.hid (show goodL L = goodL (L.drop (j + 1)) by rw [HT.out, HD.out, goodL_cons, show decide (1 ≤ x) = true by simp; omega, show decide (x ≤ m) = true by simp; omega]; rfl)
          go_wp2_with fail
          go_quiet (fail)
          go_wp2_with fail
          go_roundw
          case rel => exact ⟨j + 1, k + 2, by omega, Lib.hid (by rw [HKJ.out]; omega), by go_num, HR, Lib.hid (below_drewN HBel.out _)⟩
          case measure => simp [intOf]; omega
    · have hjl : j = 12 := by omega
      have hkl : k = 24 := by rw [HKJ.out]; omega
      have HR := Lib.hid (show goodL L = true by rw [HT.out, hjl, ← HLen.out, List.drop_length]; rfl)
      have c0 := (HK.out.below HBel.out HK.out.lt).cell 0
      simp only [List.getElem?_cons_zero] at c0
      have HBF := Lib.hid (HB.out.trans (HBel.out.mono HB.out.size))
      subst hkl
      clear hjl
      go_wp2_with fail
      refine (refTotal_any wr nao nlen ncap b off vs HL.out hL HST.out ((HS.out.keep HBF.out).more HBF.out.size)).mono ?_
      rintro e w2 ⟨rfl, hb2⟩
      have HBG := Lib.hid (HBF.out.trans (hb2.mono HBF.out.size))
      clear hb2 c0
      cases ht : totFrom 0 vs with
      | none =>
        have HRR := Lib.hid (show goodB L vs = false by rw [goodB, ht]; simp)
        clear ht
        simp only [totV]
        go_wp2_with fail
        go_ret
        rw [← HLL.out, HRR.out]
        exact ⟨rfl, HBG.out⟩
      | some z =>
        have HRR := Lib.hid (show goodB L vs = true by rw [goodB, ht, HR.out]; rfl)
        clear ht
        simp only [totV]
        go_wp2_with fail
        go_ret
        rw [← HLL.out, HRR.out]
        exact ⟨rfl, HBG.out⟩
end Go.Proofs.YtnbdpalbompjlaaDoor

/-
  Rows of yes and no that lie in memory, as they are read; nothing of the program.
-/
namespace Go.Proofs.YtnbdpalbompjlaaDoor
open Go.RowKit
set_option maxRecDepth 10000

/-- The slice (ao, n) reads as l, in block b from off on. -/
structure BRowAt (w : World) (B : Nat) (ao : Option Addr) (b off : Nat) (l : List Bool) : Prop where
  addr : 0 < l.length → ao = some ⟨b, off, none⟩
  lt : 0 < l.length → b < B
  cells : ∀ j x, l[j]? = some x → w.cell? ⟨b, off + j, none⟩ = some (.bool x)

/-- The value reads as l, in blocks below B. -/
def BRow (w : World) (B : Nat) (v : Value) (l : List Bool) : Prop := ∃ ao cap b off, v = .slice ao l.length cap ∧ l.length ≤ cap ∧ cap ≤ maxLen ∧ BRowAt w B ao b off l

theorem BRowAt.keep {w w' : World} {B b off : Nat} {ao : Option Addr} {l : List Bool} (h : BRowAt w B ao b off l) (hb : Below B w w') : BRowAt w' B ao b off l :=
  ⟨h.addr, h.lt, fun j x hj => by
    have hl : 0 < l.length := by have := (List.getElem?_eq_some_iff.1 hj).1; omega
    exact (hb.cell (p := ⟨b, off + j, none⟩) (h.lt hl)).trans (h.cells j x hj)⟩

theorem BRowAt.more {w : World} {B B' b off : Nat} {ao : Option Addr} {l : List Bool} (h : BRowAt w B ao b off l) (hB : B ≤ B') : BRowAt w B' ao b off l :=
  ⟨h.addr, fun h0 => Nat.lt_of_lt_of_le (h.lt h0) hB, h.cells⟩

theorem BRow.keep {w w' : World} {B : Nat} {v : Value} {l : List Bool} (h : BRow w B v l) (hb : Below B w w') : BRow w' B v l := by
  obtain ⟨ao, cap, b, off, rfl, hc, hm, h⟩ := h
  exact ⟨ao, cap, b, off, rfl, hc, hm, h.keep hb⟩

theorem BRow.more {w : World} {B B' : Nat} {v : Value} {l : List Bool} (h : BRow w B v l) (hB : B ≤ B') : BRow w B' v l := by
  obtain ⟨ao, cap, b, off, rfl, hc, hm, h⟩ := h
  exact ⟨ao, cap, b, off, rfl, hc, hm, h.more hB⟩

theorem BRow.nil (w : World) (B : Nat) : BRow w B (.slice none 0 0) [] :=
  ⟨none, 0, 0, 0, rfl, Nat.le_refl _, Nat.zero_le _, fun h => absurd h (by simp), fun h => absurd h (by simp), fun j x h => by simp at h⟩

theorem Held.brow {w : World} {base : Nat} {v : Value} {l : List Bool} (h : Held w base v (ov l)) : BRow w w.heap.size v l := by
  obtain ⟨n, cap, g, off, ao, rfl, h⟩ := h
  have hl := h.len
  rw [ov_length] at hl
  subst hl
  exact ⟨ao, cap, g, off, rfl, h.le, h.max, fun h0 => h.addr (Nat.lt_of_lt_of_le h0 h.le), fun h0 => h.lt (Nat.lt_of_lt_of_le h0 h.le), fun j x hj => h.cells j _ (ov_at hj)⟩

theorem BRowAt.take {w : World} {B b off : Nat} {ao : Option Addr} {l : List Bool} (h : BRowAt w B ao b off l) (k : Nat) : BRowAt w B ao b off (l.take k) :=
  ⟨fun h0 => h.addr (by rw [List.length_take] at h0; omega), fun h0 => h.lt (by rw [List.length_take] at h0; omega), fun j x hj => h.cells j x (by
    rw [List.getElem?_take] at hj
    split at hj
    · exact hj
    · cases hj)⟩

theorem BRowAt.drop {w : World} {B b off : Nat} {ao : Option Addr} {l : List Bool} (h : BRowAt w B ao b off l) (k : Nat) {ao' : Option Addr} (hao : k < l.length → ao' = some ⟨b, off + k, none⟩) : BRowAt w B ao' b (off + k) (l.drop k) :=
  ⟨fun h0 => hao (by rw [List.length_drop] at h0; omega), fun h0 => h.lt (by rw [List.length_drop] at h0; omega), fun j x hj => by
    rw [List.getElem?_drop] at hj
    rw [Nat.add_assoc]
    exact h.cells _ x hj⟩

/-- A row that was made, in a block of its own. -/
structure BMade (w : World) (g : Nat) (l : List Bool) : Prop where
  lt : g < w.heap.size
  cells : ∀ j x, l[j]? = some x → w.cell? ⟨g, j, none⟩ = some (.bool x)
  free : ∀ j, j < l.length → w.frozen? ⟨g, j, none⟩ = false

theorem bmade_new (w : World) (m : Nat) (e : TypeId) : BMade (w.alloc (.cells (madeCells (Value.bool false).cells m) e)) w.heap.size (List.replicate m false) := by
  have hs : (madeCells (Value.bool false).cells m).size = m := size_madeCells _ _
  refine ⟨by simp, fun j x hj => ?_, fun j hj => ?_⟩
  · rw [World.cell?_alloc_mark]
    have hjm : j < m := by
      have := (List.getElem?_eq_some_iff.1 hj).1
      simpa using this
    rw [List.getElem?_replicate, if_pos hjm] at hj
    cases hj
    rw [Array.getElem?_eq_getElem (by omega)]
    simp [madeCells, Value.cells, Nat.mod_one]
  · simp [World.frozen?_alloc_mark w (madeCells (Value.bool false).cells m) e 0 0 j]

theorem BMade.set {w : World} {g : Nat} {l : List Bool} (h : BMade w g l) (j : Nat) (hj : j < l.length) (x : Bool) : BMade (w.setCell ⟨g, j, none⟩ (.bool x)) g (l.set j x) := by
  obtain ⟨y, hy⟩ : ∃ y, l[j]? = some y := ⟨_, List.getElem?_eq_getElem hj⟩
  refine ⟨by simpa using h.lt, fun i z hi => ?_, fun i hi => ?_⟩
  · by_cases e : i = j
    · subst e
      rw [List.getElem?_set_self hj] at hi
      cases hi
      exact World.cell?_setCell_same _ _ _ (h.cells i y hy)
    · rw [List.getElem?_set_ne (by omega)] at hi
      rw [World.cell?_setCell_other _ _ _ _ (by intro e'; cases e'; exact e rfl)]
      exact h.cells i z hi
  · rw [List.length_set] at hi
    rw [World.frozen?_setCell]
    exact h.free i hi

theorem BMade.held {w : World} {g base : Nat} {l : List Bool} (h : BMade w g l) (hb : base ≤ g) (hm : l.length ≤ maxLen) : Held w base (.slice (some ⟨g, 0, none⟩) l.length l.length) (ov l) :=
  ⟨l.length, l.length, g, 0, _, rfl, (ov_length l).symm, Nat.le_refl _, hm, fun _ => rfl, fun a ha => by cases ha; exact hb, fun _ => h.lt,
    fun j u hj => by
      rw [ov, List.getElem?_map] at hj
      cases hx : l[j]? with
      | none => rw [hx] at hj; cases hj
      | some x => rw [hx] at hj; cases hj; rw [Nat.zero_add]; exact h.cells j x hx,
    fun j hj => by
      rw [Nat.zero_add, h.cells j _ (List.getElem?_eq_getElem hj)]; rfl,
    fun j hj => by rw [Nat.zero_add]; exact h.free j hj⟩

end Go.Proofs.YtnbdpalbompjlaaDoor
