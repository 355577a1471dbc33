/-
  What the reference's Total and Great answer.
-/
import Derived.Test.YtginfmbcljlneaaDoorVals0
namespace Go.Proofs.YtginfmbcljlneaaDoor
open Go.RowKit

set_option maxHeartbeats 1000000 in
theorem refTotal_any (w : World) (ao : Option Addr) (len cap b off : Nat) (vs : List (Int × ByteArray)) (hl : vs.length = len) (hL : len ≤ 1000) (hst : Stakes vs) (hs : Lies w w.heap.size ao b off (vc vs)) :
    Calls Tryd.prog 20 #[.slice ao len cap] w fun e w' => e = .returned (totV (totFrom 0 vs)) ∧ Below w.heap.size w w' := by
  have HS := Lib.hid hs
  have HL := Lib.hid hl
  have HST := Lib.hid hst
  clear hs hl hst
  go_enter Tryd.func20, Tryd.ntmps20
  go_wp2_with fail
  go_loopw [4, 9] (fun s i wr => ∃ (j : Nat) (z : Int), j ≤ len ∧ i = .int .i64 j ∧ s = .int .u64 z ∧ 0 ≤ z ∧ z < 4611686018427387904 ∧ Hid (totFrom z (vs.drop j) = totFrom 0 vs) ∧ Below w.heap.size w wr) (fun _ i _ => len - (intOf i).toNat)
  case atStart => exact ⟨0, 0, Nat.zero_le _, rfl, rfl, Int.le_refl _, by decide, Lib.hid rfl, Below.refl _ _⟩
  case round =>
    obtain ⟨j, z, hj, rfl, rfl, hz0, hz1, HT, hbel⟩ := hrel
    by_cases hlt : j < len
    · obtain ⟨v, hv⟩ : ∃ v, vs[j]? = some v := ⟨_, List.getElem?_eq_getElem (by rw [HL.out]; exact hlt)⟩
      have hr := HST.out v (List.mem_of_getElem? hv)
      obtain ⟨ha, c0, c1⟩ := HS.out.val hbel hv
      have HD := Lib.hid (drop_at hv)
      obtain ⟨x, k⟩ := v
      simp only at c0 c1 hr
      subst ha
      have HB2 := Lib.hid (hbel.alloc hbel.size (.cells #[.int .i64 x, .string k] 41))
      clear hv hbel
      have none_of : can (x, k) = false → totFrom 0 vs = none := fun h => by rw [← HT.out, HD.out, totFrom, if_neg (by simp [h])]
      have NO := Lib.hid none_of
      clear none_of
      by_cases hx0 : x < 0
      · have HR := Lib.hid (NO.out (by simp [can]; omega))
        go_wp2_with fail
        go_ret2
        rw [HR.out]
        exact ⟨rfl, HB2.out⟩
      · by_cases h1 : (k.size : Int) < 1
        · have HR := Lib.hid (NO.out (by simp [can]; omega))
          go_wp2_with fail
          go_ret2
          rw [HR.out]
          exact ⟨rfl, HB2.out⟩
        · by_cases h2 : (32 : Int) < (k.size : Int)
          · have HR := Lib.hid (NO.out (by simp [can]; omega))
            go_wp2_with fail
            go_ret2
            rw [HR.out]
            exact ⟨rfl, HB2.out⟩
          · have HC := Lib.hid (show can (x, k) = true by simp [can]; omega)
            have w1 : IntKind.u64.wrap x = x := by rw [IntKind.wrap_u64]; omega
            have w2 : (z + x) % 18446744073709551616 = z + x := by omega
            by_cases hle : 4611686018427387904 ≤ z + x
            · have HR := Lib.hid (show totFrom 0 vs = none by rw [← HT.out, HD.out, totFrom, if_neg (by simp; omega)])
              go_wp2_with fail
              go_ret2
              rw [HR.out]
              exact ⟨rfl, HB2.out⟩
            · have HR := Lib.hid (show totFrom (z + x) (vs.drop (j + 1)) = totFrom 0 vs by rw [← HT.out, HD.out, totFrom, if_pos ⟨HC.out, by simp; omega⟩])
              go_wp2_with fail
              go_roundw
              case rel => exact ⟨j + 1, z + x, by omega, by go_num, by go_num, by omega, by omega, HR, HB2.out⟩
              case measure => simp [intOf]; omega
    · have hjl : j = len := by omega
      have HR := Lib.hid (show totFrom 0 vs = some z by rw [← HT.out, hjl, ← HL.out, List.drop_length, totFrom])
      have HBel := Lib.hid hbel
      have w1 : IntKind.i64.wrap z = z := by rw [IntKind.wrap_i64]; omega
      clear hjl hbel
      go_wp2_with fail
      go_ret2
      rw [HR.out]
      exact ⟨rfl, HBel.out⟩

/-- More than is played. -/
def tooMuch (vs : List (Int × ByteArray)) : Bool := decide (100 < vs.length) || vs.any fun v => decide (200 < v.2.size)

set_option maxHeartbeats 1000000 in
theorem tooMuch_any (w : World) (nao : Option Addr) (nlen ncap b off : Nat) (n1 n2 n3 n4 n5 n6 n7 n8 n9 n10 n11 : Int) (vs : List (Int × ByteArray)) (hl : vs.length = nlen) (hs : Lies w w.heap.size nao b off (vc vs)) :
    Calls Tryd.prog 9 #[.agg #[.slice nao nlen ncap, .int .i64 n1, .int .i64 n2, .int .i64 n3, .int .i64 n4, .int .i64 n5, .int .i64 n6, .int .i64 n7, .int .i64 n8, .int .i64 n9, .int .i64 n10, .int .i64 n11]] w fun e w' => e = .returned (.bool (tooMuch vs)) ∧ Below w.heap.size w w' := by
  have HS := Lib.hid hs
  have HL := Lib.hid hl
  have HB0 := Lib.hid ((Below.refl w.heap.size w).alloc (Nat.le_refl _) (.cells #[.slice nao nlen ncap, .int .i64 n1, .int .i64 n2, .int .i64 n3, .int .i64 n4, .int .i64 n5, .int .i64 n6, .int .i64 n7, .int .i64 n8, .int .i64 n9, .int .i64 n10, .int .i64 n11] 24))
  clear hs hl
  by_cases h100 : (100 : Int) < (nlen : Int)
  · have HG := Lib.hid (show tooMuch vs = true by simp [tooMuch, HL.out]; omega)
    go_enter Tryd.func9, Tryd.ntmps9
    go_wp2_with fail
    go_ret
    rw [HG.out]
    exact ⟨rfl, HB0.out⟩
  · have hlen : nlen ≤ 100 := by omega
    go_enter Tryd.func9, Tryd.ntmps9
    go_wp2_with fail
    go_loopw [12] (fun i wr => ∃ (j : Nat), j ≤ nlen ∧ i = .int .i64 j ∧ Hid (tooMuch vs = (vs.drop j).any fun v => decide (200 < v.2.size)) ∧ Below w.heap.size w wr) (fun i _ => nlen - (intOf i).toNat)
    case atStart => exact ⟨0, Nat.zero_le _, rfl, Lib.hid (by simp [tooMuch, HL.out]; omega), HB0.out⟩
    case round =>
      obtain ⟨j, hj, rfl, HT, hbel⟩ := hrel
      by_cases hlt : j < nlen
      · obtain ⟨v, hv⟩ : ∃ v, vs[j]? = some v := ⟨_, List.getElem?_eq_getElem (by rw [HL.out]; exact hlt)⟩
        obtain ⟨ha, c0, c1⟩ := HS.out.val hbel hv
        have HD := Lib.hid (drop_at hv)
        obtain ⟨x, k⟩ := v
        simp only at c0 c1
        subst ha
        have HB2 := Lib.hid (hbel.alloc hbel.size (.cells #[.int .i64 x, .string k] 41))
        clear hv hbel
        by_cases h2 : (200 : Int) < (k.size : Int)
        · have HR := Lib.hid (show tooMuch vs = true by rw [HT.out, HD.out, List.any_cons]; simp; left; omega)
          go_wp2_with fail
          go_ret
          rw [HR.out]
          exact ⟨rfl, HB2.out⟩
        · have HR := Lib.hid (show tooMuch vs = (vs.drop (j + 1)).any fun v => decide (200 < v.2.size) by
            rw [HT.out, HD.out, List.any_cons, show decide (200 < (x, k).2.size) = false by simp; omega, Bool.false_or])
          go_wp2_with fail
          go_roundw
          case rel => exact ⟨j + 1, by omega, by go_num, HR, HB2.out⟩
          case measure => simp [intOf]; omega
      · have hjl : j = nlen := by omega
        have HR := Lib.hid (show tooMuch vs = false by rw [HT.out, hjl, ← HL.out, List.drop_length, List.any_nil])
        have HBel := Lib.hid hbel
        clear hjl hbel
        go_wp2_with fail
        go_ret
        rw [HR.out]
        exact ⟨rfl, HBel.out⟩
end Go.Proofs.YtginfmbcljlneaaDoor
