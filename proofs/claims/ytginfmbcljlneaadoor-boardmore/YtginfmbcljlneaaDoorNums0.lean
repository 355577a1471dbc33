/-
  A configuration's numbers, each with the most that it may be: what the reference's Numbers answers.
-/
import Derived.Test.YtginfmbcljlneaaDoorVals0
import Derived.Test.YtginfmbcljlneaaDoorBuildRows
namespace Go.Proofs.YtginfmbcljlneaaDoor
open Go.RowKit

/-- The numbers, with their most. -/
def nums (len : Nat) (n1 n2 n3 n4 n5 n6 n7 n8 n9 n10 n11 : Int) : List (Int × Int) :=
  [(n1, 32), (n2, min 16 (len : Int)), (n3, 256), (n4, 64), (n5, 64), (n6, 64), (n7, 16), (n8, 256), (n9, 64), (n10, 1048576), (n11, 1048576), ((len : Int), 64)]

/-- Numbers as cells. -/
def nc (l : List (Int × Int)) : List Value := l.flatMap fun p => [Value.int .i64 p.1, Value.int .i64 p.2]
theorem nc_at (l : List (Int × Int)) : ∀ (j : Nat) (v : Int × Int), l[j]? = some v → (nc l)[j * 2]? = some (.int .i64 v.1) ∧ (nc l)[j * 2 + 1]? = some (.int .i64 v.2) := by
  induction l with
  | nil => intro j v h; simp at h
  | cons u r ih =>
    intro j v h
    have e : nc (u :: r) = Value.int .i64 u.1 :: Value.int .i64 u.2 :: nc r := rfl
    cases j with
    | zero => simp at h; subst h; rw [e]; exact ⟨rfl, rfl⟩
    | succ j =>
      simp at h
      have := ih j v h
      rw [e, show (j + 1) * 2 = j * 2 + 1 + 1 by omega, show j * 2 + 1 + 1 + 1 = (j * 2 + 1) + 1 + 1 by omega]
      simpa using this

set_option maxHeartbeats 1000000 in
theorem refNumbers_any (w : World) (nao : Option Addr) (nlen ncap : Nat) (n1 n2 n3 n4 n5 n6 n7 n8 n9 n10 n11 : Int) :
    Calls Tryd.prog 19 #[.agg #[.slice nao nlen ncap, .int .i64 n1, .int .i64 n2, .int .i64 n3, .int .i64 n4, .int .i64 n5, .int .i64 n6, .int .i64 n7, .int .i64 n8, .int .i64 n9, .int .i64 n10, .int .i64 n11]] w fun e w' => ∃ g, e = .returned (.slice (some ⟨g, 0, none⟩) 24 24) ∧ Blk w' g 3 (nc (nums nlen n1 n2 n3 n4 n5 n6 n7 n8 n9 n10 n11)) ∧ Below w.heap.size w w' := by
  have hB := ((Below.refl w.heap.size w).alloc (Nat.le_refl _) (.cells #[.slice nao nlen ncap, .int .i64 n1, .int .i64 n2, .int .i64 n3, .int .i64 n4, .int .i64 n5, .int .i64 n6, .int .i64 n7, .int .i64 n8, .int .i64 n9, .int .i64 n10, .int .i64 n11] 24)).alloc (by simp) (.cells (nc (nums nlen n1 n2 n3 n4 n5 n6 n7 n8 n9 n10 n11)).toArray 3)
  by_cases h16 : (16 : Int) ≤ (nlen : Int)
  · have HM := Lib.hid (show min 16 (nlen : Int) = 16 by omega)
    simp only [nums, HM.out, nc, List.flatMap_cons, List.flatMap_nil, List.cons_append, List.nil_append] at hB ⊢
    have HB := Lib.hid hB
    clear hB
    go_enter Tryd.func19, Tryd.ntmps19
    go_wp2_with fail
    go_ret
    exact ⟨_, rfl, Blk.newAt _ _ _ _ (by simp), HB.out⟩
  · have HM := Lib.hid (show min 16 (nlen : Int) = nlen by omega)
    simp only [nums, HM.out, nc, List.flatMap_cons, List.flatMap_nil, List.cons_append, List.nil_append] at hB ⊢
    have HB := Lib.hid hB
    clear hB
    go_enter Tryd.func19, Tryd.ntmps19
    go_wp2_with fail
    go_ret
    exact ⟨_, rfl, Blk.newAt _ _ _ _ (by simp), HB.out⟩

end Go.Proofs.YtginfmbcljlneaaDoor
