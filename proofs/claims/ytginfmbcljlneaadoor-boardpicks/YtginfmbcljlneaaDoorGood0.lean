/-
  Which configurations can be.
-/
import Derived.Test.YtginfmbcljlneaaDoorNums0
import Derived.Test.YtginfmbcljlneaaDoorRefTot
namespace Go.Proofs.YtginfmbcljlneaaDoor
open Go.RowKit

/-- Every number is from 1 to its most. -/
def goodL (l : List (Int × Int)) : Bool := l.all fun p => decide (1 ≤ p.1) && decide (p.1 ≤ p.2)
/-- The configuration can be. -/
def goodB (l : List (Int × Int)) (vs : List (Int × ByteArray)) : Bool := goodL l && (totFrom 0 vs).isSome

theorem goodL_cons (x m : Int) (r : List (Int × Int)) : goodL ((x, m) :: r) = (decide (1 ≤ x) && decide (x ≤ m) && goodL r) := by simp [goodL]
theorem nums_length (len : Nat) (n1 n2 n3 n4 n5 n6 n7 n8 n9 n10 n11 : Int) : (nums len n1 n2 n3 n4 n5 n6 n7 n8 n9 n10 n11).length = 12 := rfl

/-- The number j, its two cells. -/
theorem Blk.num {w w' : World} {g : Nat} {t : TypeId} {l : List (Int × Int)} {j : Nat} {v : Int × Int} (h : Blk w g t (nc l)) (hb : Below w.heap.size w w') (hv : l[j]? = some v) :
    w'.cell? ⟨g, j * 2, none⟩ = some (.int .i64 v.1) ∧ w'.cell? ⟨g, j * 2 + 1, none⟩ = some (.int .i64 v.2) := by
  have h' := h.below hb h.lt
  obtain ⟨h1, h2⟩ := nc_at l j v hv
  exact ⟨(h'.cell _).trans h1, (h'.cell _).trans h2⟩

theorem goodL_mem {l : List (Int × Int)} (h : goodL l = true) {v : Int × Int} (hv : v ∈ l) : 1 ≤ v.1 ∧ v.1 ≤ v.2 := by
  have := List.all_eq_true.1 h v hv
  simpa using this
theorem totFrom_can : ∀ (vs : List (Int × ByteArray)) (z : Int), (totFrom z vs).isSome = true → ∀ v ∈ vs, can v = true
  | [], _, _, v, hv => by cases hv
  | u :: r, z, h, v, hv => by
    rw [totFrom] at h
    split at h
    · rename_i hc
      rcases List.mem_cons.1 hv with rfl | hv
      · exact hc.1
      · exact totFrom_can r _ h v hv
    · simp at h
theorem goodB_can {l : List (Int × Int)} {vs : List (Int × ByteArray)} (h : goodB l vs = true) : ∀ v ∈ vs, can v = true := by
  simp only [goodB, Bool.and_eq_true] at h
  exact totFrom_can vs 0 h.2
theorem goodB_nums {l : List (Int × Int)} {vs : List (Int × ByteArray)} (h : goodB l vs = true) {v : Int × Int} (hv : v ∈ l) : 1 ≤ v.1 ∧ v.1 ≤ v.2 := by
  simp only [goodB, Bool.and_eq_true] at h
  exact goodL_mem h.1 hv
/-- No number's most is above 2^20. -/
theorem nums_most {len : Nat} {n1 n2 n3 n4 n5 n6 n7 n8 n9 n10 n11 : Int} {v : Int × Int} (hv : v ∈ nums len n1 n2 n3 n4 n5 n6 n7 n8 n9 n10 n11) : v.2 ≤ 1048576 := by
  simp only [nums, List.mem_cons, List.not_mem_nil, or_false] at hv
  rcases hv with rfl | rfl | rfl | rfl | rfl | rfl | rfl | rfl | rfl | rfl | rfl | rfl <;> simp <;> omega
theorem good_len {nlen : Nat} {n1 n2 n3 n4 n5 n6 n7 n8 n9 n10 n11 : Int} {vs : List (Int × ByteArray)} (h : goodB (nums nlen n1 n2 n3 n4 n5 n6 n7 n8 n9 n10 n11) vs = true) : nlen ≤ 64 ∧ 1 ≤ nlen := by
  have := goodB_nums h (v := ((nlen : Int), 64)) (by simp [nums])
  simp at this
  omega

end Go.Proofs.YtginfmbcljlneaaDoor
