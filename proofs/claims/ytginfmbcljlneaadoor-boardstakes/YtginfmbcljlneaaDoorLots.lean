/-
  Lots: the order of validators in a slot, and who is the next one: plain mathematics.
-/
import Derived.Test.YtginfmbcljlneaaDoorOrd0
import Derived.Test.YtginfmbcljlneaaDoorPlain
import Derived.Shelf.SlSortCmp.Insertion
import Derived.Sort.Statements
namespace Go.Proofs.YtginfmbcljlneaaDoor
open Go.RowKit Go.Sort

/-- A validator's digest in a slot, and its place. -/
structure Lot where
  d : List UInt8
  n : Nat
  h : d.length = 32

instance : Inhabited Lot := ⟨⟨List.replicate 32 0, 0, by simp⟩⟩

theorem Lot.same {x y : Lot} (h1 : x.d = y.d) (h2 : x.n = y.n) : x = y := by
  cases x; cases y; simp only at h1 h2; subst h1; subst h2; rfl

/-- The bytes of 'board'. -/
def boardB : List UInt8 := [98, 111, 97, 114, 100]
/-- The bytes whose digest is the lot of a validator in a slot. -/
def lotB (slot who : Nat) : List UInt8 := boardB ++ (leB slot 4 ++ leB who 2)
theorem lotB_length (slot who : Nat) : (lotB slot who).length = 11 := by simp [lotB, boardB, leB_length]
def lotD (slot who : Nat) : List UInt8 := digest (lotB slot who)
theorem lotD_length (slot who : Nat) : (lotD slot who).length = 32 := digest_length _
def lotAt (slot who : Nat) : Lot := ⟨lotD slot who, who, lotD_length slot who⟩

/-- What order answers. -/
def lotCmp (x y : Lot) : Int := if lessB x.d y.d = true then -1 else if lessB y.d x.d = true then 1 else Lib.compareInt x.n y.n

theorem lot_lt (x y : Lot) : ltOf lotCmp x y = true ↔ lessB x.d y.d = true ∨ (x.d = y.d ∧ x.n < y.n) := by
  unfold ltOf lotCmp
  by_cases he : x.d = y.d
  · rw [he, less_self, if_neg (by simp), if_neg (by simp)]
    unfold Lib.compareInt
    by_cases h1 : x.n < y.n
    · simp [h1]
    · by_cases h2 : y.n < x.n <;> simp [h1, h2]
  · rcases less_tri x.d y.d (x.h.trans y.h.symm) he with ⟨h1, h2⟩ | ⟨h1, h2⟩
    · simp [h1]
    · simp [h1, h2, he]

theorem lot_irrefl (x : Lot) : ltOf lotCmp x x = false := by
  rw [Bool.eq_false_iff]
  intro h
  rcases (lot_lt x x).1 h with h | ⟨_, h⟩
  · rw [less_self] at h; cases h
  · omega

theorem lot_trans (x y z : Lot) (h1 : ltOf lotCmp x y = true) (h2 : ltOf lotCmp y z = true) : ltOf lotCmp x z = true := by
  rw [lot_lt] at h1 h2 ⊢
  rcases h1 with h1 | ⟨e1, l1⟩
  · rcases h2 with h2 | ⟨e2, l2⟩
    · exact .inl (less_trans x.d y.d z.d (x.h.trans y.h.symm) (y.h.trans z.h.symm) h1 h2)
    · exact .inl (e2 ▸ h1)
  · rcases h2 with h2 | ⟨e2, l2⟩
    · exact .inl (e1 ▸ h2)
    · exact .inr ⟨e1.trans e2, by omega⟩

theorem lot_total (x y : Lot) (h1 : ltOf lotCmp x y = false) (h2 : ltOf lotCmp y x = false) : x = y := by
  rw [Bool.eq_false_iff, Ne, lot_lt] at h1 h2
  by_cases he : x.d = y.d
  · exact Lot.same he (by have : ¬ x.n < y.n := fun h => h1 (.inr ⟨he, h⟩); have : ¬ y.n < x.n := fun h => h2 (.inr ⟨he.symm, h⟩); omega)
  · rcases less_tri x.d y.d (x.h.trans y.h.symm) he with ⟨h, _⟩ | ⟨_, h⟩
    · exact absurd (.inl h) h1
    · exact absurd (.inl h) h2

theorem lot_asymm (x y : Lot) (h : ltOf lotCmp x y = true) : ltOf lotCmp y x = false := by
  rw [Bool.eq_false_iff]
  intro h2
  have := lot_trans x y x h h2
  rw [lot_irrefl] at this
  cases this

theorem lot_swo : SWO (ltOf lotCmp) where
  irrefl := lot_irrefl
  trans := lot_trans
  ntrans x y z h1 h2 := by
    rw [Bool.eq_false_iff]
    intro h
    cases hyx : ltOf lotCmp y x with
    | true => rw [lot_trans y x z hyx h] at h2; cases h2
    | false => have := lot_total x y h1 hyx; subst this; rw [h] at h2; cases h2

/-- The lots of a slot, sorted. -/
def sortedLots (slot n : Nat) : List Lot := ((List.range n).map (lotAt slot)).mergeSort fun x y => !ltOf lotCmp y x
/-- All validators in a slot's order. -/
def ranks (slot n : Nat) : List Nat := (sortedLots slot n).map (·.n)

theorem sortedLots_perm (slot n : Nat) : (sortedLots slot n).Perm ((List.range n).map (lotAt slot)) := List.mergeSort_perm _ _

theorem sortedLots_length (slot n : Nat) : (sortedLots slot n).length = n := by rw [(sortedLots_perm slot n).length_eq]; simp

theorem ranks_perm (slot n : Nat) : (ranks slot n).Perm (List.range n) := by
  have h := (sortedLots_perm slot n).map (·.n)
  rw [List.map_map] at h
  have e : ((fun x : Lot => x.n) ∘ lotAt slot) = id := rfl
  rw [e, List.map_id] at h
  exact h

theorem ranks_length (slot n : Nat) : (ranks slot n).length = n := by rw [(ranks_perm slot n).length_eq]; simp
theorem ranks_nodup (slot n : Nat) : (ranks slot n).Nodup := (ranks_perm slot n).nodup_iff.2 List.nodup_range
theorem ranks_mem (slot n i : Nat) : i ∈ ranks slot n ↔ i < n := by rw [(ranks_perm slot n).mem_iff, List.mem_range]

theorem sortedLots_own (slot n : Nat) (x : Lot) (h : x ∈ sortedLots slot n) : x = lotAt slot x.n := by
  rw [(sortedLots_perm slot n).mem_iff, List.mem_map] at h
  obtain ⟨i, _, rfl⟩ := h
  rfl

theorem sortedLots_le (slot n : Nat) : (sortedLots slot n).Pairwise fun x y => ltOf lotCmp y x = false := by
  have h := List.pairwise_mergeSort (le := fun x y => !ltOf lotCmp y x) (fun x y z h1 h2 => by
      simp only [Bool.not_eq_true'] at h1 h2 ⊢
      exact lot_swo.ntrans z y x h2 h1) (fun x y => by
      cases h1 : ltOf lotCmp y x with
      | false => simp
      | true => simp [lot_asymm y x h1]) ((List.range n).map (lotAt slot))
  exact h.imp fun h => by simpa using h

/-- Of two validators in order the first one's lot is the lesser. -/
theorem ranks_lt (slot n : Nat) {i j a b : Nat} (hij : i < j) (ha : (ranks slot n)[i]? = some a) (hb : (ranks slot n)[j]? = some b) : ltOf lotCmp (lotAt slot a) (lotAt slot b) = true := by
  have hnd := ranks_nodup slot n
  have hne : a ≠ b := fun e => by
    subst e
    have := (List.getElem?_inj (by exact (List.getElem?_eq_some_iff.1 ha).1) hnd).1 (ha.trans hb.symm)
    omega
  rw [ranks, List.getElem?_map] at ha hb
  cases hx : (sortedLots slot n)[i]? with
  | none => rw [hx] at ha; cases ha
  | some x =>
    cases hy : (sortedLots slot n)[j]? with
    | none => rw [hy] at hb; cases hb
    | some y =>
      rw [hx] at ha; rw [hy] at hb
      simp only [Option.map_some, Option.some.injEq] at ha hb
      obtain ⟨hi, ei⟩ := List.getElem?_eq_some_iff.1 hx
      obtain ⟨hj, ej⟩ := List.getElem?_eq_some_iff.1 hy
      have h := List.pairwise_iff_getElem.1 (sortedLots_le slot n) i j hi hj hij
      rw [ei, ej] at h
      have ox := sortedLots_own slot n x (List.mem_of_getElem? hx)
      have oy := sortedLots_own slot n y (List.mem_of_getElem? hy)
      rw [ha] at ox; rw [hb] at oy
      rw [ox, oy] at h
      cases h2 : ltOf lotCmp (lotAt slot a) (lotAt slot b) with
      | true => rfl
      | false => exact absurd (congrArg Lot.n (lot_total _ _ h2 h)) hne

/-- The least of those that are left is the next one. -/
theorem ranks_next (slot n k m : Nat) (hk : k < n) (hm : m < n) (hT : m ∉ (ranks slot n).take k)
    (hb : ∀ i, i < n → i ∉ (ranks slot n).take k → i ≠ m → ltOf lotCmp (lotAt slot m) (lotAt slot i) = true) : (ranks slot n)[k]? = some m := by
  obtain ⟨x, hx⟩ : ∃ x, (ranks slot n)[k]? = some x := ⟨_, List.getElem?_eq_getElem (by rw [ranks_length]; exact hk)⟩
  by_cases he : x = m
  · rw [hx, he]
  · exfalso
    have hxm : x ∈ ranks slot n := List.mem_of_getElem? hx
    have hxT : x ∉ (ranks slot n).take k := fun h => by
      obtain ⟨i, hi⟩ := List.mem_iff_getElem?.1 h
      rw [List.getElem?_take] at hi
      split at hi
      · have := (List.getElem?_inj (List.getElem?_eq_some_iff.1 hi).1 (ranks_nodup slot n)).1 (hi.trans hx.symm)
        omega
      · cases hi
    have h1 := hb x ((ranks_mem slot n x).1 hxm) hxT he
    obtain ⟨j, hj⟩ := List.mem_iff_getElem?.1 ((ranks_mem slot n m).2 hm)
    have hjk : ¬ j < k := fun h => hT (List.mem_iff_getElem?.2 ⟨j, by rw [List.getElem?_take, if_pos h]; exact hj⟩)
    have hjk2 : j ≠ k := fun h => by subst h; rw [hx] at hj; exact he (Option.some.inj hj)
    have h2 := ranks_lt slot n (show k < j by omega) hx hj
    rw [lot_asymm _ _ h1] at h2
    cases h2

/-- While there are some left. -/
theorem ranks_left (slot n k : Nat) (hk : k < n) : ∃ i, i < n ∧ i ∉ (ranks slot n).take k := by
  obtain ⟨x, hx⟩ : ∃ x, (ranks slot n)[k]? = some x := ⟨_, List.getElem?_eq_getElem (by rw [ranks_length]; exact hk)⟩
  refine ⟨x, (ranks_mem slot n x).1 (List.mem_of_getElem? hx), fun h => ?_⟩
  obtain ⟨i, hi⟩ := List.mem_iff_getElem?.1 h
  rw [List.getElem?_take] at hi
  split at hi
  · have := (List.getElem?_inj (List.getElem?_eq_some_iff.1 hi).1 (ranks_nodup slot n)).1 (hi.trans hx.symm)
    omega
  · cases hi

/-- A slot's committee, of n validators and c members. -/
def comm (slot : Int) (n c : Nat) : List Nat := if 0 ≤ slot ∧ slot ≤ 1073741824 then (ranks slot.toNat n).take c else []
theorem comm_length (slot : Int) (n c : Nat) (h : 0 ≤ slot ∧ slot ≤ 1073741824) (hc : c ≤ n) : (comm slot n c).length = c := by
  rw [comm, if_pos h, List.length_take, ranks_length]; omega
theorem comm_mem (slot : Int) (n c i : Nat) (h : i ∈ comm slot n c) : i < n := by
  rw [comm] at h
  split at h
  · exact (ranks_mem _ n i).1 (List.mem_of_mem_take h)
  · cases h
theorem comm_nodup (slot : Int) (n c : Nat) : (comm slot n c).Nodup := by
  rw [comm]
  split
  · exact (ranks_nodup _ n).sublist (List.take_sublist _ _)
  · exact List.nodup_nil
theorem comm_le (slot : Int) (n c : Nat) : (comm slot n c).length ≤ c := by
  rw [comm]
  split
  · rw [List.length_take]; omega
  · simp
end Go.Proofs.YtginfmbcljlneaaDoor
