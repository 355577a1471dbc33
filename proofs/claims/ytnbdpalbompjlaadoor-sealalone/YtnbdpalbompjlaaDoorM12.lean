/-
  The texts Lots, Pick0, Seal0, one behind the other.
-/
import Derived.Test.YtnbdpalbompjlaaDoorM11
import Derived.Test.YtnbdpalbompjlaaDoorM1
import Derived.Shelf.SlSortCmp.Insertion
import Derived.Sort.Statements
import Derived.Test.YtnbdpalbompjlaaDoorJoin
/-
  Lots: the order of validators in a slot, and who is the next one: plain mathematics.
-/
namespace Go.Proofs.YtnbdpalbompjlaaDoor
open Go.RowKit Go.Sort
set_option maxRecDepth 10000

/-- A validator's digest in a slot, and its place. -/
structure Lot where
  d : List UInt8
  n : Nat
  h : d.length = 32

instance : Inhabited Lot := ⟨⟨List.replicate 32 0, 0, by simp⟩⟩

theorem Lot.same {x y : Lot} (h1 : x.d = y.d) (h2 : x.n = y.n) : x = y := by
  cases x; cases y; simp only at h1 h2; subst h1; subst h2; rfl

/-- The bytes of 'board'. -/
def boardB : List UInt8 := [98, 111, 97, 114, 100]
/-- The bytes whose digest is the lot of a validator in a slot. -/
def lotB (slot who : Nat) : List UInt8 := boardB ++ (leB slot 4 ++ leB who 2)
theorem lotB_length (slot who : Nat) : (lotB slot who).length = 11 := by simp [lotB, boardB, leB_length]
def lotD (slot who : Nat) : List UInt8 := digest (lotB slot who)
theorem lotD_length (slot who : Nat) : (lotD slot who).length = 32 := digest_length _
def lotAt (slot who : Nat) : Lot := ⟨lotD slot who, who, lotD_length slot who⟩

/-- What order answers. -/
def lotCmp (x y : Lot) : Int := if lessB x.d y.d = true then -1 else if lessB y.d x.d = true then 1 else Lib.compareInt x.n y.n

theorem lot_lt (x y : Lot) : ltOf lotCmp x y = true ↔ lessB x.d y.d = true ∨ (x.d = y.d ∧ x.n < y.n) := by
  unfold ltOf lotCmp
  by_cases he : x.d = y.d
  · rw [he, less_self, if_neg (by simp), if_neg (by simp)]
    unfold Lib.compareInt
    by_cases h1 : x.n < y.n
    · simp [h1]
    · by_cases h2 : y.n < x.n <;> simp [h1, h2]
  · rcases less_tri x.d y.d (x.h.trans y.h.symm) he with ⟨h1, h2⟩ | ⟨h1, h2⟩
    · simp [h1]
    · simp [h1, h2, he]

theorem lot_irrefl (x : Lot) : ltOf lotCmp x x = false := by
  rw [Bool.eq_false_iff]
  intro h
  rcases (lot_lt x x).1 h with h | ⟨_, h⟩
  · rw [less_self] at h; cases h
  · omega

theorem lot_trans (x y z : Lot) (h1 : ltOf lotCmp x y = true) (h2 : ltOf lotCmp y z = true) : ltOf lotCmp x z = true := by
  rw [lot_lt] at h1 h2 ⊢
  rcases h1 with h1 | ⟨e1, l1⟩
  · rcases h2 with h2 | ⟨e2, l2⟩
    · exact .inl (less_trans x.d y.d z.d (x.h.trans y.h.symm) (y.h.trans z.h.symm) h1 h2)
    · exact .inl (e2 ▸ h1)
  · rcases h2 with h2 | ⟨e2, l2⟩
    · exact .inl (e1 ▸ h2)
    · exact .inr ⟨e1.trans e2, by omega⟩

theorem lot_total (x y : Lot) (h1 : ltOf lotCmp x y = false) (h2 : ltOf lotCmp y x = false) : x = y := by
  rw [Bool.eq_false_iff, Ne, lot_lt] at h1 h2
  by_cases he : x.d = y.d
  · exact Lot.same he (by have : ¬ x.n < y.n := fun h => h1 (.inr ⟨he, h⟩); have : ¬ y.n < x.n := fun h => h2 (.inr ⟨he.symm, h⟩); omega)
  · rcases less_tri x.d y.d (x.h.trans y.h.symm) he with ⟨h, _⟩ | ⟨_, h⟩
    · exact absurd (.inl h) h1
    · exact absurd (.inl h) h2

theorem lot_asymm (x y : Lot) (h : ltOf lotCmp x y = true) : ltOf lotCmp y x = false := by
  rw [Bool.eq_false_iff]
  intro h2
  have := lot_trans x y x h h2
  rw [lot_irrefl] at this
  cases this

theorem lot_swo : SWO (ltOf lotCmp) where
  irrefl := lot_irrefl
  trans := lot_trans
  ntrans x y z h1 h2 := by
    rw [Bool.eq_false_iff]
    intro h
    cases hyx : ltOf lotCmp y x with
    | true => rw [lot_trans y x z hyx h] at h2; cases h2
    | false => have := lot_total x y h1 hyx; subst this; rw [h] at h2; cases h2

/-- The lots of a slot, sorted. -/
def sortedLots (slot n : Nat) : List Lot := ((List.range n).map (lotAt slot)).mergeSort fun x y => !ltOf lotCmp y x
/-- All validators in a slot's order. -/
def ranks (slot n : Nat) : List Nat := (sortedLots slot n).map (·.n)

theorem sortedLots_perm (slot n : Nat) : (sortedLots slot n).Perm ((List.range n).map (lotAt slot)) := List.mergeSort_perm _ _

theorem sortedLots_length (slot n : Nat) : (sortedLots slot n).length = n := by rw [(sortedLots_perm slot n).length_eq]; simp

theorem ranks_perm (slot n : Nat) : (ranks slot n).Perm (List.range n) := by
  have h := (sortedLots_perm slot n).map (·.n)
  rw [List.map_map] at h
  have e : ((fun x : Lot => x.n) ∘ lotAt slot) = id := rfl
  rw [e, List.map_id] at h
  exact h

theorem ranks_length (slot n : Nat) : (ranks slot n).length = n := by rw [(ranks_perm slot n).length_eq]; simp
theorem ranks_nodup (slot n : Nat) : (ranks slot n).Nodup := (ranks_perm slot n).nodup_iff.2 List.nodup_range
theorem ranks_mem (slot n i : Nat) : i ∈ ranks slot n ↔ i < n := by rw [(ranks_perm slot n).mem_iff, List.mem_range]

theorem sortedLots_own (slot n : Nat) (x : Lot) (h : x ∈ sortedLots slot n) : x = lotAt slot x.n := by
  rw [(sortedLots_perm slot n).mem_iff, List.mem_map] at h
  obtain ⟨i, _, rfl⟩ := h
  rfl

theorem sortedLots_le (slot n : Nat) : (sortedLots slot n).Pairwise fun x y => ltOf lotCmp y x = false := by
  have h := List.pairwise_mergeSort (le := fun x y => !ltOf lotCmp y x) (fun x y z h1 h2 => by
      simp only [Bool.not_eq_true'] at h1 h2 ⊢
      exact lot_swo.ntrans z y x h2 h1) (fun x y => by
      cases h1 : ltOf lotCmp y x with
      | false => simp
      | true => simp [lot_asymm y x h1]) ((List.range n).map (lotAt slot))
  exact h.imp fun h => by simpa using h

/-- Of two validators in order the first one's lot is the lesser. -/
theorem ranks_lt (slot n : Nat) {i j a b : Nat} (hij : i < j) (ha : (ranks slot n)[i]? = some a) (hb : (ranks slot n)[j]? = some b) : ltOf lotCmp (lotAt slot a) (lotAt slot b) = true := by
  have hnd := ranks_nodup slot n
  have hne : a ≠ b := fun e => by
    subst e
    have := (List.getElem?_inj (by exact (List.getElem?_eq_some_iff.1 ha).1) hnd).1 (ha.trans hb.symm)
    omega
  rw [ranks, List.getElem?_map] at ha hb
  cases hx : (sortedLots slot n)[i]? with
  | none => rw [hx] at ha; cases ha
  | some x =>
    cases hy : (sortedLots slot n)[j]? with
    | none => rw [hy] at hb; cases hb
    | some y =>
      rw [hx] at ha; rw [hy] at hb
      simp only [Option.map_some, Option.some.injEq] at ha hb
      obtain ⟨hi, ei⟩ := List.getElem?_eq_some_iff.1 hx
      obtain ⟨hj, ej⟩ := List.getElem?_eq_some_iff.1 hy
      have h := List.pairwise_iff_getElem.1 (sortedLots_le slot n) i j hi hj hij
      rw [ei, ej] at h
      have ox := sortedLots_own slot n x (List.mem_of_getElem? hx)
      have oy := sortedLots_own slot n y (List.mem_of_getElem? hy)
      rw [ha] at ox; rw [hb] at oy
      rw [ox, oy] at h
      cases h2 : ltOf lotCmp (lotAt slot a) (lotAt slot b) with
      | true => rfl
      | false => exact absurd (congrArg Lot.n (lot_total _ _ h2 h)) hne

/-- The least of those that are left is the next one. -/
theorem ranks_next (slot n k m : Nat) (hk : k < n) (hm : m < n) (hT : m ∉ (ranks slot n).take k)
    (hb : ∀ i, i < n → i ∉ (ranks slot n).take k → i ≠ m → ltOf lotCmp (lotAt slot m) (lotAt slot i) = true) : (ranks slot n)[k]? = some m := by
  obtain ⟨x, hx⟩ : ∃ x, (ranks slot n)[k]? = some x := ⟨_, List.getElem?_eq_getElem (by rw [ranks_length]; exact hk)⟩
  by_cases he : x = m
  · rw [hx, he]
  · exfalso
    have hxm : x ∈ ranks slot n := List.mem_of_getElem? hx
    have hxT : x ∉ (ranks slot n).take k := fun h => by
      obtain ⟨i, hi⟩ := List.mem_iff_getElem?.1 h
      rw [List.getElem?_take] at hi
      split at hi
      · have := (List.getElem?_inj (List.getElem?_eq_some_iff.1 hi).1 (ranks_nodup slot n)).1 (hi.trans hx.symm)
        omega
      · cases hi
    have h1 := hb x ((ranks_mem slot n x).1 hxm) hxT he
    obtain ⟨j, hj⟩ := List.mem_iff_getElem?.1 ((ranks_mem slot n m).2 hm)
    have hjk : ¬ j < k := fun h => hT (List.mem_iff_getElem?.2 ⟨j, by rw [List.getElem?_take, if_pos h]; exact hj⟩)
    have hjk2 : j ≠ k := fun h => by subst h; rw [hx] at hj; exact he (Option.some.inj hj)
    have h2 := ranks_lt slot n (show k < j by omega) hx hj
    rw [lot_asymm _ _ h1] at h2
    cases h2

/-- While there are some left. -/
theorem ranks_left (slot n k : Nat) (hk : k < n) : ∃ i, i < n ∧ i ∉ (ranks slot n).take k := by
  obtain ⟨x, hx⟩ : ∃ x, (ranks slot n)[k]? = some x := ⟨_, List.getElem?_eq_getElem (by rw [ranks_length]; exact hk)⟩
  refine ⟨x, (ranks_mem slot n x).1 (List.mem_of_getElem? hx), fun h => ?_⟩
  obtain ⟨i, hi⟩ := List.mem_iff_getElem?.1 h
  rw [List.getElem?_take] at hi
  split at hi
  · have := (List.getElem?_inj (List.getElem?_eq_some_iff.1 hi).1 (ranks_nodup slot n)).1 (hi.trans hx.symm)
    omega
  · cases hi

/-- A slot's committee, of n validators and c members. -/
def comm (slot : Int) (n c : Nat) : List Nat := if 0 ≤ slot ∧ slot ≤ 1073741824 then (ranks slot.toNat n).take c else []
theorem comm_length (slot : Int) (n c : Nat) (h : 0 ≤ slot ∧ slot ≤ 1073741824) (hc : c ≤ n) : (comm slot n c).length = c := by
  rw [comm, if_pos h, List.length_take, ranks_length]; omega
theorem comm_mem (slot : Int) (n c i : Nat) (h : i ∈ comm slot n c) : i < n := by
  rw [comm] at h
  split at h
  · exact (ranks_mem _ n i).1 (List.mem_of_mem_take h)
  · cases h
theorem comm_nodup (slot : Int) (n c : Nat) : (comm slot n c).Nodup := by
  rw [comm]
  split
  · exact (ranks_nodup _ n).sublist (List.take_sublist _ _)
  · exact List.nodup_nil
theorem comm_le (slot : Int) (n c : Nat) : (comm slot n c).length ≤ c := by
  rw [comm]
  split
  · rw [List.length_take]; omega
  · simp
end Go.Proofs.YtnbdpalbompjlaaDoor

/-
  Where a number stands in a list; who is picked: plain mathematics.
-/
namespace Go.Proofs.YtnbdpalbompjlaaDoor
open Go.RowKit
set_option maxRecDepth 10000

/-- Where a number stands, from i on; -1: nowhere. -/
def placeFrom (who : Int) : Nat → List Nat → Int
  | _, [] => -1
  | i, x :: r => if (x : Int) = who then i else placeFrom who (i + 1) r
/-- The first one; -1: there is none. -/
def firstOf : List Nat → Int
  | [] => -1
  | x :: _ => x

/-- Those for whose place the row says yes. -/
def pickL : List Nat → List Bool → List Nat
  | x :: l, y :: r => if y = true then x :: pickL l r else pickL l r
  | _, _ => []
theorem pickL_snoc : ∀ {l : List Nat} {r : List Bool} {j x : Nat} {y : Bool}, l[j]? = some x → r[j]? = some y → pickL (l.take (j + 1)) (r.take (j + 1)) = pickL (l.take j) (r.take j) ++ (if y = true then [x] else [])
  | a :: l, b :: r, 0, x, y, hx, hy => by
    simp at hx hy; subst hx; subst hy
    cases b <;> simp [pickL]
  | a :: l, b :: r, j + 1, x, y, hx, hy => by
    simp at hx hy
    have ih := pickL_snoc (l := l) (r := r) hx hy
    rw [List.take_succ_cons, List.take_succ_cons, List.take_succ_cons, List.take_succ_cons, pickL, pickL, ih]
    cases b <;> simp
  | [], _, _, _, _, hx, _ => by simp at hx
  | _ :: _, [], _, _, _, _, hy => by simp at hy
theorem pickL_le : ∀ (l : List Nat) (r : List Bool), (pickL l r).length ≤ l.length
  | [], _ => by simp [pickL]
  | _ :: _, [] => by simp [pickL]
  | a :: l, b :: r => by
    have := pickL_le l r
    rw [pickL]
    split
    · simp; exact this
    · simp; omega

/-- The row is one of the committee. -/
def fits (l : List Nat) (r : List Bool) : Bool := decide (l.length ≠ 0) && decide (r.length = l.length)
/-- Who is picked. -/
def picked (l : List Nat) (r : List Bool) : List Nat := if fits l r = true then pickL l r else []
end Go.Proofs.YtnbdpalbompjlaaDoor

/-
  Who speaks in a message, what its tag is joined of, which votes it is: plain mathematics.
-/
namespace Go.Proofs.YtnbdpalbompjlaaDoor
open Go.RowKit
set_option maxRecDepth 10000

/-- Who speaks, of a slot's members K. -/
def spk (K : List Nat) (M : Msg) : Option (List Nat) :=
  if msgGood M = true then
    if M.k = 1 then (if firstOf K = M.m then some [M.m.toNat] else none)
    else if M.k = 2 then (if 0 ≤ placeFrom M.m 0 K then some [M.m.toNat] else none)
    else if fits K M.l = true then some (picked K M.l) else none
  else none

theorem msg_kinds {M : Msg} (h : msgGood M = true) : M.k = 1 ∨ M.k = 2 ∨ M.k = 3 := by
  unfold msgGood at h
  rw [Bool.and_eq_true] at h
  have h5 := h.2
  split at h5
  · left; assumption
  · split at h5
    · right; left; assumption
    · split at h5
      · right; right; assumption
      · cases h5
theorem msg_spans {M : Msg} (h : msgGood M = true) : 0 ≤ M.s ∧ M.s ≤ 1073741824 ∧ 0 ≤ M.m ∧ M.m ≤ 65535 := by
  unfold msgGood at h
  rw [Bool.and_eq_true, decide_eq_true_eq] at h
  exact h.1

theorem placeFrom_low (who : Int) : ∀ (K : List Nat) (i : Nat), placeFrom who i K = -1 ∨ (i : Int) ≤ placeFrom who i K
  | [], _ => .inl rfl
  | x :: r, i => by
    rw [placeFrom]
    split
    · right; omega
    · rcases placeFrom_low who r (i + 1) with h | h
      · exact .inl h
      · right; omega
theorem placeFrom_mem (who : Int) : ∀ (K : List Nat) (i : Nat), 0 ≤ placeFrom who i K → who.toNat ∈ K
  | [], _, h => by rw [placeFrom] at h; omega
  | x :: r, i, h => by
    rw [placeFrom] at h
    split at h
    · rename_i e; subst e; simp
    · exact List.mem_cons_of_mem _ (placeFrom_mem who r (i + 1) h)
theorem firstOf_mem {who : Int} (h0 : 0 ≤ who) : ∀ (K : List Nat), firstOf K = who → who.toNat ∈ K
  | [], h => by rw [firstOf] at h; omega
  | x :: r, h => by rw [firstOf] at h; subst h; simp
/-- To propose is to stand at place 0. -/
theorem firstOf_place {who : Int} (h0 : 0 ≤ who) : ∀ (K : List Nat), firstOf K = who ↔ placeFrom who 0 K = 0
  | [] => by rw [firstOf, placeFrom]; omega
  | x :: r => by
    rw [firstOf, placeFrom]
    split
    · rename_i e; simp [e]
    · rename_i e
      rcases placeFrom_low who r 1 with h | h
      · exact ⟨fun q => absurd q e, fun q => by rw [Nat.zero_add] at q; omega⟩
      · exact ⟨fun q => absurd q e, fun q => by rw [Nat.zero_add] at q; omega⟩
theorem pickL_mem : ∀ (l : List Nat) (r : List Bool) (x : Nat), x ∈ pickL l r → x ∈ l
  | [], _, x, h => by simp [pickL] at h
  | _ :: _, [], x, h => by simp [pickL] at h
  | a :: l, b :: r, x, h => by
    rw [pickL] at h
    split at h
    · rcases List.mem_cons.1 h with rfl | h
      · exact List.mem_cons_self
      · exact List.mem_cons_of_mem _ (pickL_mem l r x h)
    · exact List.mem_cons_of_mem _ (pickL_mem l r x h)
theorem picked_mem {l : List Nat} {r : List Bool} {x : Nat} (h : x ∈ picked l r) : x ∈ l := by
  rw [picked] at h
  split at h
  · exact pickL_mem l r x h
  · cases h
theorem pickL_some : ∀ (l : List Nat) (r : List Bool), r.length = l.length → r.any id = true → pickL l r ≠ []
  | [], [], _, h => by simp at h
  | [], _ :: _, h, _ => by simp at h
  | _ :: _, [], h, _ => by simp at h
  | a :: l, b :: r, h, h2 => by
    rw [pickL]
    cases b with
    | true => simp
    | false =>
      simp only [Bool.false_eq_true, if_false]
      exact pickL_some l r (by simpa using h) (by simpa using h2)

theorem spk_good {K : List Nat} {M : Msg} {l : List Nat} (h : spk K M = some l) : msgGood M = true := by
  unfold spk at h
  split at h
  · assumption
  · cases h
theorem spk_bad {K : List Nat} {M : Msg} (h : msgGood M = false) : spk K M = none := by
  rw [spk, if_neg (by rw [h]; simp)]
theorem spk_one {K : List Nat} {M : Msg} (h : msgGood M = true) (k : M.k = 1) : spk K M = if firstOf K = M.m then some [M.m.toNat] else none := by
  rw [spk, if_pos h, if_pos k]
theorem spk_two {K : List Nat} {M : Msg} (h : msgGood M = true) (k : M.k = 2) : spk K M = if 0 ≤ placeFrom M.m 0 K then some [M.m.toNat] else none := by
  rw [spk, if_pos h, if_neg (by omega), if_pos k]
theorem spk_three {K : List Nat} {M : Msg} (h : msgGood M = true) (k : M.k = 3) : spk K M = if fits K M.l = true then some (picked K M.l) else none := by
  rw [spk, if_pos h, if_neg (by omega), if_neg (by omega)]
theorem spk_mem {K : List Nat} {M : Msg} {l : List Nat} (h : spk K M = some l) : ∀ x ∈ l, x ∈ K := by
  intro x hx
  have hg := spk_good h
  have hm := (msg_spans hg).2.2.1
  rcases msg_kinds hg with k | k | k
  · rw [spk_one hg k] at h
    split at h
    · rename_i e; cases h; rw [List.mem_singleton] at hx; subst hx; exact firstOf_mem hm K e
    · cases h
  · rw [spk_two hg k] at h
    split at h
    · rename_i e; cases h; rw [List.mem_singleton] at hx; subst hx; exact placeFrom_mem M.m K 0 e
    · cases h
  · rw [spk_three hg k] at h
    split at h
    · cases h; exact picked_mem hx
    · cases h
theorem picked_len (l : List Nat) (r : List Bool) : (picked l r).length ≤ l.length := by
  rw [picked]
  split
  · exact pickL_le l r
  · simp
theorem spk_len {K : List Nat} {M : Msg} {l : List Nat} (h : spk K M = some l) (hK : K.length ≤ 1000) : l.length ≤ 1000 := by
  have hg := spk_good h
  rcases msg_kinds hg with k | k | k
  · rw [spk_one hg k] at h
    split at h
    · cases h; simp
    · cases h
  · rw [spk_two hg k] at h
    split at h
    · cases h; simp
    · cases h
  · rw [spk_three hg k] at h
    split at h
    · cases h; have := picked_len K M.l; omega
    · cases h
/-- Somebody speaks, if they can. -/
theorem spk_some {K : List Nat} {M : Msg} {l : List Nat} (h : spk K M = some l) : l ≠ [] := by
  have hg := spk_good h
  rcases msg_kinds hg with k | k | k
  · rw [spk_one hg k] at h
    split at h
    · cases h; simp
    · cases h
  · rw [spk_two hg k] at h
    split at h
    · cases h; simp
    · cases h
  · rw [spk_three hg k] at h
    split at h
    · rename_i hf
      cases h
      rw [picked, if_pos hf]
      have ha : M.l.any id = true := by
        unfold msgGood at hg
        rw [if_neg (by omega), if_neg (by omega), if_pos k] at hg
        simp only [Bool.and_eq_true] at hg
        exact hg.2.2.2
      refine pickL_some K M.l ?_ ha
      simp [fits] at hf
      exact hf.2
    · cases h

/-- The vote that one of a sum's would have alone. -/
def voteM (M : Msg) (who : Nat) : Msg := ⟨2, M.s, M.T, who, 0, [], List.replicate 16 0⟩
/-- What one of those who speak says. -/
def partM (M : Msg) (who : Nat) : Msg := if M.k = 3 then voteM M who else M
theorem voteM_fits {M : Msg} (h : M.Fits) (who : Nat) : (voteM M who).Fits := ⟨h.T, by simp [voteM], by simp [voteM]⟩
theorem voteM_good {M : Msg} (h : msgGood M = true) {who : Nat} (hw : who ≤ 65535) : msgGood (voteM M who) = true := by
  have := msg_spans h
  unfold msgGood
  simp only [voteM, List.length_nil]
  simp
  omega
theorem partM_fits {M : Msg} (h : M.Fits) (who : Nat) : (partM M who).Fits := by
  unfold partM
  split
  · exact voteM_fits h who
  · exact h
theorem partM_good {M : Msg} (h : msgGood M = true) {who : Nat} (hw : who ≤ 65535) : msgGood (partM M who) = true := by
  unfold partM
  split
  · exact voteM_good h hw
  · exact h
theorem partM_bits {M : Msg} (h : msgGood M = true) (hf : M.Fits) (who : Nat) : (partM M who).l = [] := by
  unfold partM
  split
  · rfl
  · rename_i k; exact (msg_ranged h hf).l k
theorem partM_sum {M : Msg} (h : M.k = 3) (who : Nat) : partM M who = voteM M who := by rw [partM, if_pos h]
theorem partM_own {M : Msg} (h : M.k ≠ 3) (who : Nat) : partM M who = M := by rw [partM, if_neg h]
theorem partM_length {M : Msg} (h : msgGood M = true) (hf : M.Fits) {who : Nat} (hw : who ≤ 65535) : (msgP (partM M who)).length ≤ 100 := by
  have hr := msg_ranged (partM_good h hw) (partM_fits hf who)
  rw [msgP_length hr, partM_bits h hf who]
  split
  · omega
  · split <;> simp

/-- A validator's key, as bytes. -/
def keyAt (vs : List (Int × ByteArray)) (i : Nat) : List UInt8 := match vs[i]? with
  | some v => v.2.data.toList
  | none => []
theorem keyAt_some {vs : List (Int × ByteArray)} {i : Nat} {v : Int × ByteArray} (h : vs[i]? = some v) : v.2 = ⟨(keyAt vs i).toArray⟩ := by
  unfold keyAt
  rw [h]
/-- The tag of what one of them says. -/
def tagOne (vs : List (Int × ByteArray)) (M : Msg) (i : Nat) : List UInt8 := tag (keyAt vs i) (msgP (partM M i))
/-- The tags of all of them. -/
def tagsM (vs : List (Int × ByteArray)) (M : Msg) (l : List Nat) : List (List UInt8) := l.map (tagOne vs M)
theorem tagsM_Tags (vs : List (Int × ByteArray)) (M : Msg) (l : List Nat) : Tags (tagsM vs M l) := fun t ht => by
  obtain ⟨i, _, rfl⟩ := List.mem_map.1 ht
  exact tag_length _ _
/-- A message's tag. -/
def sealT (vs : List (Int × ByteArray)) (K : List Nat) (M : Msg) : List UInt8 := match spk K M with
  | some l => joined (tagsM vs M l)
  | none => List.replicate 16 0
theorem sealT_length (vs : List (Int × ByteArray)) (K : List Nat) (M : Msg) : (sealT vs K M).length = 16 := by
  unfold sealT
  split
  · exact joined_length _
  · simp
theorem joined_sole (a : List UInt8) (h : a.length = 16) : joined [a] = a := by
  rw [joined, show col [a] = fun p => a.getD p 0 from funext (col_one a), tagF_of a h]
theorem sealT_sole {vs : List (Int × ByteArray)} {K : List Nat} {M : Msg} {l : List Nat} (h : spk K M = some l) (k : M.k ≠ 3) : sealT vs K M = tag (keyAt vs M.m.toNat) (msgP M) := by
  have hg := spk_good h
  have e : l = [M.m.toNat] := by
    rcases msg_kinds hg with q | q | q
    · rw [spk_one hg q] at h
      split at h
      · cases h; rfl
      · cases h
    · rw [spk_two hg q] at h
      split at h
      · cases h; rfl
      · cases h
    · exact absurd q k
  unfold sealT
  rw [h, e]
  show joined [tag (keyAt vs M.m.toNat) (msgP (partM M M.m.toNat))] = _
  rw [joined_sole _ (tag_length _ _), partM_own k]

/-- A message's tag is its own. -/
def sealC (vs : List (Int × ByteArray)) (K : List Nat) (M : Msg) : Bool := (spk K M).isSome && (sealT vs K M == M.G)

/-- The votes of a message: who, slot, target. -/
def votesM (K : List Nat) (M : Msg) : List (Nat × Int × List UInt8) := if M.k = 1 then [] else ((spk K M).getD []).map fun i => (i, M.s, M.T)
end Go.Proofs.YtnbdpalbompjlaaDoor
