/-
  The texts Ord0, Lots, Pick0, Masked, Fill, one behind the other.
-/
import Derived.Test.YtnbdpalbompjlaaDoorM4
import Derived.Test.YtnbdpalbompjlaaDoorM1
import Derived.Shelf.SlSortCmp.Insertion
import Derived.Sort.Statements
/-
  Less is an order: plain mathematics.
-/
namespace Go.Proofs.YtnbdpalbompjlaaDoor

theorem lessB_cons (a b : UInt8) (r s : List UInt8) : lessB (a :: r) (b :: s) = if a < b then true else if b < a then false else lessB r s := by
  unfold lessB
  rw [Lib.compareBytes]
  split
  · simp
  · split
    · simp
    · rfl

theorem less_self : ∀ (r : List UInt8), lessB r r = false
  | [] => rfl
  | a :: r => by rw [lessB_cons, if_neg (UInt8.lt_irrefl a), if_neg (UInt8.lt_irrefl a)]; exact less_self r

theorem less_tri : ∀ (r s : List UInt8), r.length = s.length → r ≠ s → (lessB r s = true ∧ lessB s r = false) ∨ (lessB r s = false ∧ lessB s r = true)
  | [], [], _, h => absurd rfl h
  | [], b :: s, hl, _ => by simp at hl
  | a :: r, [], hl, _ => by simp at hl
  | a :: r, b :: s, hl, h => by
    rw [lessB_cons, lessB_cons]
    by_cases h1 : a < b
    · have h2 : ¬ b < a := UInt8.lt_asymm h1
      simp [h1, h2]
    · by_cases h2 : b < a
      · simp [h1, h2]
      · have hab : a = b := UInt8.le_antisymm (UInt8.not_lt.1 h2) (UInt8.not_lt.1 h1)
        subst hab
        simp only [h1, if_false]
        exact less_tri r s (by simpa using hl) (fun e => h (by rw [e]))

theorem less_trans : ∀ (r s t : List UInt8), r.length = s.length → s.length = t.length → lessB r s = true → lessB s t = true → lessB r t = true
  | [], [], _, _, _, h, _ => by simp [lessB, Lib.compareBytes] at h
  | [], b :: s, _, hl, _, _, _ => by simp at hl
  | a :: r, [], _, hl, _, _, _ => by simp at hl
  | _ :: _, _ :: _, [], _, hl, _, _ => by simp at hl
  | a :: r, b :: s, c :: t, hl, hl2, h1, h2 => by
    rw [lessB_cons] at h1 h2 ⊢
    by_cases ab : a < b
    · by_cases bc : b < c
      · rw [if_pos (UInt8.lt_trans ab bc)]
      · by_cases cb : c < b
        · simp [bc, cb] at h2
        · have hbc : b = c := UInt8.le_antisymm (UInt8.not_lt.1 cb) (UInt8.not_lt.1 bc)
          subst hbc
          rw [if_pos ab]
    · by_cases ba : b < a
      · simp [ab, ba] at h1
      · have hab : a = b := UInt8.le_antisymm (UInt8.not_lt.1 ba) (UInt8.not_lt.1 ab)
        subst hab
        simp only [ab, if_false] at h1
        by_cases bc : a < c
        · rw [if_pos bc]
        · by_cases cb : c < a
          · simp [bc, cb] at h2
          · simp only [bc, cb, if_false] at h2 ⊢
            exact less_trans r s t (by simpa using hl) (by simpa using hl2) h1 h2

end Go.Proofs.YtnbdpalbompjlaaDoor

/-
  Lots: the order of validators in a slot, and who is the next one: plain mathematics.
-/
namespace Go.Proofs.YtnbdpalbompjlaaDoor
open Go.RowKit Go.Sort
set_option maxRecDepth 10000

/-- A validator's digest in a slot, and its place. -/
structure Lot where
  d : List UInt8
  n : Nat
  h : d.length = 32

instance : Inhabited Lot := ⟨⟨List.replicate 32 0, 0, by simp⟩⟩

theorem Lot.same {x y : Lot} (h1 : x.d = y.d) (h2 : x.n = y.n) : x = y := by
  cases x; cases y; simp only at h1 h2; subst h1; subst h2; rfl

/-- The bytes of 'board'. -/
def boardB : List UInt8 := [98, 111, 97, 114, 100]
/-- The bytes whose digest is the lot of a validator in a slot. -/
def lotB (slot who : Nat) : List UInt8 := boardB ++ (leB slot 4 ++ leB who 2)
theorem lotB_length (slot who : Nat) : (lotB slot who).length = 11 := by simp [lotB, boardB, leB_length]
def lotD (slot who : Nat) : List UInt8 := digest (lotB slot who)
theorem lotD_length (slot who : Nat) : (lotD slot who).length = 32 := digest_length _
def lotAt (slot who : Nat) : Lot := ⟨lotD slot who, who, lotD_length slot who⟩

/-- What order answers. -/
def lotCmp (x y : Lot) : Int := if lessB x.d y.d = true then -1 else if lessB y.d x.d = true then 1 else Lib.compareInt x.n y.n

theorem lot_lt (x y : Lot) : ltOf lotCmp x y = true ↔ lessB x.d y.d = true ∨ (x.d = y.d ∧ x.n < y.n) := by
  unfold ltOf lotCmp
  by_cases he : x.d = y.d
  · rw [he, less_self, if_neg (by simp), if_neg (by simp)]
    unfold Lib.compareInt
    by_cases h1 : x.n < y.n
    · simp [h1]
    · by_cases h2 : y.n < x.n <;> simp [h1, h2]
  · rcases less_tri x.d y.d (x.h.trans y.h.symm) he with ⟨h1, h2⟩ | ⟨h1, h2⟩
    · simp [h1]
    · simp [h1, h2, he]

theorem lot_irrefl (x : Lot) : ltOf lotCmp x x = false := by
  rw [Bool.eq_false_iff]
  intro h
  rcases (lot_lt x x).1 h with h | ⟨_, h⟩
  · rw [less_self] at h; cases h
  · omega

theorem lot_trans (x y z : Lot) (h1 : ltOf lotCmp x y = true) (h2 : ltOf lotCmp y z = true) : ltOf lotCmp x z = true := by
  rw [lot_lt] at h1 h2 ⊢
  rcases h1 with h1 | ⟨e1, l1⟩
  · rcases h2 with h2 | ⟨e2, l2⟩
    · exact .inl (less_trans x.d y.d z.d (x.h.trans y.h.symm) (y.h.trans z.h.symm) h1 h2)
    · exact .inl (e2 ▸ h1)
  · rcases h2 with h2 | ⟨e2, l2⟩
    · exact .inl (e1 ▸ h2)
    · exact .inr ⟨e1.trans e2, by omega⟩

theorem lot_total (x y : Lot) (h1 : ltOf lotCmp x y = false) (h2 : ltOf lotCmp y x = false) : x = y := by
  rw [Bool.eq_false_iff, Ne, lot_lt] at h1 h2
  by_cases he : x.d = y.d
  · exact Lot.same he (by have : ¬ x.n < y.n := fun h => h1 (.inr ⟨he, h⟩); have : ¬ y.n < x.n := fun h => h2 (.inr ⟨he.symm, h⟩); omega)
  · rcases less_tri x.d y.d (x.h.trans y.h.symm) he with ⟨h, _⟩ | ⟨_, h⟩
    · exact absurd (.inl h) h1
    · exact absurd (.inl h) h2

theorem lot_asymm (x y : Lot) (h : ltOf lotCmp x y = true) : ltOf lotCmp y x = false := by
  rw [Bool.eq_false_iff]
  intro h2
  have := lot_trans x y x h h2
  rw [lot_irrefl] at this
  cases this

theorem lot_swo : SWO (ltOf lotCmp) where
  irrefl := lot_irrefl
  trans := lot_trans
  ntrans x y z h1 h2 := by
    rw [Bool.eq_false_iff]
    intro h
    cases hyx : ltOf lotCmp y x with
    | true => rw [lot_trans y x z hyx h] at h2; cases h2
    | false => have := lot_total x y h1 hyx; subst this; rw [h] at h2; cases h2

/-- The lots of a slot, sorted. -/
def sortedLots (slot n : Nat) : List Lot := ((List.range n).map (lotAt slot)).mergeSort fun x y => !ltOf lotCmp y x
/-- All validators in a slot's order. -/
def ranks (slot n : Nat) : List Nat := (sortedLots slot n).map (·.n)

theorem sortedLots_perm (slot n : Nat) : (sortedLots slot n).Perm ((List.range n).map (lotAt slot)) := List.mergeSort_perm _ _

theorem sortedLots_length (slot n : Nat) : (sortedLots slot n).length = n := by rw [(sortedLots_perm slot n).length_eq]; simp

theorem ranks_perm (slot n : Nat) : (ranks slot n).Perm (List.range n) := by
  have h := (sortedLots_perm slot n).map (·.n)
  rw [List.map_map] at h
  have e : ((fun x : Lot => x.n) ∘ lotAt slot) = id := rfl
  rw [e, List.map_id] at h
  exact h

theorem ranks_length (slot n : Nat) : (ranks slot n).length = n := by rw [(ranks_perm slot n).length_eq]; simp
theorem ranks_nodup (slot n : Nat) : (ranks slot n).Nodup := (ranks_perm slot n).nodup_iff.2 List.nodup_range
theorem ranks_mem (slot n i : Nat) : i ∈ ranks slot n ↔ i < n := by rw [(ranks_perm slot n).mem_iff, List.mem_range]

theorem sortedLots_own (slot n : Nat) (x : Lot) (h : x ∈ sortedLots slot n) : x = lotAt slot x.n := by
  rw [(sortedLots_perm slot n).mem_iff, List.mem_map] at h
  obtain ⟨i, _, rfl⟩ := h
  rfl

theorem sortedLots_le (slot n : Nat) : (sortedLots slot n).Pairwise fun x y => ltOf lotCmp y x = false := by
  have h := List.pairwise_mergeSort (le := fun x y => !ltOf lotCmp y x) (fun x y z h1 h2 => by
      simp only [Bool.not_eq_true'] at h1 h2 ⊢
      exact lot_swo.ntrans z y x h2 h1) (fun x y => by
      cases h1 : ltOf lotCmp y x with
      | false => simp
      | true => simp [lot_asymm y x h1]) ((List.range n).map (lotAt slot))
  exact h.imp fun h => by simpa using h

/-- Of two validators in order the first one's lot is the lesser. -/
theorem ranks_lt (slot n : Nat) {i j a b : Nat} (hij : i < j) (ha : (ranks slot n)[i]? = some a) (hb : (ranks slot n)[j]? = some b) : ltOf lotCmp (lotAt slot a) (lotAt slot b) = true := by
  have hnd := ranks_nodup slot n
  have hne : a ≠ b := fun e => by
    subst e
    have := (List.getElem?_inj (by exact (List.getElem?_eq_some_iff.1 ha).1) hnd).1 (ha.trans hb.symm)
    omega
  rw [ranks, List.getElem?_map] at ha hb
  cases hx : (sortedLots slot n)[i]? with
  | none => rw [hx] at ha; cases ha
  | some x =>
    cases hy : (sortedLots slot n)[j]? with
    | none => rw [hy] at hb; cases hb
    | some y =>
      rw [hx] at ha; rw [hy] at hb
      simp only [Option.map_some, Option.some.injEq] at ha hb
      obtain ⟨hi, ei⟩ := List.getElem?_eq_some_iff.1 hx
      obtain ⟨hj, ej⟩ := List.getElem?_eq_some_iff.1 hy
      have h := List.pairwise_iff_getElem.1 (sortedLots_le slot n) i j hi hj hij
      rw [ei, ej] at h
      have ox := sortedLots_own slot n x (List.mem_of_getElem? hx)
      have oy := sortedLots_own slot n y (List.mem_of_getElem? hy)
      rw [ha] at ox; rw [hb] at oy
      rw [ox, oy] at h
      cases h2 : ltOf lotCmp (lotAt slot a) (lotAt slot b) with
      | true => rfl
      | false => exact absurd (congrArg Lot.n (lot_total _ _ h2 h)) hne

/-- The least of those that are left is the next one. -/
theorem ranks_next (slot n k m : Nat) (hk : k < n) (hm : m < n) (hT : m ∉ (ranks slot n).take k)
    (hb : ∀ i, i < n → i ∉ (ranks slot n).take k → i ≠ m → ltOf lotCmp (lotAt slot m) (lotAt slot i) = true) : (ranks slot n)[k]? = some m := by
  obtain ⟨x, hx⟩ : ∃ x, (ranks slot n)[k]? = some x := ⟨_, List.getElem?_eq_getElem (by rw [ranks_length]; exact hk)⟩
  by_cases he : x = m
  · rw [hx, he]
  · exfalso
    have hxm : x ∈ ranks slot n := List.mem_of_getElem? hx
    have hxT : x ∉ (ranks slot n).take k := fun h => by
      obtain ⟨i, hi⟩ := List.mem_iff_getElem?.1 h
      rw [List.getElem?_take] at hi
      split at hi
      · have := (List.getElem?_inj (List.getElem?_eq_some_iff.1 hi).1 (ranks_nodup slot n)).1 (hi.trans hx.symm)
        omega
      · cases hi
    have h1 := hb x ((ranks_mem slot n x).1 hxm) hxT he
    obtain ⟨j, hj⟩ := List.mem_iff_getElem?.1 ((ranks_mem slot n m).2 hm)
    have hjk : ¬ j < k := fun h => hT (List.mem_iff_getElem?.2 ⟨j, by rw [List.getElem?_take, if_pos h]; exact hj⟩)
    have hjk2 : j ≠ k := fun h => by subst h; rw [hx] at hj; exact he (Option.some.inj hj)
    have h2 := ranks_lt slot n (show k < j by omega) hx hj
    rw [lot_asymm _ _ h1] at h2
    cases h2

/-- While there are some left. -/
theorem ranks_left (slot n k : Nat) (hk : k < n) : ∃ i, i < n ∧ i ∉ (ranks slot n).take k := by
  obtain ⟨x, hx⟩ : ∃ x, (ranks slot n)[k]? = some x := ⟨_, List.getElem?_eq_getElem (by rw [ranks_length]; exact hk)⟩
  refine ⟨x, (ranks_mem slot n x).1 (List.mem_of_getElem? hx), fun h => ?_⟩
  obtain ⟨i, hi⟩ := List.mem_iff_getElem?.1 h
  rw [List.getElem?_take] at hi
  split at hi
  · have := (List.getElem?_inj (List.getElem?_eq_some_iff.1 hi).1 (ranks_nodup slot n)).1 (hi.trans hx.symm)
    omega
  · cases hi

/-- A slot's committee, of n validators and c members. -/
def comm (slot : Int) (n c : Nat) : List Nat := if 0 ≤ slot ∧ slot ≤ 1073741824 then (ranks slot.toNat n).take c else []
theorem comm_length (slot : Int) (n c : Nat) (h : 0 ≤ slot ∧ slot ≤ 1073741824) (hc : c ≤ n) : (comm slot n c).length = c := by
  rw [comm, if_pos h, List.length_take, ranks_length]; omega
theorem comm_mem (slot : Int) (n c i : Nat) (h : i ∈ comm slot n c) : i < n := by
  rw [comm] at h
  split at h
  · exact (ranks_mem _ n i).1 (List.mem_of_mem_take h)
  · cases h
theorem comm_nodup (slot : Int) (n c : Nat) : (comm slot n c).Nodup := by
  rw [comm]
  split
  · exact (ranks_nodup _ n).sublist (List.take_sublist _ _)
  · exact List.nodup_nil
theorem comm_le (slot : Int) (n c : Nat) : (comm slot n c).length ≤ c := by
  rw [comm]
  split
  · rw [List.length_take]; omega
  · simp
end Go.Proofs.YtnbdpalbompjlaaDoor

/-
  Where a number stands in a list; who is picked: plain mathematics.
-/
namespace Go.Proofs.YtnbdpalbompjlaaDoor
open Go.RowKit
set_option maxRecDepth 10000

/-- Where a number stands, from i on; -1: nowhere. -/
def placeFrom (who : Int) : Nat → List Nat → Int
  | _, [] => -1
  | i, x :: r => if (x : Int) = who then i else placeFrom who (i + 1) r
/-- The first one; -1: there is none. -/
def firstOf : List Nat → Int
  | [] => -1
  | x :: _ => x

/-- Those for whose place the row says yes. -/
def pickL : List Nat → List Bool → List Nat
  | x :: l, y :: r => if y = true then x :: pickL l r else pickL l r
  | _, _ => []
theorem pickL_snoc : ∀ {l : List Nat} {r : List Bool} {j x : Nat} {y : Bool}, l[j]? = some x → r[j]? = some y → pickL (l.take (j + 1)) (r.take (j + 1)) = pickL (l.take j) (r.take j) ++ (if y = true then [x] else [])
  | a :: l, b :: r, 0, x, y, hx, hy => by
    simp at hx hy; subst hx; subst hy
    cases b <;> simp [pickL]
  | a :: l, b :: r, j + 1, x, y, hx, hy => by
    simp at hx hy
    have ih := pickL_snoc (l := l) (r := r) hx hy
    rw [List.take_succ_cons, List.take_succ_cons, List.take_succ_cons, List.take_succ_cons, pickL, pickL, ih]
    cases b <;> simp
  | [], _, _, _, _, hx, _ => by simp at hx
  | _ :: _, [], _, _, _, _, hy => by simp at hy
theorem pickL_le : ∀ (l : List Nat) (r : List Bool), (pickL l r).length ≤ l.length
  | [], _ => by simp [pickL]
  | _ :: _, [] => by simp [pickL]
  | a :: l, b :: r => by
    have := pickL_le l r
    rw [pickL]
    split
    · simp; exact this
    · simp; omega

/-- The row is one of the committee. -/
def fits (l : List Nat) (r : List Bool) : Bool := decide (l.length ≠ 0) && decide (r.length = l.length)
/-- Who is picked. -/
def picked (l : List Nat) (r : List Bool) : List Nat := if fits l r = true then pickL l r else []
end Go.Proofs.YtnbdpalbompjlaaDoor

/-
  Keys of tags: bytes exclusive or'd with a byte, filled up to 64; what masked answers.
-/
namespace Go.Proofs.YtnbdpalbompjlaaDoor
open Go.RowKit
set_option maxRecDepth 10000

def mask (m : UInt8) (l : List UInt8) : List UInt8 := l.map fun b => b ^^^ m
theorem mask_length (m : UInt8) (l : List UInt8) : (mask m l).length = l.length := by simp [mask]
/-- The first i bytes are turned. -/
def maskN (m : UInt8) (l : List UInt8) (i : Nat) : List UInt8 := mask m (l.take i) ++ l.drop i
theorem maskN_length (m : UInt8) (l : List UInt8) (i : Nat) : (maskN m l i).length = l.length := by
  simp [maskN, mask]
  omega
theorem maskN_zero (m : UInt8) (l : List UInt8) : maskN m l 0 = l := by simp [maskN, mask]
theorem maskN_all (m : UInt8) (l : List UInt8) (i : Nat) (h : l.length ≤ i) : maskN m l i = mask m l := by
  rw [maskN, List.take_of_length_le h, List.drop_of_length_le h, List.append_nil]
theorem maskN_at (m : UInt8) (l : List UInt8) (i : Nat) (h : i < l.length) : (maskN m l i)[i]? = some (l.getD i 0) := by
  rw [maskN, List.getElem?_append_right (by rw [mask_length, List.length_take]; omega), mask_length, List.length_take, Nat.min_eq_left (by omega), Nat.sub_self, List.getElem?_drop, Nat.add_zero]
  exact getD_some l i h
theorem maskN_set (m : UInt8) (l : List UInt8) (i : Nat) (h : i < l.length) : (maskN m l i).set i (l.getD i 0 ^^^ m) = maskN m l (i + 1) := by
  have hl : (mask m (l.take i)).length = i := by rw [mask_length, List.length_take]; omega
  have hd : l.drop i = l.getD i 0 :: l.drop (i + 1) := by
    rw [List.drop_eq_getElem_cons h, List.getD_eq_getElem?_getD, List.getElem?_eq_getElem h]; rfl
  rw [maskN, List.set_append_right _ _ (by omega), hl, Nat.sub_self, hd, List.set_cons_zero, maskN, List.take_add_one, getD_some l i (x := 0) h]
  simp [mask]

theorem ofInt8 (a : Nat) : BitVec.ofInt 8 (a : Int) = BitVec.ofNat 8 a := by simp
theorem rule_xor8 (a b : UInt8) : bits .xor .u8 (a.toNat : Int) (b.toNat : Int) = (((a ^^^ b).toNat : Nat) : Int) := by
  have ha := a.toNat_lt
  have hb := b.toNat_lt
  have hx : a.toNat ^^^ b.toNat < 2 ^ 8 := Nat.xor_lt_two_pow (by omega) (by omega)
  rw [bits, show IntKind.u8.bits = 8 from rfl, ofInt8, ofInt8]
  simp only [BitVec.toNat_xor, BitVec.toNat_ofNat, UInt8.toNat_xor]
  rw [Nat.mod_eq_of_lt (by omega : a.toNat < 2 ^ 8), Nat.mod_eq_of_lt (by omega : b.toNat < 2 ^ 8)]
  simp [IntKind.wrap, IntKind.bits, IntKind.signed]
  omega

theorem bv_set (l : List UInt8) (j : Nat) (x : UInt8) : (bv l).set j (.int .u8 (x.toNat : Int)) = bv (l.set j x) := by simp [bv, List.map_set]
theorem bv_some {l : List UInt8} {j : Nat} {x : UInt8} (h : l[j]? = some x) : (bv l)[j]? = some (.int .u8 (x.toNat : Int)) := by simp [bv, h]

def MaskRel (w : World) (K : List UInt8) (m : UInt8) (x : Value) (wr : World) : Prop :=
  ∃ i : Nat, x = .int .i64 (i : Int) ∧ i ≤ 64 ∧ Blk wr w.heap.size 82 (bv (maskN m K i)) ∧ Below w.heap.size w wr

set_option maxHeartbeats 1000000 in
theorem masked_any (w : World) (K : List UInt8) (m : UInt8) (hK : K.length = 64) :
    Calls Tryd.prog 51 #[.agg (bv K).toArray, .int .u8 (m.toNat : Int)] w fun e w' => e = .returned (.string ⟨(mask m K).toArray⟩) ∧ Below w.heap.size w w' := by
  have HK := Lib.hid hK
  clear hK
  go_enter Tryd.func51, Tryd.ntmps51
  go_wp2_with fail
  go_loopw [6] (fun x wr => MaskRel w K m x wr) (fun x _ => 64 - intN x)
  case atStart =>
    refine ⟨0, rfl, by omega, ?_, (Below.refl _ _).alloc (Nat.le_refl _) _⟩
    rw [maskN_zero]
    exact Blk.new w 82 (bv K).toArray
  case round =>
    obtain ⟨i, rfl, hi, hR, hB⟩ := hrel
    by_cases hlt : i < 64
    · have d0 : (i : Int) < 64 := by omega
      have hiK : i < K.length := by rw [HK.out]; exact hlt
      obtain ⟨b, hb⟩ : ∃ b, b = K.getD i 0 := ⟨_, rfl⟩
      have q := (hR.cell i).trans (bv_some (maskN_at m K i hiK))
      rw [← hb] at q
      have f := hR.free i
      have r := rule_xor8 b m
      have hR2 := hR.set i (.int .u8 (((b ^^^ m).toNat : Nat) : Int))
      rw [bv_set, hb, maskN_set m K i hiK, ← hb] at hR2
      have HR2 := Lib.hid hR2
      have HB2 := Lib.hid (hB.setCell (p := ⟨w.heap.size, i, none⟩) (Nat.le_refl _) (.int .u8 (((b ^^^ m).toNat : Nat) : Int)))
      clear hR hR2 hB hb
      go_wp2_with fail
      refine ⟨⟨i + 1, by simp, by omega, HR2.out, HB2.out⟩, ?_⟩
      simp only [intN]
      omega
    · obtain rfl : i = 64 := by omega
      rw [maskN_all m K 64 (by rw [HK.out]; omega)] at hR
      have hcv := conv_bytes hR
      rw [mask_length, HK.out] at hcv
      have HB := Lib.hid hB
      clear hB hR
      go_wp2_with fail
      go_ret
      exact ⟨rfl, HB.out⟩
end Go.Proofs.YtnbdpalbompjlaaDoor

/-
  What fill answers: the key, or its digest, filled up with bytes 0 to 64.
-/
namespace Go.Proofs.YtnbdpalbompjlaaDoor
open Go.RowKit
set_option maxRecDepth 10000

/-- The key, or its digest. -/
def keyB (k : List UInt8) : List UInt8 := if 64 < k.length then digest k else k
def fillK (k : List UInt8) : List UInt8 := keyB k ++ List.replicate (64 - (keyB k).length) 0
theorem keyB_le (k : List UInt8) : (keyB k).length ≤ 64 := by
  unfold keyB
  split
  · rw [digest_length]; omega
  · omega
theorem fillK_length (k : List UInt8) : (fillK k).length = 64 := by
  have := keyB_le k
  simp [fillK]; omega

/-- Bytes 0, as cells. -/
def zb (n : Nat) : List Value := bv (List.replicate n 0)
theorem zb_length (n : Nat) : (zb n).length = n := by simp [zb, bv]
theorem splice_zb (n : Nat) (cs : List UInt8) : splice (zb n) 0 (bv cs) = bv (cs ++ List.replicate (n - cs.length) 0) := by
  rw [zb, bv_splice]
  congr 1
  rw [splice, List.take_zero, List.nil_append, List.drop_replicate, Nat.zero_add]

theorem Tryd.zero82 : (Tryd.prog.info? 82).map (fun i => (i.zero, i.size)) = some (some (.agg (zb 64).toArray), 64) := by kernel_rfl
theorem Tryd.zero26 : (Tryd.prog.info? 26).map (fun i => (i.zero, i.size)) = some (some (.agg (zb 32).toArray), 32) := by kernel_rfl

set_option maxHeartbeats 4000000 in
theorem fill_any (w : World) (k : List UInt8) (hT : Tabs w) (hk : k.length ≤ 100000) :
    Calls Tryd.prog 50 #[.string ⟨k.toArray⟩] w fun e w' => e = .returned (.agg (bv (fillK k)).toArray) ∧ Below w.heap.size w w' := by
  obtain ⟨S, hS⟩ : ∃ S : ByteArray, S = ⟨k.toArray⟩ := ⟨_, rfl⟩
  have zS : S.size = k.length := by rw [hS]; simp [ByteArray.size]
  have HSS := Lib.hid hS
  have hz := (zero_of_info Tryd.zero82).1
  have hz2 := (zero_of_info Tryd.zero26).1
  have hb0 := (Blk.new w 82 (zb 64).toArray).alloc (.cells (zb 64).toArray 82)
  have hb1 := Blk.new (w.alloc (.cells (zb 64).toArray 82)) 82 (zb 64).toArray
  simp only [World.size_alloc] at hb1
  have hB : Below w.heap.size w ((w.alloc (.cells (zb 64).toArray 82)).alloc (.cells (zb 64).toArray 82)) := ((Below.refl _ _).alloc (Nat.le_refl _) _).alloc (by simp) _
  have H0 := Lib.hid hb0
  have H1 := Lib.hid hb1
  have HB := Lib.hid hB
  have HT := Lib.hid hT
  clear hb0 hb1 hB hT
  rw [← hS]
  clear hS
  go_enter Tryd.func50, Tryd.ntmps50
  have HE := Lib.hid (show ∀ (w5 : World), Blk w5 (w.heap.size + 1) 82 (bv (fillK k)) → Blk w5 w.heap.size 82 (zb 64) → Below w.heap.size w w5 → (∀ j v, (bv (fillK k))[j]? = some v → w5.cell? ⟨w.heap.size + 1, 0 + j, none⟩ = some v) ∧ (Tryd.prog.info? 82).map (·.size) = some (bv (fillK k)).length ∧ 0 + (bv (fillK k)).length ≤ (zb 64).length ∧ splice (zb 64) 0 (bv (fillK k)) = bv (fillK k) ∧ Blk (w5.setRow w.heap.size (bv (fillK k)).toArray) w.heap.size 82 (bv (fillK k)) ∧ Below w.heap.size w (w5.setRow w.heap.size (bv (fillK k)).toArray) from fun w5 h1 h0 hB =>
    ⟨h1.cells, by rw [bv_length, fillK_length]; exact Tryd.size82, by rw [bv_length, fillK_length, zb_length]; omega, splice_all _ _ (by rw [bv_length, fillK_length, zb_length]), h0.setRow _, below_setRow hB (Nat.le_refl _) _⟩)
  by_cases h64 : 64 < k.length
  · have d : (64 : Int) < (k.length : Int) := by omega
    go_wp2_with fail
    have hof := of_one ((w.alloc (.cells (zb 64).toArray 82)).alloc (.cells (zb 64).toArray 82)) k (HT.out.below HB.out HT.out.size) hk
    rw [← HSS.out] at hof
    simp only [World.size_alloc] at hof
    refine hof.mono ?_
    clear hof
    rintro e w2 ⟨rfl, hb2⟩
    have h0 := H0.out.below hb2 (by have := H0.out.lt; simp only [World.size_alloc] at this; exact this)
    have h1 := H1.out.below hb2 (by have := H1.out.lt; simp only [World.size_alloc] at this; exact this)
    have hB2 : Below w.heap.size w w2 := HB.out.trans (hb2.mono (by omega))
    obtain ⟨D, hD⟩ : ∃ D, D = digest k := ⟨_, rfl⟩
    have hDl : D.length = 32 := by rw [hD]; exact digest_length _
    rw [← hD]
    have HD := Lib.hid (show fillK k = D ++ List.replicate (64 - D.length) 0 by rw [fillK, keyB, if_pos h64, hD])
    clear hD hb2 H0 H1 HB hz
    have hn := Blk.new w2 26 (zb 32).toArray
    have hlt0 : w.heap.size < w2.heap.size := h0.lt
    have hlt1 : w.heap.size + 1 < w2.heap.size := h1.lt
    have HN := Lib.hid hn
    have HS' := Lib.hid (hn.setRow (bv D))
    have H0 := Lib.hid ((h0.alloc (.cells (zb 32).toArray 26)).setRow_other (bv D).toArray (show w.heap.size ≠ w2.heap.size by omega))
    have H1 := Lib.hid ((h1.alloc (.cells (zb 32).toArray 26)).setRow_other (bv D).toArray (show w.heap.size + 1 ≠ w2.heap.size by omega))
    have HB3 := Lib.hid (below_setRow (hB2.alloc (by omega) (.cells (zb 32).toArray 26)) (show w.heap.size ≤ w2.heap.size by omega) (bv D).toArray)
    have HZ := Lib.hid (show (Tryd.prog.info? 26).map (·.size) = some (bv D).length by rw [bv_length, hDl]; exact Tryd.size26)
    have HL := Lib.hid (show 0 + (bv D).length ≤ (zb 32).toArray.toList.length by rw [bv_length, hDl]; simp [zb_length])
    have HP := Lib.hid (splice_all (zb 32).toArray.toList (bv D) (by rw [bv_length, hDl]; simp [zb_length]))
    clear h0 h1 hn hB2
    go_wp2_with ((with_reducible refine wpList_store_part ?_ 26 (.tmp 4) (.tmp 10) ?_ w2.heap.size 0 (bv D) ?_ ?_ 26 _ HN.out HZ.out HL.out (bv_one _) ?_); rfl; rfl; rfl; rfl; rw [HP.out])
    simp only [Act.put]
    generalize (w2.alloc (.cells (zb 32).toArray 26)).setRow w2.heap.size (bv D).toArray = w3 at HS' H0 H1 HB3 ⊢
    refine wp_region_draws_tail 2 (by kernel_rfl) (by kernel_rfl) ?_
    simp only [List.take_succ_cons, List.take_zero, List.drop_succ_cons, List.drop_zero]
    repeat (go_big_quiet_step (fail))
    refine wpQuiet_nil ?_
    rintro _ ⟨nq, rfl⟩
    have g0 := H0.out.drewN nq
    have g1 := H1.out.drewN nq
    have gs := HS'.out.drewN nq
    have gb := below_drewN' HB3.out nq
    generalize w3.drewN nq = w4 at g0 g1 gs gb ⊢
    clear HN H0 H1 HS' HB3 HZ HL HP hz2
    refine wpList_copy_splice rfl (.tmp 11) (.tmp 12) 86 86 rfl 5 Tryd.underlying86 Tryd.size5 _ _ 64 64 32 32 rfl rfl (w.heap.size + 1) 0 (zb 64) 82 g1 (bv D) ?_ (fun _ => ⟨rfl, ⟨w2.heap.size, 0, none⟩, rfl, ?_⟩) ?_ (bv_one _) (w.heap.size + 1) w4 (Below.refl _ _) (Nat.le_refl _) ?_
    · rw [bv_length, hDl]; rfl
    · intro j v hj
      rw [Addr.add_lit, Nat.zero_add, gs.cell]; exact hj
    · rw [bv_length, zb_length, hDl]; omega
    intro w5 HG5 hB5
    have hg5 := HG5.out
    rw [splice_zb 64 D, ← HD.out] at hg5
    obtain ⟨e1, e2, e3, e4, e5, e6⟩ := HE.out w5 hg5 (g0.below hB5 (by omega)) (gb.trans (hB5.mono (by omega)))
    have HR0 := Lib.hid (g0.below hB5 (by omega))
    have E1 := Lib.hid e1
    have E2 := Lib.hid e2
    have E3 := Lib.hid e3
    have E4 := Lib.hid e4
    have E5 := Lib.hid e5
    have E6 := Lib.hid e6
    clear HG5 g0 g1 gs gb hB5 HD hlt0 hlt1 hg5 e1 e2 e3 e4 e5 e6 HE
    generalize hF : fillK k = F at *
    have HF := Lib.hid hF
    clear hF
    go_wp2_with (first
        | ((with_reducible refine wpList_load_cells ?_ 82 (.tmp 3) ?_ _ 0 _ ?_ 64 5 E1.out Tryd.underlying82 E2.out ?_); rfl; rfl; rfl)
        | ((with_reducible refine wpList_store_part ?_ 82 (.tmp 2) (.tmp 14) ?_ w.heap.size 0 (bv F) ?_ ?_ 82 _ HR0.out E2.out E3.out (bv_one _) ?_); rfl; rfl; rfl; rfl; rw [E4.out]))
    refine bodyPost_ret (v := .agg (bv F).toArray) ?_ rfl ⟨by rw [HF.out], E6.out⟩
    exact results_cell_row rfl _ _ w.heap.size 82 _ (0, 0) (.array 64 5) rfl E5.out Tryd.underlying82 rfl (by rw [List.size_toArray]; exact E2.out)
  · have d : ¬ (64 : Int) < (k.length : Int) := by omega
    generalize hW : (w.alloc (.cells (zb 64).toArray 82)).alloc (.cells (zb 64).toArray 82) = W at H0 H1 HB
    have HW := Lib.hid hW
    clear hW
    have hFK : splice (zb 64) 0 (bv (k.take k.length)) = bv (fillK k) := by rw [splice_zb, List.take_length, fillK, keyB, if_neg h64]
    have hm : min k.length 64 = k.length := by omega
    have hg5 := H1.out.setRow (bv (fillK k))
    have hr5 := H0.out.setRow_other (bv (fillK k)).toArray (show w.heap.size ≠ w.heap.size + 1 by omega)
    obtain ⟨e1, e2, e3, e4, e5, e6⟩ := HE.out _ hg5 hr5 (below_setRow HB.out (show w.heap.size ≤ w.heap.size + 1 by omega) _)
    have HR0 := Lib.hid hr5
    have E1 := Lib.hid e1
    have E2 := Lib.hid e2
    have E3 := Lib.hid e3
    have E4 := Lib.hid e4
    have E5 := Lib.hid e5
    have E6 := Lib.hid e6
    have HFK := Lib.hid hFK
    have HM := Lib.hid hm
    have HL := Lib.hid (show 0 + k.length ≤ (zb 64).length by rw [zb_length]; omega)
    clear hg5 hr5 e1 e2 e3 e4 e5 e6 HE hz2 hFK hm HB H0
    generalize hF : fillK k = F at *
    have HF := Lib.hid hF
    clear hF
    go_wp2_with (first
        | ((with_reducible refine wpList_copy_string ?_ (.tmp 15) (.tmp 16) 86 9 ?_ 5 Tryd.underlying86 Tryd.size5 (w.heap.size + 1) 0 64 64 k k.length HM.out ?_ ?_ (zb 64) 82 ?_ HL.out ?_); rfl; rfl; rfl; (rw [← HSS.out]; rfl); (rw [HW.out]; exact H1.out); rw [HFK.out, HW.out])
        | ((with_reducible refine wpList_load_cells ?_ 82 (.tmp 3) ?_ _ 0 _ ?_ 64 5 E1.out Tryd.underlying82 E2.out ?_); rfl; rfl; rfl)
        | ((with_reducible refine wpList_store_part ?_ 82 (.tmp 2) (.tmp 18) ?_ w.heap.size 0 (bv F) ?_ ?_ 82 _ HR0.out E2.out E3.out (bv_one _) ?_); rfl; rfl; rfl; rfl; rw [E4.out]))
    refine bodyPost_ret (v := .agg (bv F).toArray) ?_ rfl ⟨rfl, E6.out⟩
    exact results_cell_row rfl _ _ w.heap.size 82 _ (0, 0) (.array 64 5) rfl E5.out Tryd.underlying82 rfl (by rw [List.size_toArray]; exact E2.out)
end Go.Proofs.YtnbdpalbompjlaaDoor
