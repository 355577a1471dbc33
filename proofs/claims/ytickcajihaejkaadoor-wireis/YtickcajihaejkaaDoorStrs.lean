/-
  Lists of texts that a law makes, and what Of answers of them.
-/
import Derived.Test.YtickcajihaejkaaDoorOf
import Derived.Stop.BytesEq
namespace Go.Proofs.YtickcajihaejkaaDoor
open Go.RowKit

theorem digest_length (bs : List UInt8) : (digest bs).length = 32 := by
  rw [digest, flat_length, runN_length _ _ rfl]

theorem string_same (l r : List UInt8) : ((ByteArray.mk l.toArray).toList == (ByteArray.mk r.toArray).toList) = (l == r) := by
  rw [ByteArray.toList_eq, ByteArray.toList_eq]

theorem Tryd.info9 : (Tryd.prog.info? 9).map (fun i => (i.zero, i.size, i.bytes)) = some (some (.string ⟨#[]⟩), 1, 16) := by kernel_rfl

/-- Texts as cells. -/
def sv (ss : List (List UInt8)) : List Value := ss.map fun s => Value.string ⟨s.toArray⟩
theorem sv_length (ss : List (List UInt8)) : (sv ss).length = ss.length := by simp [sv]
theorem sv_at {ss : List (List UInt8)} {j : Nat} {s : List UInt8} (h : ss[j]? = some s) : (sv ss)[j]? = some (.string ⟨s.toArray⟩) := by simp [sv, h]
theorem sv_one (ss : List (List UInt8)) : ∀ v ∈ sv ss, v.oneCell' = true := by
  intro v hv; rw [sv, List.mem_map] at hv; obtain ⟨x, _, rfl⟩ := hv; rfl
theorem sv_append (a b : List (List UInt8)) : sv (a ++ b) = sv a ++ sv b := by simp [sv]

theorem Held.strs {w : World} {base : Nat} {v : Value} {ss : List (List UInt8)} (h : Held w base v (sv ss)) : ∃ ao cap b off, v = .slice ao ss.length cap ∧ StrAt w w.heap.size ao b off ss := by
  obtain ⟨n, cap, g, off, ao, rfl, h⟩ := h
  have hl := h.len
  rw [sv_length] at hl
  subst hl
  exact ⟨ao, cap, g, off, rfl, fun h0 => h.addr (Nat.lt_of_lt_of_le h0 h.le), fun h0 => h.lt (Nat.lt_of_lt_of_le h0 h.le), fun j s hj => h.cells j _ (sv_at hj)⟩

theorem of_held {w : World} {base : Nat} {v : Value} {ss : List (List UInt8)} (h : Held w base v (sv ss)) (hT : Tabs w) (hn : ss.length ≤ 100000) (hl : ∀ s ∈ ss, s.length ≤ 100000) :
    Calls Tryd.prog 22 #[v] w fun e w' => e = .returned (.agg (bv (digest ss.flatten)).toArray) ∧ Below w.heap.size w w' := by
  obtain ⟨ao, cap, b, off, rfl, hs⟩ := h.strs
  exact of_any w ao ss.length cap b off ss hT rfl hn hs hl

theorem str_one (w : World) (s : List UInt8) : StrAt (w.alloc (.cells #[.string ⟨s.toArray⟩] 9)) (w.alloc (.cells #[.string ⟨s.toArray⟩] 9)).heap.size (some ⟨w.heap.size, 0, none⟩) w.heap.size 0 [s] := by
  refine ⟨fun _ => rfl, fun _ => by simp, fun j x hj => ?_⟩
  rw [Nat.zero_add, (Blk.new w 9 #[.string ⟨s.toArray⟩]).cell]
  match j, hj with
  | 0, hj => simp at hj; subst hj; rfl

/-- Of one text that was just built. -/
theorem of_one (w : World) (s : List UInt8) (hT : Tabs w) (hl : s.length ≤ 100000) :
    Calls Tryd.prog 22 #[.slice (some ⟨w.heap.size, 0, none⟩) 1 1] (w.alloc (.cells #[.string ⟨s.toArray⟩] 9)) fun e w' => e = .returned (.agg (bv (digest s)).toArray) ∧ Below w.heap.size w w' := by
  have hb : Below w.heap.size w (w.alloc (.cells #[.string ⟨s.toArray⟩] 9)) := (Below.refl _ _).alloc (Nat.le_refl _) _
  refine (of_any _ _ 1 1 w.heap.size 0 [s] (hT.below hb hT.size) rfl (by omega) (str_one w s) (by simpa using hl)).mono fun e w' ⟨h1, h2⟩ => ⟨?_, hb.trans (h2.mono hb.size)⟩
  rw [h1]
  simp

theorem root_eq (w : World) (r s : List UInt8) (hr : r.length = 32) (hs : s.length = 32) : (Op.equalIn 10000 23 (.agg (bv r).toArray) (.agg (bv s).toArray)).run Tryd.prog w = .ok (r == s) w :=
  run_equalIn_bytes w 9998 23 5 32 Tryd.underlying23 Tryd.underlying5 sizeOf5 r s hr hs

/-- A text that was just built, as append's source. -/
theorem src_str {P : Program} (w : World) (t : TypeId) (ht : P.underlying t = some (.slice 9)) (s : List UInt8) : Src P 1 t (.slice (some ⟨w.heap.size, 0, none⟩) 1 1) 1 (sv [s]) (w.alloc (.cells #[.string ⟨s.toArray⟩] 9)) := by
  refine Src.ofSlice _ ht _ 1 1 _ rfl ?_ (sv_one _)
  intro i x hi
  match i, hi with
  | 0, hi => simp [sv] at hi; subst hi; simp [Addr.add]

/-- Texts that lie in memory, as append's source. -/
theorem StrAt.src {P : Program} {w : World} {B b off : Nat} {ao : Option Addr} {ss : List (List UInt8)} (h : StrAt w B ao b off ss) (cap : Nat) (t : TypeId) (ht : P.underlying t = some (.slice 9)) : Src P 1 t (.slice ao ss.length cap) ss.length (sv ss) w := by
  by_cases h0 : ss.length = 0
  · obtain rfl : ss = [] := List.eq_nil_of_length_eq_zero h0
    cases ao with
    | none => exact Src.ofNil w ht cap
    | some a => exact Src.ofSlice w ht a 0 cap [] rfl (fun j u hj => by simp at hj) (fun u hu => by simp at hu)
  · have ha := h.addr (by omega)
    subst ha
    refine Src.ofSlice w ht ⟨b, off, none⟩ _ cap (sv ss) (by rw [sv_length, Nat.mul_one]) (fun j u hj => ?_) (sv_one ss)
    rw [sv, List.getElem?_map] at hj
    cases hx : ss[j]? with
    | none => rw [hx] at hj; cases hj
    | some x => rw [hx] at hj; cases hj; rw [Addr.add_lit]; exact h.cells j x hx

theorem held_empty (w : World) (e : TypeId) (a : Nat) (h : w.heap.size ≤ a) : Held (w.alloc (.cells #[] e)) w.heap.size (.slice (some ⟨a, 0, none⟩) 0 0) [] :=
  ⟨0, 0, 0, 0, _, rfl, rfl, Nat.le_refl _, Nat.zero_le _, fun h => absurd h (by omega), fun a' ha => by cases ha; exact h, fun h => absurd h (by omega), fun j u h => by simp at h, fun j h => absurd h (by omega), fun j h => absurd h (by omega)⟩

/-- Texts without bytes that were made. -/
theorem made_strs (w : World) (n : Nat) : StrAt (w.alloc (.cells (madeCells (Value.string ⟨#[]⟩).cells n) 9)) (w.alloc (.cells (madeCells (Value.string ⟨#[]⟩).cells n) 9)).heap.size (some ⟨w.heap.size, 0, none⟩) w.heap.size 0 (List.replicate n []) := by
  have hs : (madeCells (Value.string ⟨#[]⟩).cells n).size = n := size_madeCells _ _
  refine ⟨fun _ => rfl, fun _ => by simp, fun j s hj => ?_⟩
  have hjn : j < n := by have := (List.getElem?_eq_some_iff.1 hj).1; simpa using this
  rw [List.getElem?_replicate, if_pos hjn] at hj
  cases hj
  rw [Nat.zero_add, World.cell?_alloc_mark, Array.getElem?_eq_getElem (by omega)]
  simp [madeCells, Value.cells, Nat.mod_one]
end Go.Proofs.YtickcajihaejkaaDoor
