/-
  Regions that draw their order, in the worlds that agree below what was there; Show and Less there; digits.
-/
import Derived.Test.YtbjofbkncpedmaaDoorLess
namespace Go.Proofs.YtbjofbkncpedmaaDoor
open Go.RowKit

theorem wp_region_class {P : Program} {C : World → Prop} {id : Nat} {Q : Exit → Act → World → Prop} {a : Act} {w : World} {l : List Oper} (hm : P.follows .mixedOrders = true) (hB : Region.lexB .any l.toArray = true) (hC : C w.drew)
    (h : wpQuiet P l.toArray C (fun a' => ∀ w', C w' → Q .normal a' w') l a) : (Code.region id l.toArray true).wp P Q a w :=
  wp_region_quiet (C := C) hm hB hC (by simpa using h)

theorem show_in {w w' : World} (hb : Below w.heap.size w w') (r : List UInt8) (hr : r.length = 32) (S : ByteArray) (hS : S = ⟨(show_ r).toArray⟩) :
    Calls Tryd.prog 13 #[.agg (bv r).toArray] w' fun e w'' => e = .returned (.string S) ∧ Below w.heap.size w w'' :=
  (show_any w' r hr).mono fun _ _ ⟨h1, h2⟩ => ⟨by rw [h1, hS], hb.trans (h2.mono hb.size)⟩
theorem less_in {w w' : World} (hb : Below w.heap.size w w') (r s : List UInt8) (hr : r.length = 32) (hs : s.length = 32) (b : Bool) (h : lessB r s = b) :
    Calls Tryd.prog 11 #[.agg (bv r).toArray, .agg (bv s).toArray] w' fun e w'' => e = .returned (.bool b) ∧ Below w.heap.size w w'' :=
  (less_any w' r s hr hs).mono fun _ _ ⟨h1, h2⟩ => ⟨by rw [h1, h], hb.trans (h2.mono hb.size)⟩
theorem root_cells {w : World} {g : Nat} {r : List UInt8} (h : Blk w g 23 (bv r)) : ∀ w', Below w.heap.size w w' → ∀ j v, (bv r)[j]? = some v → w'.cell? ⟨g, 0 + j, none⟩ = some v := fun w' hb j v hj => by
  rw [Nat.zero_add, (h.below hb h.lt).cell]; exact hj
theorem root_size {r : List UInt8} (hr : r.length = 32) : (Tryd.prog.info? 23).map (·.size) = some (bv r).length := by rw [bv_length, hr]; exact Tryd.size23

theorem hexd_range : ∀ n : Nat, n < 16 → (48 ≤ (hexd n).toNat ∧ (hexd n).toNat ≤ 57) ∨ (97 ≤ (hexd n).toNat ∧ (hexd n).toNat ≤ 102) := by decide +kernel
theorem hexd_lt : ∀ m n : Nat, m < 16 → n < 16 → (hexd m < hexd n ↔ m < n) := by
  have h : ∀ m : Nat, m < 16 → ∀ n : Nat, n < 16 → (hexd m < hexd n ↔ m < n) := by decide +kernel
  exact fun m n h1 h2 => h m h1 n h2
theorem hexd_inj : ∀ m n : Nat, m < 16 → n < 16 → hexd m = hexd n → m = n := by
  have h : ∀ m : Nat, m < 16 → ∀ n : Nat, n < 16 → hexd m = hexd n → m = n := by decide +kernel
  exact fun m n h1 h2 => h m h1 n h2

theorem show_cons (b : UInt8) (l : List UInt8) : show_ (b :: l) = hexd (b.toNat / 16) :: hexd (b.toNat % 16) :: show_ l := by simp [show_]

theorem show_digit : ∀ (l : List UInt8), ∀ c ∈ show_ l, (48 ≤ c.toNat ∧ c.toNat ≤ 57) ∨ (97 ≤ c.toNat ∧ c.toNat ≤ 102)
  | [], c, h => by simp [show_] at h
  | b :: l, c, h => by
    have hb := b.toNat_lt
    rw [show_cons, List.mem_cons, List.mem_cons] at h
    rcases h with rfl | rfl | h
    · exact hexd_range _ (by omega)
    · exact hexd_range _ (by omega)
    · exact show_digit l c h

theorem show_inj : ∀ (r s : List UInt8), show_ r = show_ s → r = s
  | [], [], _ => rfl
  | [], b :: s, h => by rw [show_cons] at h; simp [show_] at h
  | a :: r, [], h => by rw [show_cons] at h; simp [show_] at h
  | a :: r, b :: s, h => by
    have ha := a.toNat_lt
    have hb := b.toNat_lt
    rw [show_cons, show_cons, List.cons.injEq, List.cons.injEq] at h
    have h1 := hexd_inj _ _ (by omega) (by omega) h.1
    have h2 := hexd_inj _ _ (by omega) (by omega) h.2.1
    have hab : a = b := UInt8.toNat_inj.1 (by omega)
    rw [hab, show_inj r s h.2.2]
end Go.Proofs.YtbjofbkncpedmaaDoor
