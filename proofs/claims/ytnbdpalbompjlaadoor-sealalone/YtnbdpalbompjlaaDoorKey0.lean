/-
  Tags of one text; keys that are filled up.
-/
import Derived.Test.YtnbdpalbompjlaaDoorM10
namespace Go.Proofs.YtnbdpalbompjlaaDoor
open Go.RowKit
set_option maxRecDepth 10000

theorem tag_eq (w : World) (r s : List UInt8) (hr : r.length = 16) (hs : s.length = 16) : (Op.equalIn 10000 30 (.agg (bv r).toArray) (.agg (bv s).toArray)).run Tryd.prog w = .ok (r == s) w :=
  run_equalIn_bytes w 9998 30 5 16 Tryd.underlying30 Tryd.underlying5 sizeOf5 r s hr hs

theorem macOf_one (w : World) (k s : List UInt8) (hT : Tabs w) (hk : k.length ≤ 100000) (hs : s.length ≤ 100000) :
    Calls Tryd.prog 35 #[.string ⟨k.toArray⟩, .slice (some ⟨w.heap.size, 0, none⟩) 1 1] (w.alloc (.cells #[.string ⟨s.toArray⟩] 9)) fun e w' => e = .returned (.agg (bv (tag k s)).toArray) ∧ Below w.heap.size w w' := by
  have hb : Below w.heap.size w (w.alloc (.cells #[.string ⟨s.toArray⟩] 9)) := (Below.refl _ _).alloc (Nat.le_refl _) _
  refine (macOf_any _ k _ 1 1 w.heap.size 0 [s] (hT.below hb hT.size) hk rfl (by omega) (str_one w s) (by simpa using hs)).mono fun e w' ⟨h1, h2⟩ => ⟨?_, hb.trans (h2.mono hb.size)⟩
  rw [h1]
  simp

/-- A key, filled up with bytes 0. -/
def zeros (k : List UInt8) (n : Nat) : List UInt8 := k ++ List.replicate n 0
theorem zeros_length (k : List UInt8) (n : Nat) : (zeros k n).length = k.length + n := by simp [zeros]
theorem zeros_succ (k : List UInt8) (n : Nat) : zeros k n ++ [0] = zeros k (n + 1) := by simp [zeros, List.replicate_succ']
theorem tag_zeros (k s : List UInt8) (n : Nat) (h : k.length + n ≤ 64) : tag (zeros k n) s = tag k s := by
  have : fillK (zeros k n) = fillK k := by
    rw [fillK, fillK, keyB, keyB, if_neg (by rw [zeros_length]; omega), if_neg (by omega), zeros, List.append_assoc, List.replicate_append_replicate]
    simp
    omega
  rw [tag, tag, outer, outer, inner, inner, this]

end Go.Proofs.YtnbdpalbompjlaaDoor
