/-
  Keys of tags: bytes exclusive or'd with a byte, filled up to 64; what masked answers.
-/
import Derived.Test.YtmkdcpnnnlihfaaDoorStrs
namespace Go.Proofs.YtmkdcpnnnlihfaaDoor
open Go.RowKit

def mask (m : UInt8) (l : List UInt8) : List UInt8 := l.map fun b => b ^^^ m
theorem mask_length (m : UInt8) (l : List UInt8) : (mask m l).length = l.length := by simp [mask]
/-- The first i bytes are turned. -/
def maskN (m : UInt8) (l : List UInt8) (i : Nat) : List UInt8 := mask m (l.take i) ++ l.drop i
theorem maskN_length (m : UInt8) (l : List UInt8) (i : Nat) : (maskN m l i).length = l.length := by
  simp [maskN, mask]
  omega
theorem maskN_zero (m : UInt8) (l : List UInt8) : maskN m l 0 = l := by simp [maskN, mask]
theorem maskN_all (m : UInt8) (l : List UInt8) (i : Nat) (h : l.length ≤ i) : maskN m l i = mask m l := by
  rw [maskN, List.take_of_length_le h, List.drop_of_length_le h, List.append_nil]
theorem maskN_at (m : UInt8) (l : List UInt8) (i : Nat) (h : i < l.length) : (maskN m l i)[i]? = some (l.getD i 0) := by
  rw [maskN, List.getElem?_append_right (by rw [mask_length, List.length_take]; omega), mask_length, List.length_take, Nat.min_eq_left (by omega), Nat.sub_self, List.getElem?_drop, Nat.add_zero]
  exact getD_some l i h
theorem maskN_set (m : UInt8) (l : List UInt8) (i : Nat) (h : i < l.length) : (maskN m l i).set i (l.getD i 0 ^^^ m) = maskN m l (i + 1) := by
  have hl : (mask m (l.take i)).length = i := by rw [mask_length, List.length_take]; omega
  have hd : l.drop i = l.getD i 0 :: l.drop (i + 1) := by
    rw [List.drop_eq_getElem_cons h, List.getD_eq_getElem?_getD, List.getElem?_eq_getElem h]; rfl
  rw [maskN, List.set_append_right _ _ (by omega), hl, Nat.sub_self, hd, List.set_cons_zero, maskN, List.take_add_one, getD_some l i (x := 0) h]
  simp [mask]

theorem ofInt8 (a : Nat) : BitVec.ofInt 8 (a : Int) = BitVec.ofNat 8 a := by simp
theorem rule_xor8 (a b : UInt8) : bits .xor .u8 (a.toNat : Int) (b.toNat : Int) = (((a ^^^ b).toNat : Nat) : Int) := by
  have ha := a.toNat_lt
  have hb := b.toNat_lt
  have hx : a.toNat ^^^ b.toNat < 2 ^ 8 := Nat.xor_lt_two_pow (by omega) (by omega)
  rw [bits, show IntKind.u8.bits = 8 from rfl, ofInt8, ofInt8]
  simp only [BitVec.toNat_xor, BitVec.toNat_ofNat, UInt8.toNat_xor]
  rw [Nat.mod_eq_of_lt (by omega : a.toNat < 2 ^ 8), Nat.mod_eq_of_lt (by omega : b.toNat < 2 ^ 8)]
  simp [IntKind.wrap, IntKind.bits, IntKind.signed]
  omega

theorem bv_set (l : List UInt8) (j : Nat) (x : UInt8) : (bv l).set j (.int .u8 (x.toNat : Int)) = bv (l.set j x) := by simp [bv, List.map_set]
theorem bv_some {l : List UInt8} {j : Nat} {x : UInt8} (h : l[j]? = some x) : (bv l)[j]? = some (.int .u8 (x.toNat : Int)) := by simp [bv, h]

def MaskRel (w : World) (K : List UInt8) (m : UInt8) (x : Value) (wr : World) : Prop :=
  ∃ i : Nat, x = .int .i64 (i : Int) ∧ i ≤ 64 ∧ Blk wr w.heap.size 35 (bv (maskN m K i)) ∧ Below w.heap.size w wr

set_option maxHeartbeats 1000000 in
theorem masked_any (w : World) (K : List UInt8) (m : UInt8) (hK : K.length = 64) :
    Calls Tryd.prog 13 #[.agg (bv K).toArray, .int .u8 (m.toNat : Int)] w fun e w' => e = .returned (.string ⟨(mask m K).toArray⟩) ∧ Below w.heap.size w w' := by
  have HK := Lib.hid hK
  clear hK
  go_enter Tryd.func13, Tryd.ntmps13
  go_wp2_with fail
  go_loopw [6] (fun x wr => MaskRel w K m x wr) (fun x _ => 64 - intN x)
  case atStart =>
    refine ⟨0, rfl, by omega, ?_, (Below.refl _ _).alloc (Nat.le_refl _) _⟩
    rw [maskN_zero]
    exact Blk.new w 35 (bv K).toArray
  case round =>
    obtain ⟨i, rfl, hi, hR, hB⟩ := hrel
    by_cases hlt : i < 64
    · have d0 : (i : Int) < 64 := by omega
      have hiK : i < K.length := by rw [HK.out]; exact hlt
      obtain ⟨b, hb⟩ : ∃ b, b = K.getD i 0 := ⟨_, rfl⟩
      have q := (hR.cell i).trans (bv_some (maskN_at m K i hiK))
      rw [← hb] at q
      have f := hR.free i
      have r := rule_xor8 b m
      have hR2 := hR.set i (.int .u8 (((b ^^^ m).toNat : Nat) : Int))
      rw [bv_set, hb, maskN_set m K i hiK, ← hb] at hR2
      have HR2 := Lib.hid hR2
      have HB2 := Lib.hid (hB.setCell (p := ⟨w.heap.size, i, none⟩) (Nat.le_refl _) (.int .u8 (((b ^^^ m).toNat : Nat) : Int)))
      clear hR hR2 hB hb
      go_wp2_with fail
      refine ⟨⟨i + 1, by simp, by omega, HR2.out, HB2.out⟩, ?_⟩
      simp only [intN]
      omega
    · obtain rfl : i = 64 := by omega
      rw [maskN_all m K 64 (by rw [HK.out]; omega)] at hR
      have hcv := conv_bytes hR
      rw [mask_length, HK.out] at hcv
      have HB := Lib.hid hB
      clear hB hR
      go_wp2_with fail
      go_ret
      exact ⟨rfl, HB.out⟩
end Go.Proofs.YtmkdcpnnnlihfaaDoor
