/-
  The texts NmN, one behind the other.
-/
import Derived.Test.YtoinigcfcjllcaaCRootMem
import Derived.Test.YtoinigcfcjllcaaOnceM3
import Derived.IntWalk
import Derived.Deep.QuietTactic
import Derived.BigQuiet
import Derived.Deep.Cut
/-
  The document's names of numbers (tollerref10.Name).
-/
namespace Go.Proofs.Ytoinigcfcjllcaa
open Go Go.RowKit
set_option maxRecDepth 10000

/-- A small number's byte. -/
def byteOf (n : Int) : UInt8 := UInt8.ofNat (n % 256).toNat
theorem byteOf_int (n : Int) : ((byteOf n).toNat : Int) = n % 256 := by
  have h1 := Int.emod_nonneg n (show (256 : Int) ≠ 0 by decide)
  have h2 := Int.emod_lt_of_pos n (show (0 : Int) < 256 by decide)
  unfold byteOf
  rw [UInt8.toNat_ofNat']
  omega
/-- A number's name. -/
def nmN (n : Int) : List UInt8 := (zero32.set 0 (byteOf n)).set 31 (byteOf (7 * n))
theorem nmN_len (n : Int) : (nmN n).length = 32 := by simp [nmN, zero32]
theorem nmN_at0 (n : Int) : (nmN n)[0]? = some (byteOf n) := by simp [nmN, zero32]
theorem nmN_inj {m n : Int} (h : nmN m = nmN n) (h0 : 0 ≤ m) (h1 : m < 256) (h2 : 0 ≤ n) (h3 : n < 256) : m = n := by
  have h4 := congrArg (fun l => l[0]?) h
  simp only [nmN_at0, Option.some.injEq] at h4
  have h5 := byteOf_int m
  have h6 := byteOf_int n
  rw [h4, h6] at h5
  omega
theorem bv_setN (l : List UInt8) (j : Nat) (c : UInt8) : (bv l).set j (.int .u8 (c.toNat : Int)) = bv (l.set j c) := by simp [bv, List.map_set]

theorem name_any (w : World) (n : Int) : Calls Try.prog 26 #[.int .i64 n] w fun e w' => e = .returned (.agg (bv (nmN n)).toArray) ∧ Below w.heap.size w w' := by
  have HZ := Lib.hid ((blk_zeroR w).alloc (.cells #[.int .u8 0, .int .u8 0, .int .u8 0, .int .u8 0, .int .u8 0, .int .u8 0, .int .u8 0, .int .u8 0, .int .u8 0, .int .u8 0, .int .u8 0, .int .u8 0, .int .u8 0, .int .u8 0, .int .u8 0, .int .u8 0, .int .u8 0, .int .u8 0, .int .u8 0, .int .u8 0, .int .u8 0, .int .u8 0, .int .u8 0, .int .u8 0, .int .u8 0, .int .u8 0, .int .u8 0, .int .u8 0, .int .u8 0, .int .u8 0, .int .u8 0, .int .u8 0] 27))
  have hy := blk_zeroR (w.alloc (.cells #[.int .u8 0, .int .u8 0, .int .u8 0, .int .u8 0, .int .u8 0, .int .u8 0, .int .u8 0, .int .u8 0, .int .u8 0, .int .u8 0, .int .u8 0, .int .u8 0, .int .u8 0, .int .u8 0, .int .u8 0, .int .u8 0, .int .u8 0, .int .u8 0, .int .u8 0, .int .u8 0, .int .u8 0, .int .u8 0, .int .u8 0, .int .u8 0, .int .u8 0, .int .u8 0, .int .u8 0, .int .u8 0, .int .u8 0, .int .u8 0, .int .u8 0, .int .u8 0] 27))
  rw [show (w.alloc (.cells #[.int .u8 0, .int .u8 0, .int .u8 0, .int .u8 0, .int .u8 0, .int .u8 0, .int .u8 0, .int .u8 0, .int .u8 0, .int .u8 0, .int .u8 0, .int .u8 0, .int .u8 0, .int .u8 0, .int .u8 0, .int .u8 0, .int .u8 0, .int .u8 0, .int .u8 0, .int .u8 0, .int .u8 0, .int .u8 0, .int .u8 0, .int .u8 0, .int .u8 0, .int .u8 0, .int .u8 0, .int .u8 0, .int .u8 0, .int .u8 0, .int .u8 0, .int .u8 0] 27)).heap.size = w.heap.size + 1 by simp] at hy
  have HY := Lib.hid hy
  have HB := Lib.hid (show Below w.heap.size w ((w.alloc (.cells #[.int .u8 0, .int .u8 0, .int .u8 0, .int .u8 0, .int .u8 0, .int .u8 0, .int .u8 0, .int .u8 0, .int .u8 0, .int .u8 0, .int .u8 0, .int .u8 0, .int .u8 0, .int .u8 0, .int .u8 0, .int .u8 0, .int .u8 0, .int .u8 0, .int .u8 0, .int .u8 0, .int .u8 0, .int .u8 0, .int .u8 0, .int .u8 0, .int .u8 0, .int .u8 0, .int .u8 0, .int .u8 0, .int .u8 0, .int .u8 0, .int .u8 0, .int .u8 0] 27)).alloc (.cells #[.int .u8 0, .int .u8 0, .int .u8 0, .int .u8 0, .int .u8 0, .int .u8 0, .int .u8 0, .int .u8 0, .int .u8 0, .int .u8 0, .int .u8 0, .int .u8 0, .int .u8 0, .int .u8 0, .int .u8 0, .int .u8 0, .int .u8 0, .int .u8 0, .int .u8 0, .int .u8 0, .int .u8 0, .int .u8 0, .int .u8 0, .int .u8 0, .int .u8 0, .int .u8 0, .int .u8 0, .int .u8 0, .int .u8 0, .int .u8 0, .int .u8 0, .int .u8 0] 27)) from ((Below.refl _ w).alloc (Nat.le_refl _) _).alloc (by simp) _)
  have HL := Lib.hid zero32_len
  have HM := Lib.hid (nmN_len n)
  obtain ⟨R, hR⟩ : ∃ R, R = w.heap.size := ⟨_, rfl⟩
  obtain ⟨Y, hY⟩ : ∃ Y, Y = w.heap.size + 1 := ⟨_, rfl⟩
  have HRY := Lib.hid (show R ≠ Y ∧ w.heap.size ≤ R ∧ w.heap.size ≤ Y by omega)
  clear hy
  go_enter Try.func26, Try.ntmps26
  go_upto_region 2 with fail
  rw [← hY] at HY ⊢
  rw [← hR] at HZ ⊢
  generalize (w.alloc (.cells _ 27)).alloc (.cells _ 27) = w1 at HZ HY HB ⊢
  clear hR hY
  have e0 : IntKind.u8.wrap n = ((byteOf n).toNat : Int) := by rw [byteOf_int]; simp [IntKind.wrap, IntKind.signed, IntKind.bits]
  have e7 : IntKind.u8.wrap (wrap64 (7 * n)) = ((byteOf (7 * n)).toNat : Int) := by
    rw [byteOf_int]
    simp only [IntKind.wrap, IntKind.signed, IntKind.bits]
    unfold wrap64
    simp
    omega
  have q0 := HY.out.cell 0
  have q31 := HY.out.cell 31
  have f0 := HY.out.free 0
  have f31 := HY.out.free 31
  have HY2 := Lib.hid (show Blk ((w1.setCell ⟨Y, 0, none⟩ (.int .u8 ((byteOf n).toNat : Int))).setCell ⟨Y, 31, none⟩ (.int .u8 ((byteOf (7 * n)).toNat : Int))) Y 27 (bv (nmN n)) by
    have := (HY.out.set 0 (.int .u8 ((byteOf n).toNat : Int))).set 31 (.int .u8 ((byteOf (7 * n)).toNat : Int))
    rw [bv_setN, bv_setN] at this
    exact this)
  have HR2 := Lib.hid ((HZ.out.other ⟨Y, 0, none⟩ (.int .u8 ((byteOf n).toNat : Int)) HRY.out.1).other ⟨Y, 31, none⟩ (.int .u8 ((byteOf (7 * n)).toNat : Int)) HRY.out.1)
  have HA2 := Lib.hid HY2.out.rootAll
  go_wp2_with (first
    | ((with_reducible refine wpList_load_name (.tmp 3) ?_ ?_ Y 0 (nmN n) ?_ HM.out HA2.out ?_); rfl; rfl; rfl)
    | ((with_reducible refine wpList_store_name (.tmp 2) (.tmp 11) ?_ ?_ R zero32 (nmN n) ?_ ?_ HR2.out HL.out HM.out ?_); rfl; rfl; rfl; rfl))
  refine ret_name rfl rfl (HR2.out.setRow (bv (nmN n))) HM.out rfl ⟨rfl, below_row ((HB.out.setCell (by exact HRY.out.2.2) _).setCell (by exact HRY.out.2.2) _) (by exact HRY.out.2.1) _⟩

end Go.Proofs.Ytoinigcfcjllcaa
