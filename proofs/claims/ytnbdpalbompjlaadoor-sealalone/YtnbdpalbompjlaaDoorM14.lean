/-
  The texts LotOf, Draw, one behind the other.
-/
import Derived.Test.YtnbdpalbompjlaaDoorM12
import Derived.Test.YtnbdpalbompjlaaDoorPut
import Derived.Test.YtnbdpalbompjlaaDoorM10
import Derived.Test.YtnbdpalbompjlaaDoorM4
import Derived.Laws.MakeOwn
/-
  What board.digestOf answers: the digest of a validator in a slot.
-/
namespace Go.Proofs.YtnbdpalbompjlaaDoor
open Go.RowKit
set_option maxRecDepth 10000

/-- Two texts that were just built. -/
theorem strs_two (w : World) (s t : List UInt8) : StrAt (w.alloc (.cells #[.string ⟨s.toArray⟩, .string ⟨t.toArray⟩] 9)) (w.alloc (.cells #[.string ⟨s.toArray⟩, .string ⟨t.toArray⟩] 9)).heap.size (some ⟨w.heap.size, 0, none⟩) w.heap.size 0 [s, t] := by
  have h := Blk.new w 9 #[.string ⟨s.toArray⟩, .string ⟨t.toArray⟩]
  refine ⟨fun _ => rfl, fun _ => h.lt, fun j x hj => ?_⟩
  rw [Nat.zero_add, h.cell j]
  match j, hj with
  | 0, hj => simp at hj; subst hj; rfl
  | 1, hj => simp at hj; subst hj; rfl
  | _ + 2, hj => simp at hj

set_option maxHeartbeats 4000000 in
theorem digestOf_any (w : World) (hT : Tabs w) (slot who : Nat) (h1 : slot ≤ 1073741824) (h2 : who ≤ 1000000) :
    Calls Tryd.prog 73 #[.int .i64 slot, .int .i64 who] w fun e w' => e = .returned (.agg (bv (lotD slot who)).toArray) ∧ Below w.heap.size w w' := by
  have HB0 := Lib.hid ((Below.refl w.heap.size w).alloc (Nat.le_refl _) (.cells (Array.replicate 32 (.int .u8 0)) 26))
  have HR0 := Lib.hid (Blk.new w 26 (Array.replicate 32 (.int .u8 0)))
  have hu1 : IntKind.u64.wrap (slot : Int) = (slot : Int) := by rw [IntKind.wrap_u64]; omega
  have hu2 : IntKind.u64.wrap (who : Int) = (who : Int) := by rw [IntKind.wrap_u64]; omega
  go_enter Tryd.func73, Tryd.ntmps73
  go_wp2_with fail
  have hrep : (Array.replicate 32 (Value.int .u8 0)) = #[.int .u8 0, .int .u8 0, .int .u8 0, .int .u8 0, .int .u8 0, .int .u8 0, .int .u8 0, .int .u8 0, .int .u8 0, .int .u8 0, .int .u8 0, .int .u8 0, .int .u8 0, .int .u8 0, .int .u8 0, .int .u8 0, .int .u8 0, .int .u8 0, .int .u8 0, .int .u8 0, .int .u8 0, .int .u8 0, .int .u8 0, .int .u8 0, .int .u8 0, .int .u8 0, .int .u8 0, .int .u8 0, .int .u8 0, .int .u8 0, .int .u8 0, .int .u8 0] := rfl
  rw [← hrep]
  generalize w.alloc (.cells (Array.replicate 32 (.int .u8 0)) 26) = w1 at HB0 HR0 ⊢
  have hwR : w.heap.size ≤ w.heap.size := Nat.le_refl _
  obtain ⟨R, hR⟩ : ∃ R, R = w.heap.size := ⟨_, rfl⟩
  rw [← hR] at HR0 ⊢
  have hwR : w.heap.size ≤ R := by omega
  clear hrep hR
  refine (put_mid w1 w1.heap.size (.slice none 0 0) [] slot 4 (by omega) (by omega) (Held.nil _ _) (Nat.le_refl _) (by simp)).mono ?_
  rintro e w2 ⟨v2, rfl, hh2, hg2⟩
  have HB2 := Lib.hid (hg2.below (Held.nil w1 w1.heap.size) (Nat.le_refl _))
  rw [List.nil_append] at hh2
  have HH2 := Lib.hid hh2
  clear hh2 hg2
  go_wp2_with fail
  refine (put_mid w2 w1.heap.size v2 (leB slot 4) who 2 (by omega) (by omega) HH2.out HB2.out.size (by rw [leB_length]; omega)).mono ?_
  rintro e w3 ⟨v3, rfl, hh3, hg3⟩
  have HB3 := Lib.hid (HB2.out.trans (hg3.below HH2.out HB2.out.size))
  have hs3 := hh3.string (P := Tryd.prog) 86 9 5 Tryd.underlying86 Tryd.underlying5 Tryd.underlying9
  have HR3 := Lib.hid (HR0.out.below HB3.out HR0.out.lt)
  have HBF := Lib.hid (HB0.out.trans (HB3.out.mono HB0.out.size))
  obtain ⟨B, hBB⟩ : ∃ B, B = leB slot 4 ++ leB who 2 := ⟨_, rfl⟩
  rw [← hBB] at hs3
  have HBB := Lib.hid hBB
  clear hh3 hg3 HB3 HB2 HH2 HR0 HB0 hBB
  go_wp2_with fail
  have hb := (Below.refl w3.heap.size w3).alloc (Nat.le_refl _) (.cells #[.string ⟨boardB.toArray⟩, .string ⟨B.toArray⟩] 9)
  have HR4 := Lib.hid (HR3.out.below hb HR3.out.lt)
  have HB4 := Lib.hid (HBF.out.trans (hb.mono HBF.out.size))
  refine (of_any _ _ 2 2 w3.heap.size 0 [boardB, B] (hT.below HB4.out hT.size) rfl (by omega) (strs_two w3 boardB B) (by rw [HBB.out]; simp [boardB, leB_length])).mono ?_
  rintro e w5 ⟨rfl, hb5⟩
  obtain ⟨D, hD⟩ : ∃ D, D = lotD slot who := ⟨_, rfl⟩
  have hDe : digest [boardB, B].flatten = D := by rw [hD, HBB.out, lotD, lotB]; simp
  rw [hDe]
  have hdl : D.length = 32 := by rw [hD]; exact lotD_length _ _
  have hr := HR4.out.below hb5 HR4.out.lt
  have HB5 := HB4.out.trans (hb5.mono HB4.out.size)
  have HR5 := Lib.hid hr
  have HSZ := Lib.hid (show (Tryd.prog.info? 26).map (·.size) = some (bv D).length by rw [bv_length, hdl]; exact Tryd.size26)
  have HLE := Lib.hid (show 0 + (bv D).length ≤ (Array.replicate 32 (Value.int .u8 0)).toList.length by rw [bv_length, hdl]; simp)
  have HSP := Lib.hid (splice_all (Array.replicate 32 (Value.int .u8 0)).toList (bv D) (by rw [bv_length, hdl]; simp))
  have HR6 := Lib.hid (hr.setRow (bv D))
  have HB6 := Lib.hid (below_setRow HB5 hwR (bv D).toArray)
  have HD := Lib.hid hD
  clear hr hdl hD hDe hb5 HR4 HB4 HB5 hs3
  go_wp2_with ((with_reducible refine wpList_store_part ?_ 26 (.tmp 4) (.tmp 16) ?_ R 0 (bv D) ?_ ?_ 26 _ HR5.out HSZ.out HLE.out (bv_one _) ?_); rfl; rfl; rfl; rfl; rw [HSP.out])
  rw [← HD.out]
  refine bodyPost_ret (v := .agg (bv D).toArray) ?_ rfl ⟨rfl, HB6.out⟩
  exact results_cell_row rfl _ _ R 26 _ (0, 0) (.array 32 5) rfl HR6.out Tryd.underlying26 rfl (by rw [List.size_toArray]; exact HSZ.out)
end Go.Proofs.YtnbdpalbompjlaaDoor

/-
  What board.draw answers: the lots of a slot, one for each validator.
-/
namespace Go.Proofs.YtnbdpalbompjlaaDoor
open Go.RowKit
set_option maxRecDepth 10000

/-- A lot's cells; a row of lots. -/
def encL (x : Lot) : List Value := bv x.d ++ [.int .i64 x.n]
def lc (l : List Lot) : List Value := l.flatMap encL
theorem encL_length (x : Lot) : (encL x).length = 33 := by simp [encL, bv_length, x.h]
theorem encL_one (x : Lot) : ∀ v ∈ encL x, v.oneCell' = true := by
  intro v hv
  rcases List.mem_append.1 hv with h | h
  · exact bv_one _ v h
  · simp at h; subst h; rfl
theorem lc_length (l : List Lot) : (lc l).length = l.length * 33 := by
  induction l with
  | nil => rfl
  | cons v r ih => simp only [lc, List.flatMap_cons, List.length_append, List.length_cons, encL_length] at ih ⊢; omega
theorem lc_append (a b : List Lot) : lc (a ++ b) = lc a ++ lc b := by simp [lc]
theorem lc_at (l : List Lot) : ∀ (i j : Nat) (x : Lot), l[i]? = some x → j < 33 → (lc l)[i * 33 + j]? = (encL x)[j]? := by
  induction l with
  | nil => intro i j x h; simp at h
  | cons u r ih =>
    intro i j x h hj
    have e : lc (u :: r) = encL u ++ lc r := rfl
    rw [e]
    cases i with
    | zero => simp at h; subst h; rw [Nat.zero_mul, Nat.zero_add, List.getElem?_append_left (by rw [encL_length]; exact hj)]
    | succ i =>
      simp at h
      rw [List.getElem?_append_right (by rw [encL_length]; omega), encL_length, show (i + 1) * 33 + j - 33 = i * 33 + j by omega]
      exact ih i j x h hj

/-- The lots of the first i validators. -/
def lotsTo (slot i : Nat) : List Lot := (List.range i).map (lotAt slot)
theorem lotsTo_length (slot i : Nat) : (lotsTo slot i).length = i := by simp [lotsTo]
theorem lotsTo_succ (slot i : Nat) : lotsTo slot (i + 1) = lotsTo slot i ++ [lotAt slot i] := by simp [lotsTo, List.range_succ]
theorem lotsTo_at (slot n i : Nat) (h : i < n) : (lotsTo slot n)[i]? = some (lotAt slot i) := by simp [lotsTo, h]

theorem splice_next (A zs cs : List Value) (k : Nat) (h : A.length = k) : splice (A ++ zs) k cs = (A ++ cs) ++ zs.drop cs.length := by
  subst h
  simp [splice, List.drop_append]

/-- Thirty-two of them. -/
theorem len32 {α : Type} : ∀ (l : List α), l.length = 32 → ∃ a0 a1 a2 a3 a4 a5 a6 a7 a8 a9 a10 a11 a12 a13 a14 a15 a16 a17 a18 a19 a20 a21 a22 a23 a24 a25 a26 a27 a28 a29 a30 a31, l = [a0, a1, a2, a3, a4, a5, a6, a7, a8, a9, a10, a11, a12, a13, a14, a15, a16, a17, a18, a19, a20, a21, a22, a23, a24, a25, a26, a27, a28, a29, a30, a31] := by
  intro l h
  match l, h with
  | [a0, a1, a2, a3, a4, a5, a6, a7, a8, a9, a10, a11, a12, a13, a14, a15, a16, a17, a18, a19, a20, a21, a22, a23, a24, a25, a26, a27, a28, a29, a30, a31], _ => exact ⟨a0, a1, a2, a3, a4, a5, a6, a7, a8, a9, a10, a11, a12, a13, a14, a15, a16, a17, a18, a19, a20, a21, a22, a23, a24, a25, a26, a27, a28, a29, a30, a31, rfl⟩

def zlot : List Value := List.replicate 32 (.int .u8 0) ++ [.int .i64 0]
theorem Tryd.info104 : (Tryd.prog.info? 104).map (fun i => (i.zero, i.size, i.bytes)) = some (some (.agg zlot.toArray), 33, 40) := by kernel_rfl
theorem Tryd.size104 : (Tryd.prog.info? 104).map (·.size) = some 33 := by kernel_rfl

theorem lot_built32 (a0 a1 a2 a3 a4 a5 a6 a7 a8 a9 a10 a11 a12 a13 a14 a15 a16 a17 a18 a19 a20 a21 a22 a23 a24 a25 a26 a27 a28 a29 a30 a31 : Value) (n : Int) : Tryd.prog.built 104 [(0, .agg #[a0, a1, a2, a3, a4, a5, a6, a7, a8, a9, a10, a11, a12, a13, a14, a15, a16, a17, a18, a19, a20, a21, a22, a23, a24, a25, a26, a27, a28, a29, a30, a31]), (1, .int .i64 n)] = some #[a0, a1, a2, a3, a4, a5, a6, a7, a8, a9, a10, a11, a12, a13, a14, a15, a16, a17, a18, a19, a20, a21, a22, a23, a24, a25, a26, a27, a28, a29, a30, a31, .int .i64 n] := by kernel_rfl
theorem lot_built (D : List UInt8) (h : D.length = 32) (n : Int) : Tryd.prog.built 104 [(0, .agg (bv D).toArray), (1, .int .i64 n)] = some (bv D ++ [Value.int .i64 n]).toArray := by
  obtain ⟨a0, a1, a2, a3, a4, a5, a6, a7, a8, a9, a10, a11, a12, a13, a14, a15, a16, a17, a18, a19, a20, a21, a22, a23, a24, a25, a26, a27, a28, a29, a30, a31, e⟩ := len32 (bv D) (by rw [bv_length, h])
  rw [e]
  exact lot_built32 a0 a1 a2 a3 a4 a5 a6 a7 a8 a9 a10 a11 a12 a13 a14 a15 a16 a17 a18 a19 a20 a21 a22 a23 a24 a25 a26 a27 a28 a29 a30 a31 n

set_option maxHeartbeats 4000000 in
theorem draw_any (w : World) (hT : Tabs w) (slot n : Nat) (h1 : slot ≤ 1073741824) (h2 : n ≤ 1000) :
    Calls Tryd.prog 62 #[.int .i64 slot, .int .i64 n] w fun e w' => e = .returned (.slice (some ⟨w.heap.size, 0, none⟩) n n) ∧ Blk w' w.heap.size 104 (lc (lotsTo slot n)) ∧ Below w.heap.size w w' := by
  obtain ⟨i0, hi, hz0, hz1, hz2⟩ := info_parts Tryd.info104
  have hmk := fun W => run_makeSlice (P := Tryd.prog) W 100 104 i0 (.agg zlot.toArray) Tryd.underlying100 hi hz0 .i64 .i64 (n : Int) (n : Int) (by omega) (by omega) (by rw [hz1]; simp; omega) (by rw [hz2]; omega) (by omega)
  simp only [Int.toNat_natCast, hz1] at hmk
  have hk := Blk.new w 104 (madeCells (Value.agg zlot.toArray).cells (n * 33))
  have hbel : Below w.heap.size w (w.alloc (.cells (madeCells (Value.agg zlot.toArray).cells (n * 33)) 104)) := (Below.refl _ _).alloc (Nat.le_refl _) _
  have hmk0 := hmk w
  have hzl : (madeCells (Value.agg zlot.toArray).cells (n * 33)).toList.length = n * 33 := by rw [Array.length_toList, size_madeCells]
  generalize (madeCells (Value.agg zlot.toArray).cells (n * 33)).toList = Z at hk hzl
  obtain ⟨w1, hw1⟩ : ∃ w1, w1 = w.alloc (.cells (madeCells (Value.agg zlot.toArray).cells (n * 33)) 104) := ⟨_, rfl⟩
  rw [← hw1] at hmk0 hk hbel
  obtain ⟨g, hg⟩ : ∃ g, g = w.heap.size := ⟨_, rfl⟩
  rw [← hg] at hmk0 hk ⊢
  have HG := Lib.hid hg
  have HK := Lib.hid hk
  have HB := Lib.hid hbel
  have HZ := Lib.hid hzl
  have HT := Lib.hid hT
  clear hmk hw1 hk hbel hg hzl hz0 hz1 hz2 hi hT
  go_enter Tryd.func62, Tryd.ntmps62
  go_wp2_with fail
  go_loopw [11] (fun i wr => ∃ (j : Nat) (zs : List Value), j ≤ n ∧ i = .int .i64 j ∧ Hid (zs.length = (n - j) * 33) ∧ Hid (Blk wr g 104 (lc (lotsTo slot j) ++ zs)) ∧ Hid (Below w.heap.size w wr)) (fun i _ => n - (intOf i).toNat)
  case atStart => exact ⟨0, Z, Nat.zero_le _, rfl, Lib.hid (by rw [HZ.out]; rfl), Lib.hid (by simpa [lotsTo, lc] using HK.out), HB⟩
  case round =>
    obtain ⟨j, zs, hj, rfl, HZS, HBK, HBel⟩ := hrel
    by_cases hlt : j < n
    · go_wp2_with fail
      refine (digestOf_any wr (HT.out.below HBel.out HT.out.size) slot j h1 (by omega)).mono ?_
      rintro e w2 ⟨rfl, hb2⟩
      have hk2 := HBK.out.below hb2 HBK.out.lt
      have HB2 := Lib.hid (HBel.out.trans (hb2.mono HBel.out.size))
      have HBD := Lib.hid (lot_built (lotD slot j) (lotD_length slot j) (j : Int))
      have hle : (encL (lotAt slot j)).length = 33 := encL_length _
      have hlA : (lc (lotsTo slot j)).length = j * 33 := by rw [lc_length, lotsTo_length]
      have HSZ := Lib.hid (show (Tryd.prog.info? 104).map (·.size) = some (encL (lotAt slot j)).length by rw [hle]; exact Tryd.size104)
      have HLE := Lib.hid (show j * 33 + (encL (lotAt slot j)).length ≤ (lc (lotsTo slot j) ++ zs).length by rw [List.length_append, hle, hlA, HZS.out]; omega)
      have hsp := splice_next (lc (lotsTo slot j)) zs (encL (lotAt slot j)) (j * 33) hlA
      have HSP := Lib.hid (show splice (lc (lotsTo slot j) ++ zs) (j * 33) (encL (lotAt slot j)) = lc (lotsTo slot (j + 1)) ++ zs.drop 33 by rw [hsp, hle, lotsTo_succ, lc_append]; simp [lc])
      have HR3 := Lib.hid (hk2.setRow (lc (lotsTo slot (j + 1)) ++ zs.drop 33))
      have HB3 := Lib.hid (below_setRow HB2.out (by rw [HG.out]; exact Nat.le_refl _ : w.heap.size ≤ g) (lc (lotsTo slot (j + 1)) ++ zs.drop 33).toArray)
      have HZ3 := Lib.hid (show (zs.drop 33).length = (n - (j + 1)) * 33 by rw [List.length_drop, HZS.out]; omega)
      have HO := Lib.hid (encL_one (lotAt slot j))
      obtain ⟨E, hE⟩ : ∃ E, E = encL (lotAt slot j) := ⟨_, rfl⟩
      rw [show bv (lotD slot j) ++ [Value.int .i64 (j : Int)] = encL (lotAt slot j) from rfl, ← hE] at HBD
      rw [← hE] at HSZ HLE HSP HO
      have HK2 := Lib.hid hk2
      clear hb2 hk2 hE hle hlA hsp HBK HBel
      generalize lotD slot j = D at HBD ⊢
      go_wp2_with (first
        | ((with_reducible refine wpList_build_eq ?_ 104 #[(0, .tmp 18), (1, .tmp 19)] ?_ E.toArray ?_ ?_); rfl; rfl; (simp only [List.map_toArray, List.map_cons, List.map_nil]; exact HBD.out))
        | ((with_reducible refine wpList_store_part ?_ 104 (.tmp 21) (.tmp 20) ?_ g (j * 33) E ?_ ?_ 104 _ HK2.out HSZ.out HLE.out HO.out ?_); rfl; rfl; rfl; rfl; rw [HSP.out]))
      go_roundw
      case rel => exact ⟨j + 1, zs.drop 33, by omega, by go_num, HZ3, HR3, HB3⟩
      case measure => simp [intOf]; omega
    · have hjn : j = n := by omega
      have HF := Lib.hid (show Blk wr g 104 (lc (lotsTo slot n)) by
        have hz := HZS.out
        have hb := HBK.out
        rw [hjn, Nat.sub_self, Nat.zero_mul] at hz
        rw [List.eq_nil_of_length_eq_zero hz, List.append_nil, hjn] at hb
        exact hb)
      clear hjn
      go_wp2_with fail
      go_ret
      exact ⟨rfl, HF.out, by rw [HG.out]; exact HBel.out⟩
end Go.Proofs.YtnbdpalbompjlaaDoor
