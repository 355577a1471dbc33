/-
  The texts WBest, RWApply, Pair11, one behind the other.
-/
import Derived.Test.YtpamifdcbnkcdaaDoesM14
import Derived.Test.YtpamifdcbnkcdaaDoesM11
import Derived.Test.YtpamifdcbnkcdaaDoesM13
/-
  Best and Head.
-/
namespace Go.Proofs.Ytpamifdcbnkcdaa
open Go Go.RowKit
set_option maxRecDepth 10000

/-- An answer that lies in a block: a name, and a Boolean. -/
theorem ret_name2 {fn : Func} {p u : Tmp} (h : fn.results = #[.cell p 24, .tmp u]) {a : Act} {w : World} {g : Nat} {r : List UInt8} (hp : a.tmps.getD p undef = .pointer (some ⟨g, 0, none⟩)) (hg : Blk w g 24 (bv r)) (hl : r.length = 32) (hd : a.defers = [])
    {R : Ending → World → Prop} (hR : R (.returned (.tuple #[.agg (bv r).toArray, a.tmps.getD u undef])) w) : bodyPost Try.prog fn R .ret a w := by
  refine bodyPost_ret ?_ hd hR
  rw [results_cell_tmp h, hp]
  have hlo := run_load_root (w := w) (g := g) (off := 0) hl hg.rootAll
  simp only [Instr.loadAt, Instr.sureAddr, Sem.run_bind, Sem.run_pure, Result.andThen] at hlo
  simp only [asAddr, Sem.run_pure, Result.andThen_ok]
  rw [hlo]
  rfl
theorem zlen : zero32.length = 32 := by simp [zero32]
theorem blk_zlit (w : World) : Blk (w.alloc (.cells #[.int .u8 0, .int .u8 0, .int .u8 0, .int .u8 0, .int .u8 0, .int .u8 0, .int .u8 0, .int .u8 0, .int .u8 0, .int .u8 0, .int .u8 0, .int .u8 0, .int .u8 0, .int .u8 0, .int .u8 0, .int .u8 0, .int .u8 0, .int .u8 0, .int .u8 0, .int .u8 0, .int .u8 0, .int .u8 0, .int .u8 0, .int .u8 0, .int .u8 0, .int .u8 0, .int .u8 0, .int .u8 0, .int .u8 0, .int .u8 0, .int .u8 0, .int .u8 0] 24)) w.heap.size 24 (bv zero32) := Blk.new w _ (bv zero32).toArray
theorem tellZ_cases (t : List Nd) (N : Nat) (r : List UInt8) (dn : Int) (z : Nat → Int) : tellZ t N r dn z = dn ∨ ∃ k : Nat, k < N ∧ plc t r = (k : Int) ∧ tellZ t N r dn z = z k := by
  unfold tellZ
  split
  · rename_i h
    exact .inr ⟨(plc t r).toNat, by omega, by omega, rfl⟩
  · exact .inl rfl
/-- Where a block's best child stands; -1: it has none, or isn't known. -/
def bstZ (t : List Nd) (own : List Int) (r : List UInt8) : Int := tellZ t own.length r (-1) (bsW t own)
theorem Good.bstZ_place {t : List Nd} {most : Int} (G : Good t most) {own : List Int} (hl : own.length ≤ t.length) (r : List UInt8) : bstZ t own r = -1 ∨ ∃ k : Nat, bstZ t own r = (k : Int) ∧ k < own.length := by
  unfold bstZ
  rcases tellZ_cases t own.length r (-1) (bsW t own) with h | ⟨k, _, _, h⟩
  · exact .inl h
  · rw [h]
    rcases G.bsW_place hl k with ⟨h2, _⟩ | ⟨q, h2, _, h3, _⟩
    · exact .inl h2
    · exact .inr ⟨q, h2, h3⟩

set_option maxHeartbeats 8000000 in
theorem best_any (w : World) (G : List Nat) (tb : Nat) (t : List Nd) (most : Int) (F : List Nat) (b : Nat) (own : List Int) (r : List UInt8) (hT : Tre w G tb t most) (h : WgtG w F b tb t own) (hr : r.length = 32) :
    Calls Try.prog 10 #[.pointer (some ⟨b, 0, none⟩), .agg (bv r).toArray] w fun e w' => e = .returned (.tuple #[.agg (bv (pnm t (bstZ t own r))).toArray, .bool (decide (0 ≤ bstZ t own r))]) ∧ Below w.heap.size w w' := by
  have hb0 : Below w.heap.size w ((w.alloc (.cells #[.pointer (some ⟨b, 0, none⟩)] 26)).alloc (.cells (bv r).toArray 24)) := ((Below.refl _ w).alloc (Nat.le_refl _) _).alloc (by simp) _
  have HP0 := Lib.hid ((Blk.new w 26 #[.pointer (some ⟨b, 0, none⟩)]).alloc (.cells (bv r).toArray 24))
  have hx := Blk.new (w.alloc (.cells #[.pointer (some ⟨b, 0, none⟩)] 26)) 24 (bv r).toArray
  rw [World.size_alloc] at hx
  have HX0 := Lib.hid hx
  have HGD := Lib.hid hT.1
  have HLE := Lib.hid h.2.1
  have hs2 : ((w.alloc (.cells #[.pointer (some ⟨b, 0, none⟩)] 26)).alloc (.cells (bv r).toArray 24)).heap.size = w.heap.size + 2 := by simp
  obtain ⟨w0, hw0⟩ : ∃ w0, w0 = (w.alloc (.cells #[.pointer (some ⟨b, 0, none⟩)] 26)).alloc (.cells (bv r).toArray 24) := ⟨_, rfl⟩
  rw [← hw0] at hb0 HP0 HX0 hs2
  have hb1 : Below w.heap.size w (w0.alloc (.cells #[.int .u8 0, .int .u8 0, .int .u8 0, .int .u8 0, .int .u8 0, .int .u8 0, .int .u8 0, .int .u8 0, .int .u8 0, .int .u8 0, .int .u8 0, .int .u8 0, .int .u8 0, .int .u8 0, .int .u8 0, .int .u8 0, .int .u8 0, .int .u8 0, .int .u8 0, .int .u8 0, .int .u8 0, .int .u8 0, .int .u8 0, .int .u8 0, .int .u8 0, .int .u8 0, .int .u8 0, .int .u8 0, .int .u8 0, .int .u8 0, .int .u8 0, .int .u8 0] 24)) := hb0.alloc hb0.size _
  have HP := Lib.hid (HP0.out.alloc (.cells #[.int .u8 0, .int .u8 0, .int .u8 0, .int .u8 0, .int .u8 0, .int .u8 0, .int .u8 0, .int .u8 0, .int .u8 0, .int .u8 0, .int .u8 0, .int .u8 0, .int .u8 0, .int .u8 0, .int .u8 0, .int .u8 0, .int .u8 0, .int .u8 0, .int .u8 0, .int .u8 0, .int .u8 0, .int .u8 0, .int .u8 0, .int .u8 0, .int .u8 0, .int .u8 0, .int .u8 0, .int .u8 0, .int .u8 0, .int .u8 0, .int .u8 0, .int .u8 0] 24))
  have HX := Lib.hid (HX0.out.alloc (.cells #[.int .u8 0, .int .u8 0, .int .u8 0, .int .u8 0, .int .u8 0, .int .u8 0, .int .u8 0, .int .u8 0, .int .u8 0, .int .u8 0, .int .u8 0, .int .u8 0, .int .u8 0, .int .u8 0, .int .u8 0, .int .u8 0, .int .u8 0, .int .u8 0, .int .u8 0, .int .u8 0, .int .u8 0, .int .u8 0, .int .u8 0, .int .u8 0, .int .u8 0, .int .u8 0, .int .u8 0, .int .u8 0, .int .u8 0, .int .u8 0, .int .u8 0, .int .u8 0] 24))
  have hz := blk_zlit w0
  rw [hs2] at hz
  have HZ := Lib.hid hz
  have HT := Lib.hid (hT.below hb1)
  have HW := Lib.hid (h.2.2.2.below hb1)
  have HB := Lib.hid hb1
  rw [hw0] at HP HX HZ HT HW HB
  clear hT h hx hb1 hb0 HP0 HX0 hs2 hw0 hz w0
  go_enter Try.func10, Try.ntmps10
  go_upto_region 1 with fail
  try simp only [Nat.add_assoc, Nat.reduceAdd]
  generalize ((w.alloc (.cells #[.pointer (some ⟨b, 0, none⟩)] 26)).alloc (.cells (bv r).toArray 24)).alloc (.cells #[.int .u8 0, .int .u8 0, .int .u8 0, .int .u8 0, .int .u8 0, .int .u8 0, .int .u8 0, .int .u8 0, .int .u8 0, .int .u8 0, .int .u8 0, .int .u8 0, .int .u8 0, .int .u8 0, .int .u8 0, .int .u8 0, .int .u8 0, .int .u8 0, .int .u8 0, .int .u8 0, .int .u8 0, .int .u8 0, .int .u8 0, .int .u8 0, .int .u8 0, .int .u8 0, .int .u8 0, .int .u8 0, .int .u8 0, .int .u8 0, .int .u8 0, .int .u8 0] 24) = w1 at HP HX HZ HT HW HB ⊢
  obtain ⟨P, hP⟩ : ∃ P, P = w.heap.size := ⟨_, rfl⟩
  obtain ⟨X, hX⟩ : ∃ X, X = w.heap.size + 1 := ⟨_, rfl⟩
  obtain ⟨Z, hZ⟩ : ∃ Z, Z = w.heap.size + 2 := ⟨_, rfl⟩
  have HZE := Lib.hid (show w.heap.size ≤ Z by omega)
  rw [← hX] at HX ⊢
  rw [← hZ] at HZ ⊢
  rw [← hP] at HP ⊢
  have HNE := Lib.hid (show P ≠ Z by omega)
  clear hP hX hZ
  have HXA := Lib.hid HX.out.rootAll
  have kp := HP.out.cell 0
  simp only [List.getElem?_cons_zero] at kp
  have HF := Lib.hid (show ∀ (j : Nat) W, j < own.length → Below w1.heap.size w1 W → Calls Try.prog 30 #[.int .i64 (j : Int), .pointer (some ⟨P, 0, none⟩)] W fun e w' => e = .returned (.int .i64 (bsW t own j)) ∧ w' = W from fun j W hj hb => bs_fn W F b tb P j t own (HW.out.below hb) ((HP.out.below hb HP.out.lt).cell 0) hj)
  go_wp2_with ((with_reducible refine wpList_load_name (.tmp 3) ?_ ?_ X 0 r ?_ hr HXA.out ?_); rfl; rfl; rfl)
  refine (told_any w1 G tb t most F b own (wtsL t own) (bssL t own) r (-1) _ P (bsW t own) callBest HT.out HW.out hr HF.out).mono ?_
  rintro e w2 ⟨rfl, hb2⟩
  rw [show tellZ t own.length r (-1) (bsW t own) = bstZ t own r from rfl]
  have HB2 := Lib.hid (HB.out.trans (hb2.mono HB.out.size))
  have HZ2 := Lib.hid (HZ.out.below hb2 HZ.out.lt)
  have HP2 := Lib.hid (HP.out.below hb2 HP.out.lt)
  have HT2 := Lib.hid (HT.out.below hb2)
  have HW2 := Lib.hid (HW.out.below hb2)
  have HZL := Lib.hid zlen
  clear hb2 HP HX HZ HT HW HB HXA kp HF
  rcases HGD.out.bstZ_place HLE.out r with hb | ⟨k, hb, hk⟩
  · rw [hb]
    have HBZ := Lib.hid hb
    clear hb
    have HR := Lib.hid (show pnm t (-1) = zero32 by simp [pnm, nodeAt])
    have HZF := Lib.hid (HZ2.out.setRow (bv zero32))
    have HBF := Lib.hid (below_row HB2.out HZE.out (bv zero32).toArray)
    go_wp2_with ((with_reducible refine wpList_store_name (.tmp 4) (.tmp 13) ?_ ?_ Z zero32 zero32 ?_ ?_ HZ2.out HZL.out HZL.out ?_); rfl; rfl; rfl; rfl)
    refine ret_name2 rfl rfl HZF.out HZL.out rfl ?_
    exact ⟨by rw [HBZ.out, HR.out]; rfl, HBF.out⟩
  · rw [hb]
    have HBZ := Lib.hid hb
    have d1 : ¬ ((k : Int) = -1) := by omega
    have d2 : ((k : Int) == -1) = false := by simp [d1]
    have kp := HP2.out.cell 0
    simp only [List.getElem?_cons_zero] at kp
    clear hb
    go_wp2_with fail
    refine (wname_any w2 G tb t most F b k own (wtsL t own) (bssL t own) HT2.out HW2.out (by have := HLE.out; omega)).mono ?_
    rintro e w3 ⟨rfl, hb3⟩
    have HZ3 := Lib.hid (HZ2.out.below hb3 HZ2.out.lt)
    have HB3 := Lib.hid (HB2.out.trans (hb3.mono HB2.out.size))
    have HNL := Lib.hid (HGD.out.pnm_len (k : Int))
    have HZF := Lib.hid (HZ3.out.setRow (bv (pnm t (k : Int))))
    have HBF := Lib.hid (below_row HB3.out HZE.out (bv (pnm t (k : Int))).toArray)
    clear hb3
    go_wp2_with ((with_reducible refine wpList_store_name (.tmp 4) (.tmp 16) ?_ ?_ Z zero32 (pnm t (k : Int)) ?_ ?_ HZ3.out HZL.out HNL.out ?_); rfl; rfl; rfl; rfl)
    refine ret_name2 rfl rfl HZF.out HNL.out rfl ?_
    exact ⟨by rw [HBZ.out, decide_eq_true (show (0 : Int) ≤ (k : Int) by omega)]; rfl, HBF.out⟩

theorem best_nil (w : World) (r : List UInt8) (hr : r.length = 32) :
    Calls Try.prog 10 #[.pointer none, .agg (bv r).toArray] w fun e w' => e = .returned (.tuple #[.agg (bv zero32).toArray, .bool false]) ∧ Below w.heap.size w w' := by
  have hb0 : Below w.heap.size w ((w.alloc (.cells #[.pointer none] 26)).alloc (.cells (bv r).toArray 24)) := ((Below.refl _ w).alloc (Nat.le_refl _) _).alloc (by simp) _
  have HP0 := Lib.hid ((Blk.new w 26 #[.pointer none]).alloc (.cells (bv r).toArray 24))
  have hx := Blk.new (w.alloc (.cells #[.pointer none] 26)) 24 (bv r).toArray
  rw [World.size_alloc] at hx
  have HX0 := Lib.hid hx
  have hs2 : ((w.alloc (.cells #[.pointer none] 26)).alloc (.cells (bv r).toArray 24)).heap.size = w.heap.size + 2 := by simp
  obtain ⟨w0, hw0⟩ : ∃ w0, w0 = (w.alloc (.cells #[.pointer none] 26)).alloc (.cells (bv r).toArray 24) := ⟨_, rfl⟩
  rw [← hw0] at hb0 HP0 HX0 hs2
  have hb1 : Below w.heap.size w (w0.alloc (.cells #[.int .u8 0, .int .u8 0, .int .u8 0, .int .u8 0, .int .u8 0, .int .u8 0, .int .u8 0, .int .u8 0, .int .u8 0, .int .u8 0, .int .u8 0, .int .u8 0, .int .u8 0, .int .u8 0, .int .u8 0, .int .u8 0, .int .u8 0, .int .u8 0, .int .u8 0, .int .u8 0, .int .u8 0, .int .u8 0, .int .u8 0, .int .u8 0, .int .u8 0, .int .u8 0, .int .u8 0, .int .u8 0, .int .u8 0, .int .u8 0, .int .u8 0, .int .u8 0] 24)) := hb0.alloc hb0.size _
  have HP := Lib.hid (HP0.out.alloc (.cells #[.int .u8 0, .int .u8 0, .int .u8 0, .int .u8 0, .int .u8 0, .int .u8 0, .int .u8 0, .int .u8 0, .int .u8 0, .int .u8 0, .int .u8 0, .int .u8 0, .int .u8 0, .int .u8 0, .int .u8 0, .int .u8 0, .int .u8 0, .int .u8 0, .int .u8 0, .int .u8 0, .int .u8 0, .int .u8 0, .int .u8 0, .int .u8 0, .int .u8 0, .int .u8 0, .int .u8 0, .int .u8 0, .int .u8 0, .int .u8 0, .int .u8 0, .int .u8 0] 24))
  have HX := Lib.hid (HX0.out.alloc (.cells #[.int .u8 0, .int .u8 0, .int .u8 0, .int .u8 0, .int .u8 0, .int .u8 0, .int .u8 0, .int .u8 0, .int .u8 0, .int .u8 0, .int .u8 0, .int .u8 0, .int .u8 0, .int .u8 0, .int .u8 0, .int .u8 0, .int .u8 0, .int .u8 0, .int .u8 0, .int .u8 0, .int .u8 0, .int .u8 0, .int .u8 0, .int .u8 0, .int .u8 0, .int .u8 0, .int .u8 0, .int .u8 0, .int .u8 0, .int .u8 0, .int .u8 0, .int .u8 0] 24))
  have hz := blk_zlit w0
  rw [hs2] at hz
  have HZ := Lib.hid hz
  have HB := Lib.hid hb1
  rw [hw0] at HP HX HZ HB
  clear hx hb1 hb0 HP0 HX0 hs2 hw0 hz w0
  go_enter Try.func10, Try.ntmps10
  go_upto_region 1 with fail
  try simp only [Nat.add_assoc, Nat.reduceAdd]
  generalize ((w.alloc (.cells #[.pointer none] 26)).alloc (.cells (bv r).toArray 24)).alloc (.cells #[.int .u8 0, .int .u8 0, .int .u8 0, .int .u8 0, .int .u8 0, .int .u8 0, .int .u8 0, .int .u8 0, .int .u8 0, .int .u8 0, .int .u8 0, .int .u8 0, .int .u8 0, .int .u8 0, .int .u8 0, .int .u8 0, .int .u8 0, .int .u8 0, .int .u8 0, .int .u8 0, .int .u8 0, .int .u8 0, .int .u8 0, .int .u8 0, .int .u8 0, .int .u8 0, .int .u8 0, .int .u8 0, .int .u8 0, .int .u8 0, .int .u8 0, .int .u8 0] 24) = w1 at HP HX HZ HB ⊢
  obtain ⟨P, hP⟩ : ∃ P, P = w.heap.size := ⟨_, rfl⟩
  obtain ⟨X, hX⟩ : ∃ X, X = w.heap.size + 1 := ⟨_, rfl⟩
  obtain ⟨Z, hZ⟩ : ∃ Z, Z = w.heap.size + 2 := ⟨_, rfl⟩
  have HZE := Lib.hid (show w.heap.size ≤ Z by omega)
  rw [← hX] at HX ⊢
  rw [← hZ] at HZ ⊢
  rw [← hP] at HP ⊢
  clear hP hX hZ
  have HXA := Lib.hid HX.out.rootAll
  have kp := HP.out.cell 0
  simp only [List.getElem?_cons_zero] at kp
  go_wp2_with ((with_reducible refine wpList_load_name (.tmp 3) ?_ ?_ X 0 r ?_ hr HXA.out ?_); rfl; rfl; rfl)
  refine (told_nil w1 r (-1) _).mono ?_
  rintro e w2 ⟨rfl, hb2⟩
  have HB2 := Lib.hid (HB.out.trans (hb2.mono HB.out.size))
  have HZ2 := Lib.hid (HZ.out.below hb2 HZ.out.lt)
  have HZL := Lib.hid zlen
  clear hb2 HP HX HZ HB HXA kp
  have HZF := Lib.hid (HZ2.out.setRow (bv zero32))
  have HBF := Lib.hid (below_row HB2.out HZE.out (bv zero32).toArray)
  go_wp2_with ((with_reducible refine wpList_store_name (.tmp 4) (.tmp 13) ?_ ?_ Z zero32 zero32 ?_ ?_ HZ2.out HZL.out HZL.out ?_); rfl; rfl; rfl; rfl)
  refine ret_name2 rfl rfl HZF.out HZL.out rfl ?_
  exact ⟨rfl, HBF.out⟩

set_option maxHeartbeats 8000000 in
theorem head_any (w : World) (G : List Nat) (tb : Nat) (t : List Nd) (most : Int) (F : List Nat) (b : Nat) (own : List Int) (hT : Tre w G tb t most) (h : WgtG w F b tb t own) :
    Calls Try.prog 15 #[.pointer (some ⟨b, 0, none⟩)] w fun e w' => e = .returned (.agg (bv (pnm t (hdW t own : Int))).toArray) ∧ Below w.heap.size w w' := by
  have hb1 : Below w.heap.size w (w.alloc (.cells #[.int .u8 0, .int .u8 0, .int .u8 0, .int .u8 0, .int .u8 0, .int .u8 0, .int .u8 0, .int .u8 0, .int .u8 0, .int .u8 0, .int .u8 0, .int .u8 0, .int .u8 0, .int .u8 0, .int .u8 0, .int .u8 0, .int .u8 0, .int .u8 0, .int .u8 0, .int .u8 0, .int .u8 0, .int .u8 0, .int .u8 0, .int .u8 0, .int .u8 0, .int .u8 0, .int .u8 0, .int .u8 0, .int .u8 0, .int .u8 0, .int .u8 0, .int .u8 0] 24)) := (Below.refl _ w).alloc (Nat.le_refl _) _
  have HZ := Lib.hid (blk_zlit w)
  have HGD := Lib.hid hT.1
  have HLE := Lib.hid h.2.1
  have HPO := Lib.hid h.2.2.1
  have HT := Lib.hid (hT.below hb1)
  have HW := Lib.hid (h.2.2.2.below hb1)
  have HB := Lib.hid hb1
  clear hT h hb1
  go_enter Try.func15, Try.ntmps15
  go_upto_region 1 with fail
  generalize w.alloc (.cells #[.int .u8 0, .int .u8 0, .int .u8 0, .int .u8 0, .int .u8 0, .int .u8 0, .int .u8 0, .int .u8 0, .int .u8 0, .int .u8 0, .int .u8 0, .int .u8 0, .int .u8 0, .int .u8 0, .int .u8 0, .int .u8 0, .int .u8 0, .int .u8 0, .int .u8 0, .int .u8 0, .int .u8 0, .int .u8 0, .int .u8 0, .int .u8 0, .int .u8 0, .int .u8 0, .int .u8 0, .int .u8 0, .int .u8 0, .int .u8 0, .int .u8 0, .int .u8 0] 24) = w1 at HZ HT HW HB ⊢
  obtain ⟨Z, hZ⟩ : ∃ Z, Z = w.heap.size := ⟨_, rfl⟩
  have HZE := Lib.hid (show w.heap.size ≤ Z by omega)
  rw [← hZ] at HZ ⊢
  clear hZ
  go_wp2_with fail
  go_loopw [3] (fun i wr => ∃ k : Nat, k < own.length ∧ i = .int .i64 k ∧ Hid (hdF t own k = hdW t own) ∧ wr = w1) (fun i _ => own.length - (intOf i).toNat)
  case atStart => exact ⟨0, HPO.out, rfl, Lib.hid rfl, rfl⟩
  case round =>
    obtain ⟨k, hk, rfl, HK, hwr⟩ := hrel
    subst hwr
    obtain ⟨a1, a2, a3, c1, c2, c3, g1, g2, g3, o1, o2, o3, hs⟩ := HW.out.open
    obtain ⟨ha, e1⟩ := lies_z hs.l3 (bssL_at (t := t) hk)
    subst ha
    have k3 := hs.cell3
    have d3 : (0 : Int) ≤ (k : Int) := by omega
    have d4 : (k : Int) < ((bssL t own).length : Int) := by rw [bssL_length]; omega
    have d5 : k < (bssL t own).length := by rw [bssL_length]; omega
    clear hs
    rcases HGD.out.bsW_place HLE.out k with ⟨hb, _⟩ | ⟨q, hb, hkq, hq, _⟩
    · rw [hb] at e1
      have HE := Lib.hid (show hdW t own = k by rw [← HK.out, HGD.out.hdF_end (by omega)])
      clear hb
      have HZL := Lib.hid zlen
      go_wp2_with fail
      refine (wname_any wr G tb t most F b k own (wtsL t own) (bssL t own) HT.out HW.out (by have := HLE.out; omega)).mono ?_
      rintro e w3 ⟨rfl, hb3⟩
      have HZ3 := Lib.hid (HZ.out.below hb3 HZ.out.lt)
      have HB3 := Lib.hid (HB.out.trans (hb3.mono HB.out.size))
      have HNL := Lib.hid (HGD.out.pnm_len (k : Int))
      have HZF := Lib.hid (HZ3.out.setRow (bv (pnm t (k : Int))))
      have HBF := Lib.hid (below_row HB3.out HZE.out (bv (pnm t (k : Int))).toArray)
      clear hb3
      go_wp2_with ((with_reducible refine wpList_store_name (.tmp 2) (.tmp 24) ?_ ?_ Z zero32 (pnm t (k : Int)) ?_ ?_ HZ3.out HZL.out HNL.out ?_); rfl; rfl; rfl; rfl)
      refine ret_name rfl rfl HZF.out HNL.out rfl ?_
      exact ⟨by rw [HE.out], HBF.out⟩
    · rw [hb] at e1
      have HE := Lib.hid (show hdF t own q = hdW t own by rw [← HK.out, HGD.out.hdF_next HLE.out hb])
      have d6 : ¬ ((q : Int) = -1) := by omega
      have d7 : ((q : Int) == -1) = false := by simp [d6]
      clear hb
      go_wp2_with fail
      go_roundw
      case rel => exact ⟨q, hq, rfl, HE, by first | rfl | trivial⟩
      case measure => simp only [intOf]; omega
theorem head_nil (w : World) : Calls Try.prog 15 #[.pointer none] w fun e w' => e = .returned (.agg (bv zero32).toArray) ∧ Below w.heap.size w w' := by
  have HZ := Lib.hid (blk_zlit w)
  have HZL := Lib.hid zlen
  have HZF := Lib.hid (HZ.out.setRow (bv zero32))
  have HBF := Lib.hid (below_row ((Below.refl _ w).alloc (Nat.le_refl _) (.cells #[.int .u8 0, .int .u8 0, .int .u8 0, .int .u8 0, .int .u8 0, .int .u8 0, .int .u8 0, .int .u8 0, .int .u8 0, .int .u8 0, .int .u8 0, .int .u8 0, .int .u8 0, .int .u8 0, .int .u8 0, .int .u8 0, .int .u8 0, .int .u8 0, .int .u8 0, .int .u8 0, .int .u8 0, .int .u8 0, .int .u8 0, .int .u8 0, .int .u8 0, .int .u8 0, .int .u8 0, .int .u8 0, .int .u8 0, .int .u8 0, .int .u8 0, .int .u8 0] 24)) (Nat.le_refl _) (bv zero32).toArray)
  go_enter Try.func15, Try.ntmps15
  go_wp2_with ((with_reducible refine wpList_store_name (.tmp 2) (.tmp 6) ?_ ?_ w.heap.size zero32 zero32 ?_ ?_ HZ.out HZL.out HZL.out ?_); rfl; rfl; rfl; rfl)
  refine ret_name rfl rfl HZF.out HZL.out rfl ?_
  exact ⟨rfl, HBF.out⟩
end Go.Proofs.Ytpamifdcbnkcdaa

/-
  The document's own weights: Apply.
-/
namespace Go.Proofs.Ytpamifdcbnkcdaa
open Go Go.RowKit
set_option maxRecDepth 10000

def lenAt (b : Nat) (w : World) : Nat := match w.cell? ⟨b, 1, none⟩ with
  | some (.slice _ n _) => n
  | _ => 0
theorem RWs.lenAt {w : World} {F : List Nat} {b tb known : Nat} {own : List Int} {a1 : Option Addr} {c1 g1 o1 : Nat} (h : RWs w F b tb own known a1 c1 g1 o1) : lenAt b w = own.length := by
  unfold Go.Proofs.Ytpamifdcbnkcdaa.lenAt
  rw [h.cell1]
theorem RWk.lenAt {w : World} {F : List Nat} {b tb known : Nat} {own : List Int} (h : RWk w F b tb own known) : Go.Proofs.Ytpamifdcbnkcdaa.lenAt b w = own.length := by
  obtain ⟨a1, c1, g1, o1, h⟩ := h.open
  exact h.lenAt
theorem appW_is (t : List Nd) (own : List Int) (ds : List Dl) : appW t own ds = endW (padW t own) (chgW t (padW t own) ds) := rfl
theorem endW_err (own cur : List Int) {e : Int} (h : e ≠ 0) : endW own (e, cur) = (e, own) := by unfold endW; rw [if_neg h]

set_option maxHeartbeats 16000000 in
theorem rapply_any (w : World) (G : List Nat) (m : Nat) (t : List Nd) (most : Int) (F : List Nat) (b : Nat) (own : List Int) (ds : List Dl) (dao : Option Addr) (dcap dg doff : Nat) (hT : Ref w G m t most) (h : RWk w F b m own own.length) (hA : Away G F) (hl : own.length ≤ t.length) (hO : OwnG own)
    (hD : Dls ds) (hdl : ds.length ≤ 1000) (hL : Lies w w.heap.size dao dg doff (dvs ds)) (hdF : 0 < ds.length → dg ∉ F) :
    Calls Try.prog 40 #[.pointer (some ⟨b, 0, none⟩), .slice dao ds.length dcap] w fun e w' => e = .returned (.int .i64 (appW t own ds).1) ∧ ∃ F', RWk w' F' b m (appW t own ds).2 (appW t own ds).2.length ∧ Kept F w w' ∧ NewF w F F' := by
  obtain ⟨i0, hi0, hz0, hz1, hz2⟩ := info_parts Try.info3
  have htl : t.length ≤ 256 := by have := hT.1.room; have := hT.1.most256; omega
  have HT := Lib.hid hT
  have HO := Lib.hid hO
  have HD := Lib.hid hD
  have HL := Lib.hid hL
  have HA := Lib.hid hA
  have HLE := Lib.hid hl
  have HDF := Lib.hid hdF
  have HLO := Lib.hid hT.low
  have HTP := Lib.hid hT.1.pos
  have HW := Lib.hid (show ∃ F', RWk w F' b m (own ++ List.replicate 0 0) own.length ∧ Kept F w w ∧ NewF w F F' from ⟨F, by rw [List.replicate_zero, List.append_nil]; exact h, Kept.refl _ _, NewF.refl _ _⟩)
  obtain ⟨K0, hK0⟩ : ∃ K0, K0 = own.length := ⟨_, rfl⟩
  have HKE := Lib.hid hK0
  rw [← hK0] at HW
  clear hT h hA hl hO hD hL hdF hK0
  go_enter Try.func40, Try.ntmps40
  go_wp2_with fail
  go_loopw [12] (fun _ wr => ∃ k : Nat, own.length + k ≤ t.length ∧ Hid (∃ F', RWk wr F' b m (own ++ List.replicate k 0) K0 ∧ Kept F w wr ∧ NewF w F F')) (fun _ wr => t.length - lenAt b wr)
  case atStart => exact ⟨0, by have := HLE.out; omega, HW⟩
  case round =>
    clear HW
    obtain ⟨k, hk, HR⟩ := hrel
    obtain ⟨F', hr, hkp, hnw⟩ := HR.out
    have HRW := Lib.hid hr
    have HKP := Lib.hid hkp
    have HNW := Lib.hid hnw
    clear hr hkp hnw HR
    obtain ⟨a1, c1, g1, o1, hs⟩ := HRW.out.open
    have HTr := Lib.hid (HT.out.keep HKP.out HA.out)
    obtain ⟨ta1, ta2, ta3, tk1, tk2, tk3, tg1, tg2, tg3, to1, to2, to3, ht⟩ := HTr.out.open
    have k0 := hs.cell0
    have k1 := hs.cell1
    have t0 := ht.cell0
    have HLX := Lib.hid (show (own ++ List.replicate k 0).length = own.length + k by rw [List.length_append, List.length_replicate])
    have HS := Lib.hid hs
    have HLA := Lib.hid hs.lenAt
    rw [HLX.out] at k1
    clear hs ht
    by_cases hlt : own.length + k < t.length
    · have d1 : ((own.length + k : Nat) : Int) < (t.length : Int) := by omega
      go_upto_region 1 with fail
      go_quiet (fail)
      have HSq := Lib.hid (HS.out.below (below_dN (Below.refl _ _) nq))
      have HKq := Lib.hid (HKP.out.drewN nq)
      generalize wr.drewN nq = wq at HSq HKq ⊢
      clear k0 k1 t0 HS HKP HRW HTr
      have hb1 : Below wq.heap.size wq (wq.alloc (.cells #[.int .i64 0] 3)) := (Below.refl _ _).alloc (Nat.le_refl _) _
      have HB1 := Lib.hid hb1
      have k1 := HSq.out.cell1
      rw [HLX.out] at k1
      have HWI := Lib.hid ((HSq.out.below hb1).wide1)
      rw [HLX.out] at HWI
      have HSRC := Lib.hid (show Src Try.prog 1 43 (.slice (some ⟨wq.heap.size, 0, none⟩) 1 1) 1 (zv [0]) (wq.alloc (.cells #[.int .i64 0] 3)) from src_int wq 43 Try.underlying43 0)
      have HM1 := Lib.hid (show (zv (own ++ List.replicate k 0)).length + 1 ≤ maxLen by rw [zv_length, HLX.out]; unfold maxLen; omega)
      have HM2 := Lib.hid (show ((zv (own ++ List.replicate k 0)).length + 1) * 8 ≤ 140737488355328 by rw [zv_length, HLX.out]; omega)
      clear hb1
      go_upto_region 2 with fail
      go_wp2_with (at_builtin; refine wpList_append_wide rfl _ _ 43 43 rfl rfl HWI.out (by decide) 3 i0 (.int .i64 0) 8 Try.underlying43 hi0 hz0 hz1 hz2 rfl _ rfl 1 (zv [0]) HSRC.out HM1.out HM2.out (Nat.zero_le _) ?_)
      intro v' w' hv hg
      obtain ⟨ao', n', cap', hu⟩ : ∃ ao n cap, v' = .slice ao n cap := by
        obtain ⟨n', cap', g', off', ao', hu, _⟩ := hv
        exact ⟨_, _, _, hu⟩
      subst hu
      rw [← zv_append, List.append_assoc, show List.replicate k (0 : Int) ++ [0] = List.replicate (k + 1) 0 by rw [List.replicate_succ']] at hv
      have hkg : Kept (ownL (.slice a1 (own ++ List.replicate k 0).length c1)) wq w' := by
        rw [HLX.out]
        exact (Kept.of_below _ HB1.out).trans (Kept.of_grown _ hg.grown (fun q hq => mem_ownL.2 hq)) (NewF.refl _ _)
      have hst := HSq.out.own1 hkg hv (by rw [List.length_append, List.length_replicate]; omega) (by
        rw [HLX.out]
        rcases hg.own with h1 | ⟨j, h1, h2⟩
        · exact .inl h1
        · exact .inr ⟨j, h1, Nat.le_trans HB1.out.size h2⟩)
      have hbk := HSq.out.blk.kept hkg HSq.out.nb1
      have c1' := hbk.cell 1
      have f1' := hbk.free 1
      have HST := Lib.hid hst
      clear hst hv hg hkg hbk k1 HWI HSRC HM1 HM2 HB1
      go_wp2_with fail
      obtain ⟨F3, hF3⟩ : ∃ F3, F3 = ownL (.slice ao' n' cap') ++ F' := ⟨_, rfl⟩
      rw [← hF3] at HST
      generalize w'.setCell ⟨b, 1, none⟩ (.slice ao' n' cap') = w3 at HST ⊢
      have HFIN := Lib.hid (show ∃ F', RWk w3 F' b m (own ++ List.replicate (k + 1) 0) K0 ∧ Kept F w w3 ∧ NewF w F F' from ⟨F3, HST.out.1, HKq.out.trans HST.out.2.1 HNW.out, HNW.out.trans HST.out.2.2 HKq.out.size⟩)
      have HLB := Lib.hid (show lenAt b w3 = own.length + (k + 1) by rw [HST.out.1.lenAt, List.length_append, List.length_replicate])
      clear hF3 c1' f1' HST
      go_roundw
      case rel => exact ⟨k + 1, by omega, HFIN⟩
      case measure => rw [HLB.out, HLA.out, HLX.out]; omega
    · have HEX := Lib.hid (show own.length + k = t.length by omega)
      have HPW := Lib.hid (show own ++ List.replicate k 0 = padW t own by rw [padW, show t.length - own.length = k by omega])
      have d1 : ¬ (((own.length + k : Nat) : Int) < (t.length : Int)) := by omega
      go_upto_region 1 with fail
      go_quiet (fail)
      have HSq := Lib.hid (HS.out.below (below_dN (Below.refl _ _) nq))
      have HKq := Lib.hid (HKP.out.drewN nq)
      have HTq := Lib.hid (HTr.out.below (below_dN (Below.refl _ _) nq))
      have t0' : (wr.drewN nq).cell? ⟨m, 0, none⟩ = some (.slice ta1 t.length tk1) := t0
      generalize wr.drewN nq = wq at HSq HKq HTq t0' ⊢
      clear k0 k1 t0 HS HKP HRW HTr
      have k0 := HSq.out.cell0
      have k2 := HSq.out.cell2
      have f2 := HSq.out.blk.free 2
      have hkn := HSq.out.know t.length
      rw [HPW.out] at hkn
      have HKN := Lib.hid hkn
      clear hkn
      go_upto_region 4 with fail
      generalize wq.setCell ⟨b, 2, none⟩ (.int .i64 (t.length : Int)) = w3 at HKN ⊢
      have HW3 := Lib.hid HKN.out.1
      have HK3 := Lib.hid (HKq.out.trans HKN.out.2 HNW.out)
      have HN3 := HNW
      have HT3 := Lib.hid (HT.out.keep HK3.out HA.out)
      have HL3 := Lib.hid (show Lies w3 w3.heap.size dao dg doff (dvs ds) from
        ⟨HL.out.addr, fun h0 => Nat.lt_of_lt_of_le (HL.out.lt h0) HK3.out.size, fun j u hj => by
          have h0 : 0 < (dvs ds).length := by have := (List.getElem?_eq_some_iff.1 hj).1; omega
          have h1 : 0 < ds.length := by
            rcases Nat.eq_zero_or_pos ds.length with h2 | h2
            · rw [List.eq_nil_of_length_eq_zero h2] at h0; simp [dvs] at h0
            · exact h2
          exact (World.cell?_of_block (a := ⟨dg, doff + j, none⟩) (HK3.out.block dg (HL.out.lt h0) (HDF.out h1))).trans (HL.out.cells j u hj)⟩)
      have HPO := Lib.hid (HO.out.pad t)
      have HPL := Lib.hid (padW_length HLE.out)
      obtain ⟨PW, hPW⟩ : ∃ PW, PW = padW t own := ⟨_, rfl⟩
      have HPE := Lib.hid hPW
      rw [← hPW] at HW3 HPO HPL
      clear hPW HKN HSq HKq HTq t0' k0 k2 f2 HPW
      obtain ⟨a1, c1, g1, o1, hs3⟩ := HW3.out.open
      have HS3 := Lib.hid hs3
      have k1 := hs3.cell1
      have ha := hs3.l1.addr (by rw [zv_length]; have := HPL.out; have := HTP.out; omega)
      subst ha
      have HWE := Lib.hid (wide_empty 1 w3 3 w3.heap.size (Nat.le_refl _))
      have HB4 := Lib.hid (show Below w3.heap.size w3 (w3.alloc (.cells #[] 3)) from (Below.refl _ w3).alloc (Nat.le_refl _) _)
      have HM1 := Lib.hid (show ([] : List Value).length + PW.length ≤ maxLen by unfold maxLen; have := HPL.out; simp; omega)
      have HM2 := Lib.hid (show (([] : List Value).length + PW.length) * 8 ≤ 140737488355328 by have := HPL.out; simp; omega)
      have HSR := Lib.hid ((hs3.l1.below HB4.out).src c1 43 3 Try.underlying43 (n := PW.length) (k := 1) (by rw [zv_length, Nat.mul_one]) (zv_one _) (by decide))
      have k1' := (hs3.below HB4.out).cell1
      clear hs3
      go_wp2_with (at_builtin; refine wpList_append_wide rfl _ _ 43 43 rfl rfl HWE.out (by decide) 3 i0 (.int .i64 0) 8 Try.underlying43 hi0 hz0 hz1 hz2 rfl _ rfl PW.length (zv PW) HSR.out HM1.out HM2.out HB4.out.size ?_)
      intro v4 w4 hv hg
      obtain ⟨ao1, n1, cap1, hu⟩ : ∃ ao n cap, v4 = .slice ao n cap := by
        obtain ⟨n', cap', g', off', ao', hu, _⟩ := hv
        exact ⟨_, _, _, hu⟩
      subst hu
      try rw [List.nil_append] at hv
      have HR := Lib.hid (show ChRel w3 t PW ds ao1 n1 cap1 0 PW w4 from ⟨rfl, HPO.out.allOk, by rw [List.drop_zero], hv, HB4.out.trans (hg.belowW HWE.out HB4.out.size)⟩)
      clear hv hg k1 k1' HWE HB4 HM1 HM2 HSR
      go_wp2_with fail
      go_loopw [54] (fun i wr => ∃ (k : Nat) (cur : List Int), k ≤ ds.length ∧ i = .int .i64 k ∧ Hid (ChRel w3 t PW ds ao1 n1 cap1 k cur wr)) (fun i _ => ds.length - (intOf i).toNat)
      case atStart => exact ⟨0, PW, Nat.zero_le _, rfl, HR⟩
      case round =>
        clear HR
        obtain ⟨k, cur, hk, rfl, HR⟩ := hrel
        by_cases hlt : k < ds.length
        · obtain ⟨d, hd⟩ : ∃ d, ds[k]? = some d := ⟨_, List.getElem?_eq_getElem hlt⟩
          have HDL := Lib.hid (HD.out d (List.mem_of_getElem? hd))
          have HLr := Lib.hid (HL3.out.keep HR.out.below)
          have hda := HLr.out.dl_addr HD.out hd
          subst hda
          have HLD := Lib.hid (HLr.out.dl HD.out hd)
          have HST := Lib.hid (show chgW t PW ds = _ from HR.out.eq.symm.trans (chgW_at hd))
          have HWR := Lib.hid (show wrap64 ((k : Int) + 1) = ((k + 1 : Nat) : Int) by unfold wrap64; omega)
          obtain ⟨X, hX⟩ : ∃ X, X = wr.heap.size := ⟨_, rfl⟩
          have HX0 := Lib.hid (show Blk (wr.alloc (.cells #[.int .u8 0, .int .u8 0, .int .u8 0, .int .u8 0, .int .u8 0, .int .u8 0, .int .u8 0, .int .u8 0, .int .u8 0, .int .u8 0, .int .u8 0, .int .u8 0, .int .u8 0, .int .u8 0, .int .u8 0, .int .u8 0, .int .u8 0, .int .u8 0, .int .u8 0, .int .u8 0, .int .u8 0, .int .u8 0, .int .u8 0, .int .u8 0, .int .u8 0, .int .u8 0, .int .u8 0, .int .u8 0, .int .u8 0, .int .u8 0, .int .u8 0, .int .u8 0, .int .i64 0] 74)) wr.heap.size 74 (dlv dl0) from Blk.new wr 74 (dlv dl0).toArray)
          have hbx : Below wr.heap.size wr ((wr.alloc (.cells #[.int .u8 0, .int .u8 0, .int .u8 0, .int .u8 0, .int .u8 0, .int .u8 0, .int .u8 0, .int .u8 0, .int .u8 0, .int .u8 0, .int .u8 0, .int .u8 0, .int .u8 0, .int .u8 0, .int .u8 0, .int .u8 0, .int .u8 0, .int .u8 0, .int .u8 0, .int .u8 0, .int .u8 0, .int .u8 0, .int .u8 0, .int .u8 0, .int .u8 0, .int .u8 0, .int .u8 0, .int .u8 0, .int .u8 0, .int .u8 0, .int .u8 0, .int .u8 0, .int .i64 0] 74)).setRow wr.heap.size (dlv d).toArray) := below_row ((Below.refl _ wr).alloc (Nat.le_refl _) _) (Nat.le_refl _) _
          have HX1 := Lib.hid (HX0.out.setRow (dlv d))
          have HWI := Lib.hid (HR.out.wide.below hbx)
          have HBE := Lib.hid (HR.out.below.trans (hbx.mono HR.out.below.size))
          have HCL := Lib.hid HR.out.len
          have HCO := Lib.hid HR.out.ok
          clear hbx HR
          go_upto_region 8 with (first
            | ((with_reducible refine wpList_load_dlR (.tmp 56) ?_ ?_ dg (doff + k * 33) d ?_ HDL.out HLD.out ?_); rfl; rfl; rfl)
            | ((with_reducible refine wpList_store_dlR (.tmp 7) (.tmp 57) ?_ ?_ wr.heap.size dl0 d ?_ ?_ HX0.out dl0_len HDL.out ?_); rfl; rfl; rfl; rfl))
          simp only [Act.put]
          rw [← hX] at HX1 HWI HBE ⊢
          generalize (wr.alloc (.cells #[.int .u8 0, .int .u8 0, .int .u8 0, .int .u8 0, .int .u8 0, .int .u8 0, .int .u8 0, .int .u8 0, .int .u8 0, .int .u8 0, .int .u8 0, .int .u8 0, .int .u8 0, .int .u8 0, .int .u8 0, .int .u8 0, .int .u8 0, .int .u8 0, .int .u8 0, .int .u8 0, .int .u8 0, .int .u8 0, .int .u8 0, .int .u8 0, .int .u8 0, .int .u8 0, .int .u8 0, .int .u8 0, .int .u8 0, .int .u8 0, .int .u8 0, .int .u8 0, .int .i64 0] 74)).setRow X (dlv d).toArray = w5 at HX1 HWI HBE ⊢
          clear hX HX0 HLD HLr
          have HT5 := Lib.hid (HT3.out.keep (Kept.of_below (w' := w5) [] HBE.out) (fun _ _ hx => by cases hx))
          obtain ⟨e1', e2', e3', e4', hs5⟩ := (HW3.out.below HBE.out).open
          have k0 := hs5.cell0
          have HQ := Lib.hid (show ∀ w', (∃ nq, w' = w5.drewN nq) → ∀ j v, (bv d.1)[j]? = some v → w'.cell? ⟨X, 0 + j, none⟩ = some v by
            rintro w' ⟨nq, rfl⟩
            exact (HX1.out.drewN nq).dlName)
          clear hs5
          refine wp_region_draws_tail 6 (by kernel_rfl) (by kernel_rfl) ?_
          simp only [List.take_succ_cons, List.take_zero, List.drop_succ_cons, List.drop_zero]
          repeat (first | ((with_reducible refine wpQuiet_load_name (.tmp 62) ?_ ?_ X 0 d.1 ?_ HDL.out HQ.out ?_); rfl; rfl; rfl; simp only [Act.put, List.setIfInBounds_toArray, List.set_cons_zero, List.set_cons_succ]) | go_big_quiet_step (fail))
          refine wpQuiet_nil ?_
          rintro _ ⟨nq, rfl⟩
          have HX6 := Lib.hid (HX1.out.drewN nq)
          have HWI6 := Lib.hid (HWI.out.below (below_dN (Below.refl _ _) nq))
          have HBE6 := Lib.hid (below_dN HBE.out nq)
          have HT6 := Lib.hid (HT5.out.below (below_dN (Below.refl _ _) nq))
          generalize w5.drewN nq = w6 at HX6 HWI6 HBE6 HT6 ⊢
          clear HX1 HWI HBE HT5 HQ k0
          go_wp2_with fail
          refine (refplace_any w6 G m t most d.1 HT6.out HDL.out).mono ?_
          rintro e w7 ⟨rfl, hb7⟩
          have HX7 := Lib.hid (HX6.out.below hb7 HX6.out.lt)
          have HWI7 := Lib.hid (HWI6.out.below hb7)
          have HBE7 := Lib.hid (HBE6.out.trans (hb7.mono HBE6.out.size))
          clear hb7 HX6 HWI6 HBE6 HT6
          rcases plc_cases t d.1 with ⟨j, nd, hnd, _, hpl, _⟩ | ⟨_, hpl⟩
          · rw [hpl]
            have hjl : j < t.length := (List.getElem?_eq_some_iff.1 hnd).1
            have HPJ := Lib.hid hpl
            have hjc : j < cur.length := by have := HCL.out; have := HPL.out; omega
            clear hnd hpl
            obtain ⟨y, hy⟩ : ∃ y, cur[j]? = some y := ⟨_, List.getElem?_eq_getElem hjc⟩
            have HOY := Lib.hid (show owZ cur j = y from owZ_at hy)
            have HYO := Lib.hid (HCO.out y (List.mem_of_getElem? hy))
            obtain ⟨gc, oc, hao, hnl, q1, q2, q3, q4⟩ := HWI7.out.setZ hy
            subst hao; subst hnl
            have kd := HX7.out.dlNum HDL.out
            have d1 : ¬ ((j : Int) < 0) := by omega
            have d3 : (0 : Int) ≤ (j : Int) := by omega
            have d4 : (j : Int) < (cur.length : Int) := by omega
            have HQ4 := Lib.hid q4
            have HQ3 := Lib.hid q3
            clear hy q3 q4
            by_cases hA : d.2 ≤ -4611686018427387904
            · have HRES := Lib.hid (show chgW t PW ds = (1, cur) by rw [HST.out, HPJ.out, if_neg (by omega), if_pos (.inl hA)])
              have hdA : decide (d.2 ≤ -4611686018427387904) = true := decide_eq_true hA
              clear q1 q2 HQ4 HQ3
              have HFIN := Lib.hid (show appW t own ds = (1, PW) by rw [appW_is, ← HPE.out, HRES.out]; exact endW_err _ _ (by decide))
              have HWF := Lib.hid (show RWk w7 F' b m PW PW.length by rw [HPL.out]; exact HW3.out.below HBE7.out)
              have HKF := Lib.hid (HK3.out.then HBE7.out)
              go_wp2_with fail
              go_ret
              exact ⟨by rw [HFIN.out]; rfl, F', by rw [HFIN.out]; exact HWF.out, HKF.out, HN3.out⟩
            have hA0 : decide (d.2 ≤ -4611686018427387904) = false := decide_eq_false hA
            by_cases hB : 4611686018427387904 ≤ d.2
            · have HRES := Lib.hid (show chgW t PW ds = (1, cur) by rw [HST.out, HPJ.out, if_neg (by omega), if_pos (.inr hB)])
              have hB0 : decide (4611686018427387904 ≤ d.2) = true := decide_eq_true hB
              clear q1 q2 HQ4 HQ3
              have HFIN := Lib.hid (show appW t own ds = (1, PW) by rw [appW_is, ← HPE.out, HRES.out]; exact endW_err _ _ (by decide))
              have HWF := Lib.hid (show RWk w7 F' b m PW PW.length by rw [HPL.out]; exact HW3.out.below HBE7.out)
              have HKF := Lib.hid (HK3.out.then HBE7.out)
              go_wp2_with fail
              go_ret
              exact ⟨by rw [HFIN.out]; rfl, F', by rw [HFIN.out]; exact HWF.out, HKF.out, HN3.out⟩
            have hB0 : decide (4611686018427387904 ≤ d.2) = false := decide_eq_false hB
            have hadd : wrap64 (y + d.2) = y + d.2 := by unfold wrap64; have := HYO.out.1; have := HYO.out.2; omega
            have HDR := Lib.hid (show ¬ (d.2 ≤ -4611686018427387904 ∨ 4611686018427387904 ≤ d.2) by omega)
            go_upto_region 13 with fail
            clear hA0 hB0
            refine wp_region_draws_tail 10 (by kernel_rfl) (by kernel_rfl) ?_
            simp only [List.take_succ_cons, List.take_zero, List.drop_succ_cons, List.drop_zero]
            repeat (go_big_quiet_step (fail))
            refine wpQuiet_nil ?_
            rintro _ ⟨nq, rfl⟩
            have q1' : (w7.drewN nq).cell? ⟨gc, oc + j, none⟩ = some (.int .i64 y) := q1
            have q2' : (w7.drewN nq).frozen? ⟨gc, oc + j, none⟩ = false := q2
            have HW8 := Lib.hid (show Wide 1 ((w7.drewN nq).setCell ⟨gc, oc + j, none⟩ (.int .i64 (y + d.2))) w3.heap.size (.slice (some ⟨gc, oc, none⟩) cur.length cap1) (zv (cur.set j (y + d.2))) from (HQ4.out (y + d.2)).below ⟨rfl, rfl, rfl, Nat.le_refl _, fun _ _ => rfl⟩)
            have HB8 := Lib.hid (show Below w3.heap.size w3 ((w7.drewN nq).setCell ⟨gc, oc + j, none⟩ (.int .i64 (y + d.2))) from (below_dN HBE7.out nq).setCell HQ3.out _)
            have hc8 : ((w7.drewN nq).setCell ⟨gc, oc + j, none⟩ (.int .i64 (y + d.2))).cell? ⟨gc, oc + j, none⟩ = some (.int .i64 (y + d.2)) := World.cell?_setCell_same _ _ _ q1'
            have HC8 := Lib.hid hc8
            clear q1 q2 kd HQ4 HX7 HWI7 hc8 HBE7
            go_upto_region 14 with fail
            generalize (w7.drewN nq).setCell ⟨gc, oc + j, none⟩ (.int .i64 (y + d.2)) = w8 at HW8 HB8 HC8 ⊢
            clear q1' q2'
            have hc8 := HC8.out
            obtain ⟨Y, hY⟩ : ∃ Y, Y = y + d.2 := ⟨_, rfl⟩
            have HYE := Lib.hid hY
            rw [← hY] at hc8 HW8
            clear hY HC8 hadd
            by_cases hC0 : Y < 0
            · have hC1 : decide (Y < 0) = true := decide_eq_true hC0
              have HRES := Lib.hid (show chgW t PW ds = (1, cur) by rw [HST.out, HPJ.out, if_neg (by omega), if_neg HDR.out, Int.toNat_natCast, HOY.out, ← HYE.out, if_neg (fun hh => by have := hh.1; omega)])
              have HFIN := Lib.hid (show appW t own ds = (1, PW) by rw [appW_is, ← HPE.out, HRES.out]; exact endW_err _ _ (by decide))
              have HWF := Lib.hid (show RWk w8 F' b m PW PW.length by rw [HPL.out]; exact HW3.out.below HB8.out)
              have HKF := Lib.hid (HK3.out.then HB8.out)
              go_wp2_with fail
              go_ret
              exact ⟨by rw [HFIN.out]; rfl, F', by rw [HFIN.out]; exact HWF.out, HKF.out, HN3.out⟩
            have hC1 : decide (Y < 0) = false := decide_eq_false hC0
            by_cases hC2 : 4611686018427387904 ≤ Y
            · have hC3 : decide (4611686018427387904 ≤ Y) = true := decide_eq_true hC2
              have HRES := Lib.hid (show chgW t PW ds = (1, cur) by rw [HST.out, HPJ.out, if_neg (by omega), if_neg HDR.out, Int.toNat_natCast, HOY.out, ← HYE.out, if_neg (fun hh => by have := hh.2; omega)])
              have HFIN := Lib.hid (show appW t own ds = (1, PW) by rw [appW_is, ← HPE.out, HRES.out]; exact endW_err _ _ (by decide))
              have HWF := Lib.hid (show RWk w8 F' b m PW PW.length by rw [HPL.out]; exact HW3.out.below HB8.out)
              have HKF := Lib.hid (HK3.out.then HB8.out)
              go_wp2_with fail
              go_ret
              exact ⟨by rw [HFIN.out]; rfl, F', by rw [HFIN.out]; exact HWF.out, HKF.out, HN3.out⟩
            have hC3 : decide (4611686018427387904 ≤ Y) = false := decide_eq_false hC2
            have HOKY := Lib.hid (show okZ Y from ⟨by omega, by omega⟩)
            have HRES := Lib.hid (show chgW t PW ds = chgW t (cur.set j Y) (ds.drop (k + 1)) by rw [HST.out, HPJ.out, if_neg (by omega), if_neg HDR.out, Int.toNat_natCast, HOY.out, ← HYE.out, if_pos HOKY.out])
            go_wp2_with fail
            go_roundw
            case rel => exact ⟨k + 1, cur.set j Y, by omega, by first | rw [HWR.out] | rw [Int.natCast_succ], Lib.hid ⟨by rw [List.length_set]; exact HCL.out, HCO.out.set j HOKY.out, HRES.out.symm, HW8.out, HB8.out⟩⟩
            case measure => exact measK ds.length k 1 _ (by first | exact HWR.out | rw [Int.natCast_succ]) hlt (by omega)
          · rw [hpl]
            have HRES := Lib.hid (show chgW t PW ds = (7, cur) by rw [HST.out, hpl, if_pos (by omega)])
            clear hpl
            have HFIN := Lib.hid (show appW t own ds = (7, PW) by rw [appW_is, ← HPE.out, HRES.out]; exact endW_err _ _ (by decide))
            have HWF := Lib.hid (show RWk w7 F' b m PW PW.length by rw [HPL.out]; exact HW3.out.below HBE7.out)
            have HKF := Lib.hid (HK3.out.then HBE7.out)
            go_wp2_with fail
            go_ret
            exact ⟨by rw [HFIN.out]; rfl, F', by rw [HFIN.out]; exact HWF.out, HKF.out, HN3.out⟩
        · obtain rfl : k = ds.length := by omega
          have HCH := Lib.hid (show chgW t PW ds = (0, cur) from HR.out.eq.symm.trans (by rw [List.drop_length]; rfl))
          obtain ⟨ao2, n2, cap2, gg, oo, e2, hn2, hl2⟩ := HR.out.wide.lies
          injection e2 with e21 e22 e23
          subst e21; subst e22; subst e23
          rw [zv_length, Nat.mul_one] at hn2
          obtain rfl : cur.length = n1 := hn2
          have HLL := Lib.hid hl2
          have HCL := Lib.hid (show cur.length = t.length by have := HR.out.len; have := HPL.out; omega)
          have HCM := Lib.hid (show cur.length ≤ 1000 by have := HR.out.len; have := HPL.out; omega)
          have HAC := Lib.hid HR.out.ok
          have HBF := Lib.hid HR.out.below
          have HWF := Lib.hid HR.out.wide
          clear hl2 HR
          go_wp2_with fail
          go_loopw [9, 100] (fun s i wz => ∃ q : Nat, q ≤ cur.length ∧ i = .int .i64 q ∧ s = .int .u64 (totW (cur.take q)) ∧ Hid (totW (cur.take q) < 4611686018427387904) ∧ wz = wr) (fun _ i _ => cur.length - (intOf i).toNat)
          case atStart => exact ⟨0, Nat.zero_le _, rfl, rfl, Lib.hid (by rw [List.take_zero, totW_nil]; decide), rfl⟩
          case round =>
            obtain ⟨q, hq, rfl, rfl, HS, hwz⟩ := hrel
            subst hwz
            by_cases hlt2 : q < cur.length
            · obtain ⟨x, hx⟩ : ∃ x, cur[q]? = some x := ⟨_, List.getElem?_eq_getElem hlt2⟩
              obtain ⟨ha, e1⟩ := lies_z HLL.out hx
              subst ha
              have hok := HAC.out x (List.mem_of_getElem? hx)
              have hnn := (HAC.out.take q).tot_nonneg
              have hs := HS.out
              have HTT := Lib.hid (totW_take hx)
              have HM := Lib.hid (HAC.out.tot_take (cur.length) (q + 1) (by omega))
              obtain ⟨s, hse⟩ : ∃ s, s = totW (cur.take q) := ⟨_, rfl⟩
              rw [← hse] at HTT hs hnn ⊢
              have hcv : IntKind.u64.wrap x = x := by rw [IntKind.wrap_u64]; have := hok.1; have := hok.2; omega
              have hadd : IntKind.u64.wrap (s + x) = s + x := by rw [IntKind.wrap_u64]; have := hok.1; have := hok.2; omega
              have HWR := Lib.hid (show wrap64 ((q : Int) + 1) = ((q + 1 : Nat) : Int) by have := HCM.out; unfold wrap64; omega)
              clear hok hnn hs hse hx
              by_cases h2 : 4611686018427387904 ≤ s + x
              · have h3 : decide (4611686018427387904 ≤ s + x) = true := decide_eq_true h2
                have HRES := Lib.hid (show endW PW (chgW t PW ds) = (1, PW) by rw [HCH.out, endW, if_pos rfl, if_neg (show ¬ totW cur < 4611686018427387904 by have := HM.out; rw [HTT.out] at this; omega)])
                have HFIN := Lib.hid (show appW t own ds = (1, PW) by rw [appW_is, ← HPE.out, HRES.out])
                have HWG := Lib.hid (show RWk wr F' b m PW PW.length by rw [HPL.out]; exact HW3.out.below HBF.out)
                have HKF := Lib.hid (HK3.out.then HBF.out)
                go_wp2_with fail
                go_ret
                exact ⟨by rw [HFIN.out]; rfl, F', by rw [HFIN.out]; exact HWG.out, HKF.out, HN3.out⟩
              · have h3 : decide (4611686018427387904 ≤ s + x) = false := decide_eq_false h2
                go_wp2_with fail
                go_roundw
                case rel => exact ⟨q + 1, by omega, by first | (rw [HWR.out]) | rw [Int.natCast_succ], by rw [HTT.out], Lib.hid (by rw [HTT.out]; omega), by first | rfl | trivial⟩
                case measure => exact measK cur.length q 1 _ (by first | exact HWR.out | rw [Int.natCast_succ]) hlt2 (by omega)
            · obtain rfl : q = cur.length := by omega
              have hs := HS.out
              rw [List.take_length] at hs
              have HFIN := Lib.hid (show appW t own ds = (0, cur) by rw [appW_is, ← HPE.out, HCH.out, endW, if_pos rfl, if_pos hs])
              have hst := HS3.out.own2 HBF.out HWF.out (by have := HCL.out; have := HTP.out; omega)
              have c1' := (HS3.out.below HBF.out).cell1
              have f1' := (HS3.out.below HBF.out).blk.free 1
              have HST := Lib.hid hst
              have hst1 := hst.1
              rw [← HCL.out] at hst1
              have HST1 := Lib.hid hst1
              clear hst hst1 hs
              go_wp2_with fail
              go_ret
              exact ⟨by rw [HFIN.out]; rfl, _, by rw [HFIN.out]; exact HST1.out, HK3.out.trans HST.out.2.1 HN3.out, HN3.out.trans HST.out.2.2 HK3.out.size⟩
end Go.Proofs.Ytpamifdcbnkcdaa

/-
  A tree, its weights, and the document's tree and weights, side by side: what each call leaves of all.
-/
namespace Go.Proofs.Ytpamifdcbnkcdaa
open Go Go.RowKit
set_option maxRecDepth 10000

theorem pnm_grow {t u : List Nd} (h : t <+: u) {k : Nat} (hk : k < t.length) : pnm u (k : Int) = pnm t (k : Int) := by
  obtain ⟨r, rfl⟩ := h
  simp only [pnm, nodeAt_nat, List.getElem?_append_left hk]
theorem Good.bsN_grow {t u : List Nd} {most : Int} (G : Good t most) (h : t <+: u) {own : List Int} (ho : own.length ≤ t.length) (i : Nat) : ∀ n : Nat, n ≤ t.length → bsN u own i n = bsN t own i n
  | 0, _ => rfl
  | n + 1, hn => by
    have ih := Good.bsN_grow G h ho i n (by omega)
    rw [bsN, bsN, ih, parW_grow h (show n < t.length by omega)]
    split
    · unfold nxW
      rcases G.bsN_is own i n (by omega) with ⟨h1, _⟩ | ⟨q, h1, ⟨h2, _⟩, _⟩
      · rw [if_pos (by omega), if_pos (by omega)]
      · rw [h1, Int.toNat_natCast]
        unfold btW
        rw [G.wtW_grow h ho, G.wtW_grow h ho, pnm_grow h (show q < t.length by omega), pnm_grow h (show n < t.length by omega)]
    · rfl
theorem Good.bssL_grow {t u : List Nd} {most : Int} (G : Good t most) (h : t <+: u) {own : List Int} (ho : own.length ≤ t.length) : bssL u own = bssL t own := List.map_congr_left fun i _ => G.bsN_grow h ho i _ ho
theorem Good.wtsL_grow {t u : List Nd} {most : Int} (G : Good t most) (h : t <+: u) {own : List Int} (ho : own.length ≤ t.length) : wtsL u own = wtsL t own := List.map_congr_left fun i _ => G.wtW_grow h ho i
theorem prefix_len {t u : List Nd} (h : t <+: u) : t.length ≤ u.length := h.length_le
theorem WgtG.grow {w : World} {F : List Nat} {b tb : Nat} {t u : List Nd} {own : List Int} {most : Int} (h : WgtG w F b tb t own) (G : Good t most) (hp : t <+: u) : WgtG w F b tb u own :=
  ⟨h.1, Nat.le_trans h.2.1 (prefix_len hp), h.2.2.1, by rw [G.wtsL_grow hp h.2.1, G.bssL_grow hp h.2.1]; exact h.2.2.2⟩

structure PBody (B : Nat) (K : List Nat) (w : World) (tb wb mb rb : Nat) (tx ty : List Nd) (ox oy : List Int) (G F M R : List Nat) : Prop where
  tre : Tre w G tb tx 256
  wgt : WgtG w F wb tb tx ox
  ref : Ref w M mb ty 256
  rw : RWk w R rb mb oy oy.length
  og : OwnG oy
  ol : oy.length ≤ ty.length
  hG : High B G
  hF : High B F
  hM : High B M
  hR : High B R
  aGF : Away G F
  aGM : Away G M
  aGR : Away G R
  aFM : Away F M
  aFR : Away F R
  aMR : Away M R
  kG : Away K G
  kF : Away K F
  kM : Away K M
  kR : Away K R
/-- All four, at these trees and own weights; K: blocks that are none of theirs. -/
structure PSX (B : Nat) (K : List Nat) (w : World) (tb wb mb rb : Nat) (tx ty : List Nd) (ox oy : List Int) : Prop where
  body : ∃ G F M R, PBody B K w tb wb mb rb tx ty ox oy G F M R
  low : Low w K
  size : B ≤ w.heap.size
def Held4 (K : List Nat) (w w' : World) : Prop := ∀ k ∈ K, w'.heap[k]? = w.heap[k]?
section
variable {B : Nat} {K : List Nat} {w w' : World} {tb wb mb rb : Nat} {tx ty : List Nd} {ox oy : List Int}
theorem PSX.below (h : PSX B K w tb wb mb rb tx ty ox oy) (hb : Below w.heap.size w w') : PSX B K w' tb wb mb rb tx ty ox oy := by
  obtain ⟨⟨G, F, M, R, h⟩, hl, hs⟩ := h
  exact ⟨⟨G, F, M, R, { h with tre := h.tre.below hb, wgt := h.wgt.below hb, ref := h.ref.below hb, rw := h.rw.below hb }⟩, hl.keep hb.size, Nat.le_trans hs hb.size⟩
theorem PSX.more (h : PSX B K w tb wb mb rb tx ty ox oy) (hb : Below w.heap.size w w') {K' : List Nat} (h1 : ∀ k ∈ K', w.heap.size ≤ k) (h2 : Low w' K') : PSX B (K' ++ K) w' tb wb mb rb tx ty ox oy := by
  obtain ⟨⟨G, F, M, R, h⟩, hl, hs⟩ := h
  have away : ∀ {Z : List Nat}, Low w Z → Away K Z → Away (K' ++ K) Z := fun hz hk x hx hm => by
    rcases List.mem_append.1 hx with hx | hx
    · have := h1 x hx; have := hz x hm; omega
    · exact hk x hx hm
  refine ⟨⟨G, F, M, R, { h with tre := h.tre.below hb, wgt := h.wgt.below hb, ref := h.ref.below hb, rw := h.rw.below hb, kG := away h.tre.low h.kG, kF := away h.wgt.low h.kF, kM := away h.ref.low h.kM, kR := away h.rw.low h.kR }⟩, fun x hx => ?_, Nat.le_trans hs hb.size⟩
  rcases List.mem_append.1 hx with hx | hx
  · exact h2 x hx
  · exact Nat.lt_of_lt_of_le (hl x hx) hb.size
theorem PSX.drop (K' : List Nat) (h : PSX B (K' ++ K) w tb wb mb rb tx ty ox oy) : PSX B K w tb wb mb rb tx ty ox oy := by
  obtain ⟨⟨G, F, M, R, h⟩, hl, hs⟩ := h
  exact ⟨⟨G, F, M, R, { h with kG := fun x hx => h.kG x (List.mem_append_right _ hx), kF := fun x hx => h.kF x (List.mem_append_right _ hx), kM := fun x hx => h.kM x (List.mem_append_right _ hx), kR := fun x hx => h.kR x (List.mem_append_right _ hx) }⟩, fun x hx => hl x (List.mem_append_right _ hx), hs⟩
theorem Held4.of_below (hl : Low w K) (hb : Below w.heap.size w w') : Held4 K w w' := fun k hk => hb.block k (hl k hk)
theorem Held4.trans {w'' : World} (h : Held4 K w w') (k : Held4 K w' w'') : Held4 K w w'' := fun x hx => (k x hx).trans (h x hx)
theorem Held4.sub {K' : List Nat} (h : Held4 (K' ++ K) w w') : Held4 K w w' := fun x hx => h x (List.mem_append_right _ hx)
theorem Held4.blk {k : Nat} {ty : TypeId} {vs : List Value} (h : Held4 K w w') (hb : Blk w k ty vs) (hk : k ∈ K) : Blk w' k ty vs := (h k hk).trans hb
theorem PSX.good (h : PSX B K w tb wb mb rb tx ty ox oy) : Good tx 256 := by obtain ⟨⟨G, F, M, R, h⟩, _, _⟩ := h; exact h.tre.1
theorem PSX.goodY (h : PSX B K w tb wb mb rb tx ty ox oy) : Good ty 256 := by obtain ⟨⟨G, F, M, R, h⟩, _, _⟩ := h; exact h.ref.1
theorem PSX.ownG (h : PSX B K w tb wb mb rb tx ty ox oy) : OwnG ox ∧ ox.length ≤ tx.length ∧ 0 < ox.length := by obtain ⟨⟨G, F, M, R, h⟩, _, _⟩ := h; exact ⟨h.wgt.1, h.wgt.2.1, h.wgt.2.2.1⟩

theorem PSX.add (h : PSX B K w tb wb mb rb tx ty ox oy) (r p : List UInt8) (s : Int) (hr : r.length = 32) (hp : p.length = 32) :
    Calls Try.prog 28 #[.pointer (some ⟨tb, 0, none⟩), .agg (bv r).toArray, .agg (bv p).toArray, .int .i64 s] w fun e w' => e = .returned (.int .i64 (addT 256 tx r p s).1) ∧ PSX B K w' tb wb mb rb (addT 256 tx r p s).2 ty ox oy ∧ Below B w w' ∧ Held4 K w w' := by
  obtain ⟨⟨G, F, M, R, h⟩, hl, hs⟩ := h
  refine (add_any w G tb tx 256 r p s h.tre hr hp).mono ?_
  rintro e w' ⟨he, G', ht, hk, hn⟩
  have lF := h.wgt.low
  have lM := h.ref.low
  have lR := h.rw.low
  refine ⟨he, ⟨⟨G', F, M, R, { h with tre := ht, wgt := (h.wgt.keep hk h.aGF.symm).grow h.tre.1 (addT_prefix 256 tx r p s), ref := h.ref.keep hk h.aGM.symm, rw := h.rw.keep hk h.aGR.symm, hG := h.hG.new hn hs, aGF := h.aGF.new hn lF, aGM := h.aGM.new hn lM, aGR := h.aGR.new hn lR, kG := h.kG.new' hn hl }⟩, hl.keep hk.size, Nat.le_trans hs hk.size⟩, hk.below hs h.hG, fun k hkk => hk.block k (hl k hkk) (h.kG k hkk)⟩
theorem PSX.refadd (h : PSX B K w tb wb mb rb tx ty ox oy) (r p : List UInt8) (s : Int) (hr : r.length = 32) (hp : p.length = 32) :
    Calls Try.prog 39 #[.pointer (some ⟨mb, 0, none⟩), .agg (bv r).toArray, .agg (bv p).toArray, .int .i64 s] w fun e w' => e = .returned (.int .i64 (addT 256 ty r p s).1) ∧ PSX B K w' tb wb mb rb tx (addT 256 ty r p s).2 ox oy ∧ Below B w w' ∧ Held4 K w w' := by
  obtain ⟨⟨G, F, M, R, h⟩, hl, hs⟩ := h
  refine (refadd_any w M mb ty 256 r p s h.ref hr hp).mono ?_
  rintro e w' ⟨he, M', ht, hk, hn⟩
  have lG := h.tre.low
  have lF := h.wgt.low
  have lR := h.rw.low
  refine ⟨he, ⟨⟨G, F, M', R, { h with tre := h.tre.keep hk h.aGM, wgt := h.wgt.keep hk h.aFM, ref := ht, rw := h.rw.keep hk h.aMR.symm, ol := Nat.le_trans h.ol (prefix_len (addT_prefix 256 ty r p s)), hM := h.hM.new hn hs, aGM := h.aGM.new' hn lG, aFM := h.aFM.new' hn lF, aMR := h.aMR.new hn lR, kM := h.kM.new' hn hl }⟩, hl.keep hk.size, Nat.le_trans hs hk.size⟩, hk.below hs h.hM, fun k hkk => hk.block k (hl k hkk) (h.kM k hkk)⟩
theorem PSX.apply (h : PSX B K w tb wb mb rb tx ty ox oy) (ds : List Dl) (dao : Option Addr) (dcap dg doff : Nat) (hD : Dls ds) (hdl : ds.length ≤ 1000) (hL : Lies w w.heap.size dao dg doff (dvs ds)) (hK : 0 < ds.length → dg ∈ K) :
    Calls Try.prog 12 #[.pointer (some ⟨wb, 0, none⟩), .slice dao ds.length dcap] w fun e w' => e = .returned (.int .i64 (appW tx ox ds).1) ∧ PSX B K w' tb wb mb rb tx ty (appW tx ox ds).2 oy ∧ Below B w w' ∧ Held4 K w w' := by
  obtain ⟨⟨G, F, M, R, h⟩, hl, hs⟩ := h
  refine (apply_any w G tb tx 256 F wb ox _ _ ds dao dcap dg doff h.tre h.wgt.2.2.2 h.aGF h.wgt.2.1 h.wgt.1 hD hdl hL (fun h0 => h.kF dg (hK h0))).mono ?_
  rintro e w' ⟨he, F', ht, hk, hn⟩
  have lG := h.tre.low
  have lM := h.ref.low
  have lR := h.rw.low
  refine ⟨he, ⟨⟨G, F', M, R, { h with tre := h.tre.keep hk h.aGF, wgt := ht, ref := h.ref.keep hk h.aFM.symm, rw := h.rw.keep hk h.aFR.symm, hF := h.hF.new hn hs, aGF := h.aGF.new' hn lG, aFM := h.aFM.new hn lM, aFR := h.aFR.new hn lR, kF := h.kF.new' hn hl }⟩, hl.keep hk.size, Nat.le_trans hs hk.size⟩, hk.below hs h.hF, fun k hkk => hk.block k (hl k hkk) (h.kF k hkk)⟩
theorem PSX.refapply (h : PSX B K w tb wb mb rb tx ty ox oy) (ds : List Dl) (dao : Option Addr) (dcap dg doff : Nat) (hD : Dls ds) (hdl : ds.length ≤ 1000) (hL : Lies w w.heap.size dao dg doff (dvs ds)) (hK : 0 < ds.length → dg ∈ K) :
    Calls Try.prog 40 #[.pointer (some ⟨rb, 0, none⟩), .slice dao ds.length dcap] w fun e w' => e = .returned (.int .i64 (appW ty oy ds).1) ∧ PSX B K w' tb wb mb rb tx ty ox (appW ty oy ds).2 ∧ Below B w w' ∧ Held4 K w w' := by
  obtain ⟨⟨G, F, M, R, h⟩, hl, hs⟩ := h
  refine (rapply_any w M mb ty 256 R rb oy ds dao dcap dg doff h.ref h.rw h.aMR h.ol h.og hD hdl hL (fun h0 => h.kR dg (hK h0))).mono ?_
  rintro e w' ⟨he, R', ht, hk, hn⟩
  have lG := h.tre.low
  have lF := h.wgt.low
  have lM := h.ref.low
  refine ⟨he, ⟨⟨G, F, M, R', { h with tre := h.tre.keep hk h.aGR, wgt := h.wgt.keep hk h.aFR, ref := h.ref.keep hk h.aMR, rw := ht, og := appW_ok h.og ty ds, ol := by rw [appW_length h.og h.ol]; exact Nat.le_refl _, hR := h.hR.new hn hs, aGR := h.aGR.new' hn lG, aFR := h.aFR.new' hn lF, aMR := h.aMR.new' hn lM, kR := h.kR.new' hn hl }⟩, hl.keep hk.size, Nat.le_trans hs hk.size⟩, hk.below hs h.hR, fun k hkk => hk.block k (hl k hkk) (h.kR k hkk)⟩
end
end Go.Proofs.Ytpamifdcbnkcdaa
