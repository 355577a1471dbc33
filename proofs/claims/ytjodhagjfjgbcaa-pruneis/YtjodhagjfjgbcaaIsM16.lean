/-
  The texts WBest, Ask0, RWAsk, one behind the other.
-/
import Derived.Test.YtjodhagjfjgbcaaIsM15
import Derived.Test.YtjodhagjfjgbcaaIsM12
import Derived.Test.YtjodhagjfjgbcaaIsM8
import Derived.Test.YtjodhagjfjgbcaaIsM1
/-
  Best and Head.
-/
namespace Go.Proofs.Ytjodhagjfjgbcaa
open Go Go.RowKit
set_option maxRecDepth 10000

/-- An answer that lies in a block: a name, and a Boolean. -/
theorem ret_name2 {fn : Func} {p u : Tmp} (h : fn.results = #[.cell p 24, .tmp u]) {a : Act} {w : World} {g : Nat} {r : List UInt8} (hp : a.tmps.getD p undef = .pointer (some ⟨g, 0, none⟩)) (hg : Blk w g 24 (bv r)) (hl : r.length = 32) (hd : a.defers = [])
    {R : Ending → World → Prop} (hR : R (.returned (.tuple #[.agg (bv r).toArray, a.tmps.getD u undef])) w) : bodyPost Try.prog fn R .ret a w := by
  refine bodyPost_ret ?_ hd hR
  rw [results_cell_tmp h, hp]
  have hlo := run_load_root (w := w) (g := g) (off := 0) hl hg.rootAll
  simp only [Instr.loadAt, Instr.sureAddr, Sem.run_bind, Sem.run_pure, Result.andThen] at hlo
  simp only [asAddr, Sem.run_pure, Result.andThen_ok]
  rw [hlo]
  rfl
theorem zlen : zero32.length = 32 := by simp [zero32]
theorem blk_zlit (w : World) : Blk (w.alloc (.cells #[.int .u8 0, .int .u8 0, .int .u8 0, .int .u8 0, .int .u8 0, .int .u8 0, .int .u8 0, .int .u8 0, .int .u8 0, .int .u8 0, .int .u8 0, .int .u8 0, .int .u8 0, .int .u8 0, .int .u8 0, .int .u8 0, .int .u8 0, .int .u8 0, .int .u8 0, .int .u8 0, .int .u8 0, .int .u8 0, .int .u8 0, .int .u8 0, .int .u8 0, .int .u8 0, .int .u8 0, .int .u8 0, .int .u8 0, .int .u8 0, .int .u8 0, .int .u8 0] 24)) w.heap.size 24 (bv zero32) := Blk.new w _ (bv zero32).toArray
theorem tellZ_cases (t : List Nd) (N : Nat) (r : List UInt8) (dn : Int) (z : Nat → Int) : tellZ t N r dn z = dn ∨ ∃ k : Nat, k < N ∧ plc t r = (k : Int) ∧ tellZ t N r dn z = z k := by
  unfold tellZ
  split
  · rename_i h
    exact .inr ⟨(plc t r).toNat, by omega, by omega, rfl⟩
  · exact .inl rfl
/-- Where a block's best child stands; -1: it has none, or isn't known. -/
def bstZ (t : List Nd) (own : List Int) (r : List UInt8) : Int := tellZ t own.length r (-1) (bsW t own)
theorem Good.bstZ_place {t : List Nd} {most : Int} (G : Good t most) {own : List Int} (hl : own.length ≤ t.length) (r : List UInt8) : bstZ t own r = -1 ∨ ∃ k : Nat, bstZ t own r = (k : Int) ∧ k < own.length := by
  unfold bstZ
  rcases tellZ_cases t own.length r (-1) (bsW t own) with h | ⟨k, _, _, h⟩
  · exact .inl h
  · rw [h]
    rcases G.bsW_place hl k with ⟨h2, _⟩ | ⟨q, h2, _, h3, _⟩
    · exact .inl h2
    · exact .inr ⟨q, h2, h3⟩

set_option maxHeartbeats 8000000 in
theorem best_any (w : World) (G : List Nat) (tb : Nat) (t : List Nd) (most : Int) (F : List Nat) (b : Nat) (own : List Int) (r : List UInt8) (hT : Tre w G tb t most) (h : WgtG w F b tb t own) (hr : r.length = 32) :
    Calls Try.prog 25 #[.pointer (some ⟨b, 0, none⟩), .agg (bv r).toArray] w fun e w' => e = .returned (.tuple #[.agg (bv (pnm t (bstZ t own r))).toArray, .bool (decide (0 ≤ bstZ t own r))]) ∧ Below w.heap.size w w' := by
  have hb0 : Below w.heap.size w ((w.alloc (.cells #[.pointer (some ⟨b, 0, none⟩)] 27)).alloc (.cells (bv r).toArray 24)) := ((Below.refl _ w).alloc (Nat.le_refl _) _).alloc (by simp) _
  have HP0 := Lib.hid ((Blk.new w 27 #[.pointer (some ⟨b, 0, none⟩)]).alloc (.cells (bv r).toArray 24))
  have hx := Blk.new (w.alloc (.cells #[.pointer (some ⟨b, 0, none⟩)] 27)) 24 (bv r).toArray
  rw [World.size_alloc] at hx
  have HX0 := Lib.hid hx
  have HGD := Lib.hid hT.1
  have HLE := Lib.hid h.2.1
  have hs2 : ((w.alloc (.cells #[.pointer (some ⟨b, 0, none⟩)] 27)).alloc (.cells (bv r).toArray 24)).heap.size = w.heap.size + 2 := by simp
  obtain ⟨w0, hw0⟩ : ∃ w0, w0 = (w.alloc (.cells #[.pointer (some ⟨b, 0, none⟩)] 27)).alloc (.cells (bv r).toArray 24) := ⟨_, rfl⟩
  rw [← hw0] at hb0 HP0 HX0 hs2
  have hb1 : Below w.heap.size w (w0.alloc (.cells #[.int .u8 0, .int .u8 0, .int .u8 0, .int .u8 0, .int .u8 0, .int .u8 0, .int .u8 0, .int .u8 0, .int .u8 0, .int .u8 0, .int .u8 0, .int .u8 0, .int .u8 0, .int .u8 0, .int .u8 0, .int .u8 0, .int .u8 0, .int .u8 0, .int .u8 0, .int .u8 0, .int .u8 0, .int .u8 0, .int .u8 0, .int .u8 0, .int .u8 0, .int .u8 0, .int .u8 0, .int .u8 0, .int .u8 0, .int .u8 0, .int .u8 0, .int .u8 0] 24)) := hb0.alloc hb0.size _
  have HP := Lib.hid (HP0.out.alloc (.cells #[.int .u8 0, .int .u8 0, .int .u8 0, .int .u8 0, .int .u8 0, .int .u8 0, .int .u8 0, .int .u8 0, .int .u8 0, .int .u8 0, .int .u8 0, .int .u8 0, .int .u8 0, .int .u8 0, .int .u8 0, .int .u8 0, .int .u8 0, .int .u8 0, .int .u8 0, .int .u8 0, .int .u8 0, .int .u8 0, .int .u8 0, .int .u8 0, .int .u8 0, .int .u8 0, .int .u8 0, .int .u8 0, .int .u8 0, .int .u8 0, .int .u8 0, .int .u8 0] 24))
  have HX := Lib.hid (HX0.out.alloc (.cells #[.int .u8 0, .int .u8 0, .int .u8 0, .int .u8 0, .int .u8 0, .int .u8 0, .int .u8 0, .int .u8 0, .int .u8 0, .int .u8 0, .int .u8 0, .int .u8 0, .int .u8 0, .int .u8 0, .int .u8 0, .int .u8 0, .int .u8 0, .int .u8 0, .int .u8 0, .int .u8 0, .int .u8 0, .int .u8 0, .int .u8 0, .int .u8 0, .int .u8 0, .int .u8 0, .int .u8 0, .int .u8 0, .int .u8 0, .int .u8 0, .int .u8 0, .int .u8 0] 24))
  have hz := blk_zlit w0
  rw [hs2] at hz
  have HZ := Lib.hid hz
  have HT := Lib.hid (hT.below hb1)
  have HW := Lib.hid (h.2.2.2.below hb1)
  have HB := Lib.hid hb1
  rw [hw0] at HP HX HZ HT HW HB
  clear hT h hx hb1 hb0 HP0 HX0 hs2 hw0 hz w0
  go_enter Try.func25, Try.ntmps25
  go_upto_region 1 with fail
  try simp only [Nat.add_assoc, Nat.reduceAdd]
  generalize ((w.alloc (.cells #[.pointer (some ⟨b, 0, none⟩)] 27)).alloc (.cells (bv r).toArray 24)).alloc (.cells #[.int .u8 0, .int .u8 0, .int .u8 0, .int .u8 0, .int .u8 0, .int .u8 0, .int .u8 0, .int .u8 0, .int .u8 0, .int .u8 0, .int .u8 0, .int .u8 0, .int .u8 0, .int .u8 0, .int .u8 0, .int .u8 0, .int .u8 0, .int .u8 0, .int .u8 0, .int .u8 0, .int .u8 0, .int .u8 0, .int .u8 0, .int .u8 0, .int .u8 0, .int .u8 0, .int .u8 0, .int .u8 0, .int .u8 0, .int .u8 0, .int .u8 0, .int .u8 0] 24) = w1 at HP HX HZ HT HW HB ⊢
  obtain ⟨P, hP⟩ : ∃ P, P = w.heap.size := ⟨_, rfl⟩
  obtain ⟨X, hX⟩ : ∃ X, X = w.heap.size + 1 := ⟨_, rfl⟩
  obtain ⟨Z, hZ⟩ : ∃ Z, Z = w.heap.size + 2 := ⟨_, rfl⟩
  have HZE := Lib.hid (show w.heap.size ≤ Z by omega)
  rw [← hX] at HX ⊢
  rw [← hZ] at HZ ⊢
  rw [← hP] at HP ⊢
  have HNE := Lib.hid (show P ≠ Z by omega)
  clear hP hX hZ
  have HXA := Lib.hid HX.out.rootAll
  have kp := HP.out.cell 0
  simp only [List.getElem?_cons_zero] at kp
  have HF := Lib.hid (show ∀ (j : Nat) W, j < own.length → Below w1.heap.size w1 W → Calls Try.prog 47 #[.int .i64 (j : Int), .pointer (some ⟨P, 0, none⟩)] W fun e w' => e = .returned (.int .i64 (bsW t own j)) ∧ w' = W from fun j W hj hb => bs_fn W F b tb P j t own (HW.out.below hb) ((HP.out.below hb HP.out.lt).cell 0) hj)
  go_wp2_with ((with_reducible refine wpList_load_name (.tmp 3) ?_ ?_ X 0 r ?_ hr HXA.out ?_); rfl; rfl; rfl)
  refine (told_any w1 G tb t most F b own (wtsL t own) (bssL t own) r (-1) _ P (bsW t own) callBest HT.out HW.out hr HF.out).mono ?_
  rintro e w2 ⟨rfl, hb2⟩
  rw [show tellZ t own.length r (-1) (bsW t own) = bstZ t own r from rfl]
  have HB2 := Lib.hid (HB.out.trans (hb2.mono HB.out.size))
  have HZ2 := Lib.hid (HZ.out.below hb2 HZ.out.lt)
  have HP2 := Lib.hid (HP.out.below hb2 HP.out.lt)
  have HT2 := Lib.hid (HT.out.below hb2)
  have HW2 := Lib.hid (HW.out.below hb2)
  have HZL := Lib.hid zlen
  clear hb2 HP HX HZ HT HW HB HXA kp HF
  rcases HGD.out.bstZ_place HLE.out r with hb | ⟨k, hb, hk⟩
  · rw [hb]
    have HBZ := Lib.hid hb
    clear hb
    have HR := Lib.hid (show pnm t (-1) = zero32 by simp [pnm, nodeAt])
    have HZF := Lib.hid (HZ2.out.setRow (bv zero32))
    have HBF := Lib.hid (below_row HB2.out HZE.out (bv zero32).toArray)
    go_wp2_with ((with_reducible refine wpList_store_name (.tmp 4) (.tmp 13) ?_ ?_ Z zero32 zero32 ?_ ?_ HZ2.out HZL.out HZL.out ?_); rfl; rfl; rfl; rfl)
    refine ret_name2 rfl rfl HZF.out HZL.out rfl ?_
    exact ⟨by rw [HBZ.out, HR.out]; rfl, HBF.out⟩
  · rw [hb]
    have HBZ := Lib.hid hb
    have d1 : ¬ ((k : Int) = -1) := by omega
    have d2 : ((k : Int) == -1) = false := by simp [d1]
    have kp := HP2.out.cell 0
    simp only [List.getElem?_cons_zero] at kp
    clear hb
    go_wp2_with fail
    refine (wname_any w2 G tb t most F b k own (wtsL t own) (bssL t own) HT2.out HW2.out (by have := HLE.out; omega)).mono ?_
    rintro e w3 ⟨rfl, hb3⟩
    have HZ3 := Lib.hid (HZ2.out.below hb3 HZ2.out.lt)
    have HB3 := Lib.hid (HB2.out.trans (hb3.mono HB2.out.size))
    have HNL := Lib.hid (HGD.out.pnm_len (k : Int))
    have HZF := Lib.hid (HZ3.out.setRow (bv (pnm t (k : Int))))
    have HBF := Lib.hid (below_row HB3.out HZE.out (bv (pnm t (k : Int))).toArray)
    clear hb3
    go_wp2_with ((with_reducible refine wpList_store_name (.tmp 4) (.tmp 16) ?_ ?_ Z zero32 (pnm t (k : Int)) ?_ ?_ HZ3.out HZL.out HNL.out ?_); rfl; rfl; rfl; rfl)
    refine ret_name2 rfl rfl HZF.out HNL.out rfl ?_
    exact ⟨by rw [HBZ.out, decide_eq_true (show (0 : Int) ≤ (k : Int) by omega)]; rfl, HBF.out⟩

theorem best_nil (w : World) (r : List UInt8) (hr : r.length = 32) :
    Calls Try.prog 25 #[.pointer none, .agg (bv r).toArray] w fun e w' => e = .returned (.tuple #[.agg (bv zero32).toArray, .bool false]) ∧ Below w.heap.size w w' := by
  have hb0 : Below w.heap.size w ((w.alloc (.cells #[.pointer none] 27)).alloc (.cells (bv r).toArray 24)) := ((Below.refl _ w).alloc (Nat.le_refl _) _).alloc (by simp) _
  have HP0 := Lib.hid ((Blk.new w 27 #[.pointer none]).alloc (.cells (bv r).toArray 24))
  have hx := Blk.new (w.alloc (.cells #[.pointer none] 27)) 24 (bv r).toArray
  rw [World.size_alloc] at hx
  have HX0 := Lib.hid hx
  have hs2 : ((w.alloc (.cells #[.pointer none] 27)).alloc (.cells (bv r).toArray 24)).heap.size = w.heap.size + 2 := by simp
  obtain ⟨w0, hw0⟩ : ∃ w0, w0 = (w.alloc (.cells #[.pointer none] 27)).alloc (.cells (bv r).toArray 24) := ⟨_, rfl⟩
  rw [← hw0] at hb0 HP0 HX0 hs2
  have hb1 : Below w.heap.size w (w0.alloc (.cells #[.int .u8 0, .int .u8 0, .int .u8 0, .int .u8 0, .int .u8 0, .int .u8 0, .int .u8 0, .int .u8 0, .int .u8 0, .int .u8 0, .int .u8 0, .int .u8 0, .int .u8 0, .int .u8 0, .int .u8 0, .int .u8 0, .int .u8 0, .int .u8 0, .int .u8 0, .int .u8 0, .int .u8 0, .int .u8 0, .int .u8 0, .int .u8 0, .int .u8 0, .int .u8 0, .int .u8 0, .int .u8 0, .int .u8 0, .int .u8 0, .int .u8 0, .int .u8 0] 24)) := hb0.alloc hb0.size _
  have HP := Lib.hid (HP0.out.alloc (.cells #[.int .u8 0, .int .u8 0, .int .u8 0, .int .u8 0, .int .u8 0, .int .u8 0, .int .u8 0, .int .u8 0, .int .u8 0, .int .u8 0, .int .u8 0, .int .u8 0, .int .u8 0, .int .u8 0, .int .u8 0, .int .u8 0, .int .u8 0, .int .u8 0, .int .u8 0, .int .u8 0, .int .u8 0, .int .u8 0, .int .u8 0, .int .u8 0, .int .u8 0, .int .u8 0, .int .u8 0, .int .u8 0, .int .u8 0, .int .u8 0, .int .u8 0, .int .u8 0] 24))
  have HX := Lib.hid (HX0.out.alloc (.cells #[.int .u8 0, .int .u8 0, .int .u8 0, .int .u8 0, .int .u8 0, .int .u8 0, .int .u8 0, .int .u8 0, .int .u8 0, .int .u8 0, .int .u8 0, .int .u8 0, .int .u8 0, .int .u8 0, .int .u8 0, .int .u8 0, .int .u8 0, .int .u8 0, .int .u8 0, .int .u8 0, .int .u8 0, .int .u8 0, .int .u8 0, .int .u8 0, .int .u8 0, .int .u8 0, .int .u8 0, .int .u8 0, .int .u8 0, .int .u8 0, .int .u8 0, .int .u8 0] 24))
  have hz := blk_zlit w0
  rw [hs2] at hz
  have HZ := Lib.hid hz
  have HB := Lib.hid hb1
  rw [hw0] at HP HX HZ HB
  clear hx hb1 hb0 HP0 HX0 hs2 hw0 hz w0
  go_enter Try.func25, Try.ntmps25
  go_upto_region 1 with fail
  try simp only [Nat.add_assoc, Nat.reduceAdd]
  generalize ((w.alloc (.cells #[.pointer none] 27)).alloc (.cells (bv r).toArray 24)).alloc (.cells #[.int .u8 0, .int .u8 0, .int .u8 0, .int .u8 0, .int .u8 0, .int .u8 0, .int .u8 0, .int .u8 0, .int .u8 0, .int .u8 0, .int .u8 0, .int .u8 0, .int .u8 0, .int .u8 0, .int .u8 0, .int .u8 0, .int .u8 0, .int .u8 0, .int .u8 0, .int .u8 0, .int .u8 0, .int .u8 0, .int .u8 0, .int .u8 0, .int .u8 0, .int .u8 0, .int .u8 0, .int .u8 0, .int .u8 0, .int .u8 0, .int .u8 0, .int .u8 0] 24) = w1 at HP HX HZ HB ⊢
  obtain ⟨P, hP⟩ : ∃ P, P = w.heap.size := ⟨_, rfl⟩
  obtain ⟨X, hX⟩ : ∃ X, X = w.heap.size + 1 := ⟨_, rfl⟩
  obtain ⟨Z, hZ⟩ : ∃ Z, Z = w.heap.size + 2 := ⟨_, rfl⟩
  have HZE := Lib.hid (show w.heap.size ≤ Z by omega)
  rw [← hX] at HX ⊢
  rw [← hZ] at HZ ⊢
  rw [← hP] at HP ⊢
  clear hP hX hZ
  have HXA := Lib.hid HX.out.rootAll
  have kp := HP.out.cell 0
  simp only [List.getElem?_cons_zero] at kp
  go_wp2_with ((with_reducible refine wpList_load_name (.tmp 3) ?_ ?_ X 0 r ?_ hr HXA.out ?_); rfl; rfl; rfl)
  refine (told_nil w1 r (-1) _).mono ?_
  rintro e w2 ⟨rfl, hb2⟩
  have HB2 := Lib.hid (HB.out.trans (hb2.mono HB.out.size))
  have HZ2 := Lib.hid (HZ.out.below hb2 HZ.out.lt)
  have HZL := Lib.hid zlen
  clear hb2 HP HX HZ HB HXA kp
  have HZF := Lib.hid (HZ2.out.setRow (bv zero32))
  have HBF := Lib.hid (below_row HB2.out HZE.out (bv zero32).toArray)
  go_wp2_with ((with_reducible refine wpList_store_name (.tmp 4) (.tmp 13) ?_ ?_ Z zero32 zero32 ?_ ?_ HZ2.out HZL.out HZL.out ?_); rfl; rfl; rfl; rfl)
  refine ret_name2 rfl rfl HZF.out HZL.out rfl ?_
  exact ⟨rfl, HBF.out⟩

set_option maxHeartbeats 8000000 in
theorem head_any (w : World) (G : List Nat) (tb : Nat) (t : List Nd) (most : Int) (F : List Nat) (b : Nat) (own : List Int) (hT : Tre w G tb t most) (h : WgtG w F b tb t own) :
    Calls Try.prog 17 #[.pointer (some ⟨b, 0, none⟩)] w fun e w' => e = .returned (.agg (bv (pnm t (hdW t own : Int))).toArray) ∧ Below w.heap.size w w' := by
  have hb1 : Below w.heap.size w (w.alloc (.cells #[.int .u8 0, .int .u8 0, .int .u8 0, .int .u8 0, .int .u8 0, .int .u8 0, .int .u8 0, .int .u8 0, .int .u8 0, .int .u8 0, .int .u8 0, .int .u8 0, .int .u8 0, .int .u8 0, .int .u8 0, .int .u8 0, .int .u8 0, .int .u8 0, .int .u8 0, .int .u8 0, .int .u8 0, .int .u8 0, .int .u8 0, .int .u8 0, .int .u8 0, .int .u8 0, .int .u8 0, .int .u8 0, .int .u8 0, .int .u8 0, .int .u8 0, .int .u8 0] 24)) := (Below.refl _ w).alloc (Nat.le_refl _) _
  have HZ := Lib.hid (blk_zlit w)
  have HGD := Lib.hid hT.1
  have HLE := Lib.hid h.2.1
  have HPO := Lib.hid h.2.2.1
  have HT := Lib.hid (hT.below hb1)
  have HW := Lib.hid (h.2.2.2.below hb1)
  have HB := Lib.hid hb1
  clear hT h hb1
  go_enter Try.func17, Try.ntmps17
  go_upto_region 1 with fail
  generalize w.alloc (.cells #[.int .u8 0, .int .u8 0, .int .u8 0, .int .u8 0, .int .u8 0, .int .u8 0, .int .u8 0, .int .u8 0, .int .u8 0, .int .u8 0, .int .u8 0, .int .u8 0, .int .u8 0, .int .u8 0, .int .u8 0, .int .u8 0, .int .u8 0, .int .u8 0, .int .u8 0, .int .u8 0, .int .u8 0, .int .u8 0, .int .u8 0, .int .u8 0, .int .u8 0, .int .u8 0, .int .u8 0, .int .u8 0, .int .u8 0, .int .u8 0, .int .u8 0, .int .u8 0] 24) = w1 at HZ HT HW HB ⊢
  obtain ⟨Z, hZ⟩ : ∃ Z, Z = w.heap.size := ⟨_, rfl⟩
  have HZE := Lib.hid (show w.heap.size ≤ Z by omega)
  rw [← hZ] at HZ ⊢
  clear hZ
  go_wp2_with fail
  go_loopw [3] (fun i wr => ∃ k : Nat, k < own.length ∧ i = .int .i64 k ∧ Hid (hdF t own k = hdW t own) ∧ wr = w1) (fun i _ => own.length - (intOf i).toNat)
  case atStart => exact ⟨0, HPO.out, rfl, Lib.hid rfl, rfl⟩
  case round =>
    obtain ⟨k, hk, rfl, HK, hwr⟩ := hrel
    subst hwr
    obtain ⟨a1, a2, a3, c1, c2, c3, g1, g2, g3, o1, o2, o3, hs⟩ := HW.out.open
    obtain ⟨ha, e1⟩ := lies_z hs.l3 (bssL_at (t := t) hk)
    subst ha
    have k3 := hs.cell3
    have d3 : (0 : Int) ≤ (k : Int) := by omega
    have d4 : (k : Int) < ((bssL t own).length : Int) := by rw [bssL_length]; omega
    have d5 : k < (bssL t own).length := by rw [bssL_length]; omega
    clear hs
    rcases HGD.out.bsW_place HLE.out k with ⟨hb, _⟩ | ⟨q, hb, hkq, hq, _⟩
    · rw [hb] at e1
      have HE := Lib.hid (show hdW t own = k by rw [← HK.out, HGD.out.hdF_end (by omega)])
      clear hb
      have HZL := Lib.hid zlen
      go_wp2_with fail
      refine (wname_any wr G tb t most F b k own (wtsL t own) (bssL t own) HT.out HW.out (by have := HLE.out; omega)).mono ?_
      rintro e w3 ⟨rfl, hb3⟩
      have HZ3 := Lib.hid (HZ.out.below hb3 HZ.out.lt)
      have HB3 := Lib.hid (HB.out.trans (hb3.mono HB.out.size))
      have HNL := Lib.hid (HGD.out.pnm_len (k : Int))
      have HZF := Lib.hid (HZ3.out.setRow (bv (pnm t (k : Int))))
      have HBF := Lib.hid (below_row HB3.out HZE.out (bv (pnm t (k : Int))).toArray)
      clear hb3
      go_wp2_with ((with_reducible refine wpList_store_name (.tmp 2) (.tmp 24) ?_ ?_ Z zero32 (pnm t (k : Int)) ?_ ?_ HZ3.out HZL.out HNL.out ?_); rfl; rfl; rfl; rfl)
      refine ret_name rfl rfl HZF.out HNL.out rfl ?_
      exact ⟨by rw [HE.out], HBF.out⟩
    · rw [hb] at e1
      have HE := Lib.hid (show hdF t own q = hdW t own by rw [← HK.out, HGD.out.hdF_next HLE.out hb])
      have d6 : ¬ ((q : Int) = -1) := by omega
      have d7 : ((q : Int) == -1) = false := by simp [d6]
      clear hb
      go_wp2_with fail
      go_roundw
      case rel => exact ⟨q, hq, rfl, HE, by first | rfl | trivial⟩
      case measure => simp only [intOf]; omega
theorem head_nil (w : World) : Calls Try.prog 17 #[.pointer none] w fun e w' => e = .returned (.agg (bv zero32).toArray) ∧ Below w.heap.size w w' := by
  have HZ := Lib.hid (blk_zlit w)
  have HZL := Lib.hid zlen
  have HZF := Lib.hid (HZ.out.setRow (bv zero32))
  have HBF := Lib.hid (below_row ((Below.refl _ w).alloc (Nat.le_refl _) (.cells #[.int .u8 0, .int .u8 0, .int .u8 0, .int .u8 0, .int .u8 0, .int .u8 0, .int .u8 0, .int .u8 0, .int .u8 0, .int .u8 0, .int .u8 0, .int .u8 0, .int .u8 0, .int .u8 0, .int .u8 0, .int .u8 0, .int .u8 0, .int .u8 0, .int .u8 0, .int .u8 0, .int .u8 0, .int .u8 0, .int .u8 0, .int .u8 0, .int .u8 0, .int .u8 0, .int .u8 0, .int .u8 0, .int .u8 0, .int .u8 0, .int .u8 0, .int .u8 0] 24)) (Nat.le_refl _) (bv zero32).toArray)
  go_enter Try.func17, Try.ntmps17
  go_wp2_with ((with_reducible refine wpList_store_name (.tmp 2) (.tmp 6) ?_ ?_ w.heap.size zero32 zero32 ?_ ?_ HZ.out HZL.out HZL.out ?_); rfl; rfl; rfl; rfl)
  refine ret_name rfl rfl HZF.out HZL.out rfl ?_
  exact ⟨rfl, HBF.out⟩
end Go.Proofs.Ytjodhagjfjgbcaa

/-
  What a tree's names and places say of what is asked: children, what is below: plain.
-/
namespace Go.Proofs.Ytjodhagjfjgbcaa
open Go Go.RowKit
set_option maxRecDepth 10000

theorem tellZ_at {t : List Nd} {most : Int} (G : Good t most) {k N : Nat} {n : Nd} (h : t[k]? = some n) (hN : k < N) (dn : Int) (z : Nat → Int) : tellZ t N n.1 dn z = z k := by
  unfold tellZ
  rw [G.plc_at h, if_pos (by omega), Int.toNat_natCast]
theorem Good.kids_in {t : List Nd} {most : Int} (G : Good t most) {k : Nat} {n : Nd} (h : t[k]? = some n) {c : List UInt8} (hc : c ∈ kidsT t n.1) : ∃ (i : Nat) (x : Nd), t[i]? = some x ∧ x.1 = c ∧ parW t i = (k : Int) := by
  unfold kidsT at hc
  rw [G.plc_at h, if_pos (by omega), rs] at hc
  obtain ⟨x, hx, rfl⟩ := List.mem_map.1 hc
  obtain ⟨hx, hp⟩ := List.mem_filter.1 hx
  obtain ⟨i, hi, he⟩ := List.getElem_of_mem hx
  have hi' : t[i]? = some x := by rw [List.getElem?_eq_getElem hi, he]
  exact ⟨i, x, hi', rfl, by rw [parW_at hi']; simpa using hp⟩

theorem kids_le (t : List Nd) (r : List UInt8) : (kidsT t r).length ≤ t.length := by
  unfold kidsT
  split
  · rw [rs_length]
    exact List.length_filter_le _ _
  · exact Nat.zero_le _

theorem pnm_at {t : List Nd} {i : Nat} {x : Nd} (h : t[i]? = some x) : pnm t (i : Int) = x.1 := by
  unfold pnm nodeAt
  simp [h]
theorem Good.kids_has {t : List Nd} {most : Int} (G : Good t most) {k i : Nat} {n x : Nd} (h : t[k]? = some n) (hx : t[i]? = some x) (hp : parW t i = (k : Int)) : x.1 ∈ kidsT t n.1 := by
  unfold kidsT
  rw [G.plc_at h, if_pos (by omega), rs]
  refine List.mem_map.2 ⟨x, List.mem_filter.2 ⟨List.mem_of_getElem? hx, ?_⟩, rfl⟩
  rw [parW_at hx] at hp
  simpa using hp
theorem Good.best_iff {t : List Nd} {most : Int} (G : Good t most) {own : List Int} (hl : own.length = t.length) {k : Nat} {n : Nd} (h : t[k]? = some n) : decide (0 ≤ bsW t own k) = decide (0 < (kidsT t n.1).length) := by
  rcases G.bsW_place (Nat.le_of_eq hl) k with ⟨hb, hn⟩ | ⟨q, hb, _, hq, hp⟩
  · have he : kidsT t n.1 = [] := by
      refine List.eq_nil_iff_forall_not_mem.2 fun c hc => ?_
      obtain ⟨i, x, hx, _, hp⟩ := G.kids_in h hc
      exact hn i (by rw [hl]; exact (List.getElem?_eq_some_iff.1 hx).1) hp
    rw [hb, he]
    rfl
  · obtain ⟨x, hx⟩ : ∃ x, t[q]? = some x := ⟨_, List.getElem?_eq_getElem (by omega)⟩
    have hm := G.kids_has h hx hp
    have h1 : 0 < (kidsT t n.1).length := List.length_pos_of_mem hm
    rw [hb, decide_eq_true h1]
    exact decide_eq_true (by omega)
theorem Good.chn_any {t : List Nd} {most : Int} (G : Good t most) {i : Nat} {n : Nd} (hi : t[i]? = some n) : ∀ (N j : Nat), j < N → j < t.length → ((chn t (j : Int)).any fun m => m.1 == n.1) = abW t i j
  | 0, j, h, _ => by omega
  | N + 1, j, h, hl => by
    obtain ⟨x, hx⟩ : ∃ x, t[j]? = some x := ⟨_, List.getElem?_eq_getElem hl⟩
    rw [G.chn_some hx, List.any_cons, G.abW_eq]
    have he : (x.1 == n.1) = (i == j) := by
      by_cases hij : i = j
      · subst hij
        rw [hi] at hx
        cases hx
        rw [beq_self_eq_true, beq_self_eq_true]
      · have hne : x.1 ≠ n.1 := fun e => hij (by
          have h1 := G.plc_at hi
          have h2 := G.plc_at hx
          rw [e] at h2
          omega)
        rw [beq_eq_false_iff_ne.2 hne, beq_eq_false_iff_ne.2 hij]
    rw [he, parW_at hx]
    congr 1
    have hp := G.parent_lt hx
    by_cases h0 : 0 ≤ x.2.2
    · rw [if_pos h0]
      obtain ⟨p, hpe⟩ : ∃ p : Nat, x.2.2 = (p : Int) := ⟨x.2.2.toNat, by omega⟩
      rw [hpe, Int.toNat_natCast]
      rw [hpe] at hp
      exact Good.chn_any G hi N p (by omega) (by omega)
    · rw [if_neg h0, chn_neg (by omega)]
      rfl
theorem Good.below_ab {t : List Nd} {most : Int} (G : Good t most) {i j : Nat} {n x : Nd} (hi : t[i]? = some n) (hj : t[j]? = some x) : belowT t n.1 x.1 = abW t i j := by
  unfold belowT
  rw [G.plc_at hj]
  exact G.chn_any hi (j + 1) j (by omega) (List.getElem?_eq_some_iff.1 hj).1
end Go.Proofs.Ytjodhagjfjgbcaa

/-
  The document's weights are asked: a place, an own weight, the children, what a block weighs.
-/
namespace Go.Proofs.Ytjodhagjfjgbcaa
open Go Go.RowKit
set_option maxRecDepth 10000

theorem src_z {P : Program} (w : World) (t : TypeId) (ht : P.underlying t = some (.slice 3)) (x : Int) : Src P 1 t (.slice (some ⟨w.heap.size, 0, none⟩) 1 1) 1 (zv [x]) (w.alloc (.cells #[.int .i64 x] 3)) := by
  refine Src.ofSlice _ ht _ 1 1 _ rfl ?_ (fun v hv => by simp [zv] at hv; subst hv; rfl)
  intro i y hi
  match i, hi with
  | 0, hi => simp [zv] at hi; subst hi; simp [Addr.add]
/-- The document's tree, and its weights. -/
structure DW (w : World) (M : List Nat) (mb : Nat) (t : List Nd) (R : List Nat) (rb : Nat) (own : List Int) (most : Int) : Prop where
  ref : Ref w M mb t most
  rw : RWk w R rb mb own own.length
  ol : own.length ≤ t.length
  og : OwnG own
theorem DW.below {w w' : World} {M R : List Nat} {mb rb : Nat} {t : List Nd} {own : List Int} {most : Int} (h : DW w M mb t R rb own most) (hb : Below w.heap.size w w') : DW w' M mb t R rb own most := ⟨h.ref.below hb, h.rw.below hb, h.ol, h.og⟩
def rplZ (t : List Nd) (N : Nat) (r : List UInt8) : Int := if plc t r < (N : Int) then plc t r else -1
theorem rplZ_cases (t : List Nd) (N : Nat) (r : List UInt8) : (rplZ t N r = -1 ∧ ¬ (0 ≤ plc t r ∧ plc t r < (N : Int))) ∨ ∃ k : Nat, rplZ t N r = (k : Int) ∧ k < N ∧ plc t r = (k : Int) := by
  unfold rplZ
  rcases plc_cases t r with ⟨i, m, _, _, h, _⟩ | ⟨_, h⟩
  · rw [h]
    by_cases h1 : (i : Int) < (N : Int)
    · rw [if_pos h1]; exact .inr ⟨i, rfl, by omega, rfl⟩
    · rw [if_neg h1]; exact .inl ⟨rfl, fun x => h1 x.2⟩
  · rw [h]
    split
    · exact .inl ⟨rfl, fun x => by omega⟩
    · exact .inl ⟨rfl, fun x => by omega⟩
theorem tellZ_none {t : List Nd} {N : Nat} {r : List UInt8} (h : ¬ (0 ≤ plc t r ∧ plc t r < (N : Int))) (dn : Int) (z : Nat → Int) : tellZ t N r dn z = dn := if_neg h
theorem tellZ_is {t : List Nd} {N k : Nat} {r : List UInt8} (h : plc t r = (k : Int)) (hk : k < N) (dn : Int) (z : Nat → Int) : tellZ t N r dn z = z k := by
  unfold tellZ
  rw [h, if_pos (by omega), Int.toNat_natCast]

set_option maxHeartbeats 8000000 in
theorem rplace_any (w : World) (M : List Nat) (mb : Nat) (t : List Nd) (R : List Nat) (rb : Nat) (own : List Int) (most : Int) (r : List UInt8) (h : DW w M mb t R rb own most) (hr : r.length = 32) :
    Calls Try.prog 45 #[.pointer (some ⟨rb, 0, none⟩), .agg (bv r).toArray] w fun e w' => e = .returned (.int .i64 (rplZ t own.length r)) ∧ Below w.heap.size w w' := by
  have hb1 : Below w.heap.size w (w.alloc (.cells (bv r).toArray 24)) := (Below.refl _ w).alloc (Nat.le_refl _) _
  have HB := Lib.hid hb1
  have HX := Lib.hid (Blk.new w 24 (bv r).toArray)
  have HD := Lib.hid (h.below hb1)
  obtain ⟨X, hX⟩ : ∃ X, X = w.heap.size := ⟨_, rfl⟩
  clear hb1 h
  go_enter Try.func45, Try.ntmps45
  go_upto_region 1 with fail
  rw [← hX] at HX ⊢
  generalize w.alloc (.cells (bv r).toArray 24) = w1 at HB HX HD ⊢
  clear hX
  obtain ⟨a1, c1, g1, o1, hs⟩ := HD.out.rw.open
  have HS := Lib.hid hs
  clear hs
  refine wp_region_free (P := Try.prog) 7 (fun w' => Below w1.heap.size w1 w') (fun oq v w' => match oq with
      | 0 => v = .pointer (some ⟨rb, 0, none⟩)
      | 1 => v = .pointer (some ⟨rb, 0, none⟩)
      | 2 => v = .pointer (some ⟨rb, 0, none⟩)
      | 3 => v = .pointer (some ⟨mb, 0, none⟩)
      | 4 => v = .agg (bv r).toArray
      | 5 => v = .int .i64 (plc t r)
      | 6 => v = .int .i64 (plc t r)
      | _ => True) (by kernel_rfl) (by kernel_rfl) (Below.refl _ _).drew ?gb ?vb ?steps ?fin
  case gb => exact fun a b h1 h2 => h1.trans (h2.mono h1.size)
  case vb =>
    intro oq v a b h hb
    match oq with
    | 0 => exact h
    | 1 => exact h
    | 2 => exact h
    | 3 => exact h
    | 4 => exact h
    | 5 => exact h
    | 6 => exact h
    | _ + 7 => trivial
  case steps =>
    intro vals
    simp only [List.take_succ_cons, List.take_zero, freeSteps, Act.put, List.setIfInBounds_toArray, List.set_cons_zero, List.set_cons_succ, Nat.reduceAdd]
    refine ⟨fun w8 hG hW => ?_, fun w8 hG hW => ?_, fun w8 hG hW => ?_, fun w8 hG hW => ?_, fun w8 hG hW => ?_, fun w8 hG hW => ?_, fun w8 hG hW => ?_, trivial⟩
    · clear hW
      refine stepAt_value rfl rfl rfl (.pointer (some ⟨rb, 0, none⟩)) w8 ?_ ⟨rfl, Below.refl _ _⟩
      go_simp
    · have q0 := hW 0 (by decide)
      simp only at q0
      rw [q0]
      clear hW
      refine stepAt_value rfl rfl rfl (.pointer (some ⟨rb, 0, none⟩)) w8 ?_ ⟨rfl, Below.refl _ _⟩
      go_simp
    · have q1 := hW 1 (by decide)
      simp only at q1
      rw [q1]
      clear hW
      refine stepAt_value rfl rfl rfl (.pointer (some ⟨rb, 0, none⟩)) w8 ?_ ⟨rfl, Below.refl _ _⟩
      go_simp
    · have q2 := hW 2 (by decide)
      simp only at q2
      rw [q2]
      clear hW
      refine stepAt_value rfl rfl rfl (.pointer (some ⟨mb, 0, none⟩)) w8 ?_ ⟨rfl, Below.refl _ _⟩
      have hh := (HS.out.below hG).cell0
      go_simp
    · clear hW
      exact stepAt_load_run rfl rfl rfl _ _ rfl _ _ rfl (run_load_root hr (HX.out.below hG HX.out.lt).rootAll) ⟨rfl, Below.refl _ _⟩
    · have q3 := hW 3 (by decide)
      simp only at q3
      have q4 := hW 4 (by decide)
      simp only at q4
      rw [q3, q4]
      clear hW
      refine stepAt_call rfl rfl rfl 32 #[.pointer (some ⟨mb, 0, none⟩), .agg (bv r).toArray] (by go_simp) ((refplace_any w8 M mb t most r (HD.out.below hG).ref hr).mono fun e w' ⟨h1, h2⟩ => ⟨_, h1, rfl, h2⟩)
    · have q5 := hW 5 (by decide)
      simp only at q5
      rw [q5]
      clear hW
      refine stepAt_value rfl rfl rfl (.int .i64 (plc t r)) w8 ?_ ⟨rfl, Below.refl _ _⟩
      go_simp
  case fin =>
    intro vals w9 hG hV
    have q6 := hV 6 (by omega)
    simp only at q6
    simp only [List.take_succ_cons, List.take_zero, List.drop_succ_cons, List.drop_zero, putAll, Act.put, List.setIfInBounds_toArray, List.set_cons_zero, List.set_cons_succ, Nat.reduceAdd]
    rw [q6]
    clear hV q6
    generalize vals 0 = y0
    generalize vals 1 = y1
    generalize vals 2 = y2
    generalize vals 3 = y3
    generalize vals 4 = y4
    generalize vals 5 = y5
    have k2 := (HS.out.below hG).cell2
    replace HB := Lib.hid (HB.out.trans (hG.mono HB.out.size))
    clear hG
    by_cases hp : (own.length : Int) ≤ plc t r
    · have HV := Lib.hid (show rplZ t own.length r = -1 from if_neg (by omega))
      generalize plc t r = p at hp ⊢
      go_wp2_with fail
      go_ret
      exact ⟨by rw [HV.out]; rfl, HB.out⟩
    · have HV := Lib.hid (show rplZ t own.length r = plc t r from if_pos (by omega))
      generalize plc t r = p at hp HV ⊢
      go_wp2_with fail
      go_ret
      exact ⟨by rw [HV.out]; rfl, HB.out⟩

set_option maxHeartbeats 8000000 in
theorem rown_any (w : World) (M : List Nat) (mb : Nat) (t : List Nd) (R : List Nat) (rb : Nat) (own : List Int) (most : Int) (r : List UInt8) (h : DW w M mb t R rb own most) (hr : r.length = 32) :
    Calls Try.prog 22 #[.pointer (some ⟨rb, 0, none⟩), .agg (bv r).toArray] w fun e w' => e = .returned (.int .i64 (tellZ t own.length r 0 (owZ own))) ∧ Below w.heap.size w w' := by
  have hb1 : Below w.heap.size w (w.alloc (.cells (bv r).toArray 24)) := (Below.refl _ w).alloc (Nat.le_refl _) _
  have HB := Lib.hid hb1
  have HX := Lib.hid (Blk.new w 24 (bv r).toArray)
  have HD := Lib.hid (h.below hb1)
  obtain ⟨X, hX⟩ : ∃ X, X = w.heap.size := ⟨_, rfl⟩
  clear hb1 h
  go_enter Try.func22, Try.ntmps22
  go_upto_region 1 with fail
  rw [← hX] at HX ⊢
  generalize w.alloc (.cells (bv r).toArray 24) = w1 at HB HX HD ⊢
  clear hX
  go_wp2_with ((with_reducible refine wpList_load_name (.tmp 3) ?_ ?_ X 0 r ?_ hr HX.out.rootAll ?_); rfl; rfl; rfl)
  refine (rplace_any w1 M mb t R rb own most r HD.out hr).mono ?_
  rintro e w2 ⟨rfl, hbc⟩
  replace HD := Lib.hid (HD.out.below hbc)
  replace HB := Lib.hid (HB.out.trans (hbc.mono HB.out.size))
  clear hbc HX
  rcases rplZ_cases t own.length r with ⟨hp, hn⟩ | ⟨k, hp, hk, hq⟩
  · rw [hp]
    have HV := Lib.hid (tellZ_none hn 0 (owZ own))
    clear hp hn
    go_wp2_with fail
    go_ret
    exact ⟨by rw [HV.out]; rfl, HB.out⟩
  · rw [hp]
    have HV := Lib.hid (tellZ_is hq hk 0 (owZ own))
    obtain ⟨a1, c1, g1, o1, hs⟩ := HD.out.rw.open
    obtain ⟨ha, hc⟩ := lies_z hs.l1 (show own[k]? = some (owZ own k) by rw [owZ_at (List.getElem?_eq_getElem hk)]; exact List.getElem?_eq_getElem hk)
    subst ha
    have k1 := hs.cell1
    have d1 : (0 : Int) ≤ (k : Int) := by omega
    have d2 : (k : Int) < (own.length : Int) := by omega
    generalize owZ own k = y at hc HV
    clear hp hq hs
    go_wp2_with fail
    go_ret
    exact ⟨by rw [HV.out]; rfl, HB.out⟩

/-- The places of a block's children, below n. -/
def kdN (t : List Nd) (i : Nat) : Nat → List Int
  | 0 => []
  | n + 1 => if parW t n = (i : Int) then kdN t i n ++ [(n : Int)] else kdN t i n
theorem Good.kdN_start {t : List Nd} {most : Int} (G : Good t most) (i : Nat) : ∀ n : Nat, n ≤ i + 1 → kdN t i n = []
  | 0, _ => rfl
  | n + 1, h => by
    have hp := G.parW_lt n
    rw [kdN, if_neg (by omega), Good.kdN_start G i n (by omega)]
theorem kdN_len (t : List Nd) (i : Nat) : ∀ n : Nat, (kdN t i n).length ≤ n
  | 0 => Nat.le_refl _
  | n + 1 => by
    have := kdN_len t i n
    rw [kdN]
    split
    · rw [List.length_append, List.length_singleton]; omega
    · omega
theorem kdN_in (t : List Nd) (i : Nat) : ∀ (n : Nat) (x : Int), x ∈ kdN t i n → ∃ k : Nat, x = (k : Int) ∧ k < n ∧ parW t k = (i : Int)
  | 0, x, h => by cases h
  | n + 1, x, h => by
    rw [kdN] at h
    split at h
    · rename_i hp
      rcases List.mem_append.1 h with h | h
      · obtain ⟨k, h1, h2, h3⟩ := kdN_in t i n x h
        exact ⟨k, h1, by omega, h3⟩
      · simp at h
        exact ⟨n, h, by omega, hp⟩
    · obtain ⟨k, h1, h2, h3⟩ := kdN_in t i n x h
      exact ⟨k, h1, by omega, h3⟩
def lsZ (f : Nat → Int) : List Int → Int
  | [] => 0
  | x :: l => f x.toNat + lsZ f l
theorem lsZ_append (f : Nat → Int) : ∀ (a b : List Int), lsZ f (a ++ b) = lsZ f a + lsZ f b
  | [], b => by simp [lsZ]
  | x :: a, b => by rw [List.cons_append, lsZ, lsZ, lsZ_append f a b]; omega
theorem lsZ_nonneg {f : Nat → Int} (hf : ∀ k, 0 ≤ f k) : ∀ l : List Int, 0 ≤ lsZ f l
  | [] => Int.le_refl _
  | x :: l => by have := lsZ_nonneg hf l; have := hf x.toNat; rw [lsZ]; omega
theorem lsZ_next {f : Nat → Int} {l : List Int} {j : Nat} {x : Int} (h : l[j]? = some x) : lsZ f (l.take (j + 1)) = lsZ f (l.take j) + f x.toNat := by
  rw [List.take_add_one, h, Option.toList_some, lsZ_append, lsZ, lsZ]; omega
theorem lsZ_take {f : Nat → Int} (hf : ∀ k, 0 ≤ f k) (l : List Int) (j : Nat) : lsZ f (l.take j) ≤ lsZ f l := by
  have h1 := lsZ_append f (l.take j) (l.drop j)
  rw [List.take_append_drop] at h1
  have := lsZ_nonneg hf (l.drop j)
  omega
theorem kdN_sum (t : List Nd) (f : Nat → Int) (i : Nat) : ∀ n : Nat, lsZ f (kdN t i n) = smZ (fun k => if parW t k = (i : Int) then f k else 0) n
  | 0 => rfl
  | n + 1 => by
    have ih := kdN_sum t f i n
    rw [kdN, smZ]
    split
    · rw [lsZ_append, lsZ, lsZ, ih, Int.toNat_natCast]; omega
    · rw [ih]; omega
theorem Good.wtW_kids {t : List Nd} {most : Int} (G : Good t most) (own : List Int) (i : Nat) : wtW t own i = owZ own i + lsZ (wtW t own) (kdN t i own.length) := by
  rw [kdN_sum]
  exact G.wtW_eq own i
def bfZ (t : List Nd) (own : List Int) (l : List Int) : Int := l.foldl (fun b x => nxW t own x.toNat b) (-1)
theorem bfZ_next {t : List Nd} {own : List Int} {l : List Int} {j : Nat} {x : Int} (h : l[j]? = some x) : bfZ t own (l.take (j + 1)) = nxW t own x.toNat (bfZ t own (l.take j)) := by
  unfold bfZ
  rw [List.take_add_one, h, Option.toList_some, List.foldl_append]
  rfl
theorem kdN_best (t : List Nd) (own : List Int) (i : Nat) : ∀ n : Nat, bfZ t own (kdN t i n) = bsN t own i n
  | 0 => rfl
  | n + 1 => by
    have ih := kdN_best t own i n
    rw [kdN, bsN]
    split
    · unfold bfZ at ih ⊢
      rw [List.foldl_append, ih, List.foldl_cons, List.foldl_nil, Int.toNat_natCast]
    · exact ih
theorem bfZ_place (t : List Nd) (own : List Int) {N : Nat} : ∀ (l : List Int), (∀ x ∈ l, ∃ k : Nat, x = (k : Int) ∧ k < N) → bfZ t own l = -1 ∨ ∃ q : Nat, bfZ t own l = (q : Int) ∧ q < N := by
  intro l
  have go : ∀ (l : List Int) (b : Int), (b = -1 ∨ ∃ q : Nat, b = (q : Int) ∧ q < N) → (∀ x ∈ l, ∃ k : Nat, x = (k : Int) ∧ k < N) → (l.foldl (fun b x => nxW t own x.toNat b) b = -1 ∨ ∃ q : Nat, l.foldl (fun b x => nxW t own x.toNat b) b = (q : Int) ∧ q < N) := by
    intro l
    induction l with
    | nil => intro b hb _; exact hb
    | cons x l ih =>
      intro b hb hl
      rw [List.foldl_cons]
      refine ih _ ?_ (fun y hy => hl y (by simp [hy]))
      obtain ⟨k, rfl, hk⟩ := hl x (by simp)
      unfold nxW
      split
      · exact .inr ⟨k, by rw [Int.toNat_natCast], hk⟩
      · exact hb
  exact go l (-1) (.inl rfl)
end Go.Proofs.Ytjodhagjfjgbcaa
