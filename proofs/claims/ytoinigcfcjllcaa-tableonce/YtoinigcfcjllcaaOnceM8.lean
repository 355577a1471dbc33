/-
  The texts TabNew, RTabMem, one behind the other.
-/
import Derived.Test.YtoinigcfcjllcaaOnceM7
import Derived.Test.YtoinigcfcjllcaaOnceM6
/-
  The program's New: a table.
-/
namespace Go.Proofs.Ytoinigcfcjllcaa
open Go Go.RowKit
set_option maxRecDepth 10000

theorem made_rows {k : Nat} (zc : List Value) (hz : zc.length = k) (n : Nat) : (madeCells zc.toArray (n * k)).toList = rowsOf n (fun _ => zc) := by
  refine rowsOf_eq (fun _ => hz) (by rw [Array.length_toList, size_madeCells]) fun i j hi hj => ?_
  have h1 := idx_lt hi hj
  have h2 : (i * k + j) % k = j := by rw [Nat.mul_comm, Nat.mul_add_mod]; exact Nat.mod_eq_of_lt hj
  simp [madeCells, h1, hz, h2]
  rw [List.getElem?_eq_getElem (by omega)]
  simp
def vz : List Value := vcl vt0 ++ [.bool false, .bool false]
theorem vz_length : vz.length = 36 := by simp [vz, vcl_length vt0_len]
theorem newT_lt (n k i : Nat) : ltN (newT n k) i = vt0 := by
  unfold ltN newT
  simp only
  rw [List.getElem?_replicate]
  split <;> rfl
theorem newT_hs (n k i : Nat) : hsN (newT n k) i = false := by
  unfold hsN newT
  simp only
  rw [List.getElem?_replicate]
  split <;> rfl
theorem newT_ot (n k i : Nat) : otN (newT n k) i = false := newT_hs n k i
theorem newT_row (n k : Nat) : vrow (newT n k) = fun _ => vz := by
  funext i
  unfold vrow
  rw [newT_lt, newT_hs, newT_ot]
  rfl
theorem Try.infoVoter : (Try.prog.info? 62).map (fun i => (i.zero, i.size, i.bytes)) = some (some (.agg vz.toArray), 36, 56) := by kernel_rfl
theorem vz_cells : (Value.agg vz.toArray).cells = vz.toArray := rfl
/-- The three blocks that New makes. -/
theorem made_table (w : World) (n k : Nat) (h1 : 1 ≤ n) (h2 : n ≤ 64) (h3 : 1 ≤ k) (h4 : k ≤ 32) :
    TP (((w.alloc (.cells (madeCells (Value.agg vz.toArray).cells (n * 36)) 62)).alloc (.map #[] 0)).alloc (.cells #[.int .i64 (k : Int), .slice (some ⟨w.heap.size, 0, none⟩) n n, .map (some (w.heap.size + 1))] 57)) (w.heap.size + 2) (w.heap.size + 1) w.heap.size (newT n k) := by
  have a1 := Blk.new w 62 (madeCells (Value.agg vz.toArray).cells (n * 36))
  rw [vz_cells, made_rows vz vz_length n, ← newT_row n k] at a1
  have a2 := World.ownsMap_made (w.alloc (.cells (madeCells (Value.agg vz.toArray).cells (n * 36)) 62)) Try.prog 59 rootE
  have a3 := Blk.new ((w.alloc (.cells (madeCells (Value.agg vz.toArray).cells (n * 36)) 62)).alloc (.map #[] 0)) 57 #[.int .i64 (k : Int), .slice (some ⟨w.heap.size, 0, none⟩) n n, .map (some (w.heap.size + 1))]
  rw [show (w.alloc (.cells (madeCells (Value.agg vz.toArray).cells (n * 36)) 62)).heap.size = w.heap.size + 1 by simp] at a2
  rw [show ((w.alloc (.cells (madeCells (Value.agg vz.toArray).cells (n * 36)) 62)).alloc (.map #[] 0)).heap.size = w.heap.size + 2 by simp] at a3
  refine ⟨.new h1 h2 h3 h4, a3, (a1.alloc _).alloc _, ⟨.map [], (a2.alloc _), saysF_none⟩, by omega⟩
set_option maxHeartbeats 4000000 in
theorem new_any (w : World) (n k : Int) : Calls Try.prog 16 #[.int .i64 n, .int .i64 k] w fun e w' =>
    (¬ (1 ≤ n ∧ n ≤ 64 ∧ 1 ≤ k ∧ k ≤ 32) ∧ e = .returned (.pointer none) ∧ w' = w) ∨
    (1 ≤ n ∧ n ≤ 64 ∧ 1 ≤ k ∧ k ≤ 32 ∧ ∃ b m g, e = .returned (.pointer (some ⟨b, 0, none⟩)) ∧ TP w' b m g (newT n.toNat k.toNat) ∧ High w.heap.size [b, m, g] ∧ Below w.heap.size w w') := by
  have HC1 := Lib.hid (fun W => within_any W n 1 64)
  have HC2 := Lib.hid (fun W => within_any W k 1 32)
  by_cases h1 : 1 ≤ n ∧ n ≤ 64
  · rw [decide_eq_true h1] at HC1
    by_cases h2 : 1 ≤ k ∧ k ≤ 32
    · rw [decide_eq_true h2] at HC2
      obtain ⟨N, rfl⟩ : ∃ N : Nat, n = (N : Int) := ⟨n.toNat, by omega⟩
      obtain ⟨K, rfl⟩ : ∃ K : Nat, k = (K : Int) := ⟨k.toNat, by omega⟩
      obtain ⟨i0, hi0, hz0, hz1, hz2⟩ := info_parts Try.infoVoter
      have HTP := Lib.hid (made_table w N K (by omega) (by omega) (by omega) (by omega))
      have hmk := fun W => run_makeSlice (P := Try.prog) W 54 62 i0 (.agg vz.toArray) Try.underlying54 hi0 hz0 .i64 .i64 (N : Int) (N : Int) (by omega) (by omega) (by rw [hz1]; simp; omega) (by rw [hz2]; omega) (by omega)
      simp only [hz1, Int.toNat_natCast] at hmk
      have hmm := @run_makeMap Try.prog
      have HB := Lib.hid (show Below w.heap.size w (((w.alloc (.cells (madeCells (Value.agg vz.toArray).cells (N * 36)) 62)).alloc (.map #[] 0)).alloc (.cells #[.int .i64 (K : Int), .slice (some ⟨w.heap.size, 0, none⟩) N N, .map (some (w.heap.size + 1))] 57)) from ((((Below.refl _ w).alloc (Nat.le_refl _) _).alloc (by simp) _).alloc (by simp; omega) _))
      have HN := Lib.hid h1
      have HK := Lib.hid h2
      clear h1 h2
      go_enter Try.func16, Try.ntmps16
      go_wp2_with fail
      refine (HC1.out _).mono ?_
      rintro e w ⟨rfl, rfl⟩
      go_wp2_with fail
      refine (HC2.out _).mono ?_
      rintro e w ⟨rfl, rfl⟩
      go_wp2_with fail
      go_ret
      exact .inr ⟨HN.out.1, HN.out.2, HK.out.1, HK.out.2, _, _, _, rfl, HTP.out, fun x hx => by simp at hx; omega, HB.out⟩
    · rw [decide_eq_false h2] at HC2
      have HK := Lib.hid h2
      clear h1 h2
      go_enter Try.func16, Try.ntmps16
      go_wp2_with fail
      refine (HC1.out _).mono ?_
      rintro e w ⟨rfl, rfl⟩
      go_wp2_with fail
      refine (HC2.out _).mono ?_
      rintro e w ⟨rfl, rfl⟩
      go_wp2_with fail
      go_ret
      exact .inl ⟨fun hx => HK.out ⟨hx.2.2.1, hx.2.2.2⟩, rfl, rfl⟩
  · rw [decide_eq_false h1] at HC1
    have HK := Lib.hid h1
    clear h1
    go_enter Try.func16, Try.ntmps16
    go_wp2_with fail
    refine (HC1.out _).mono ?_
    rintro e w ⟨rfl, rfl⟩
    go_wp2_with fail
    go_ret
    exact .inl ⟨fun hx => HK.out ⟨hx.1, hx.2.1⟩, rfl, rfl⟩
end Go.Proofs.Ytoinigcfcjllcaa

/-
  The document's table in memory.
-/
namespace Go.Proofs.Ytoinigcfcjllcaa
open Go Go.RowKit
set_option maxRecDepth 10000

def fvt (f : Fs) : Vt := ⟨f.w, f.e, f.g⟩
def fcl (f : Fs) : List Value := vcl (fvt f)
def frows (fs : List Fs) : List Value := fs.flatMap fcl
theorem frows_append (a b : List Fs) : frows (a ++ b) = frows a ++ frows b := by simp [frows]
theorem frows_sole (f : Fs) : frows [f] = fcl f := by simp [frows]
theorem fcl_length {f : Fs} (h : f.g.length = 32) : (fcl f).length = 34 := vcl_length h
theorem frows_length : ∀ (fs : List Fs), (∀ f ∈ fs, f.g.length = 32) → (frows fs).length = fs.length * 34
  | [], _ => rfl
  | x :: l, h => by
    have h1 := frows_length l (fun y hy => h y (List.mem_cons_of_mem _ hy))
    have h2 := fcl_length (h x List.mem_cons_self)
    rw [frows, List.flatMap_cons, List.length_append, h2, ← frows, h1, List.length_cons]
    omega
theorem frows_at : ∀ (fs : List Fs) (i j : Nat) (x : Fs), (∀ f ∈ fs, f.g.length = 32) → fs[i]? = some x → j < 34 → (frows fs)[i * 34 + j]? = (fcl x)[j]?
  | [], i, j, x, _, h, _ => by simp at h
  | y :: l, 0, j, x, hT, h, hj => by
    simp at h
    subst h
    rw [frows, List.flatMap_cons, Nat.zero_mul, Nat.zero_add, List.getElem?_append_left (by rw [fcl_length (hT y List.mem_cons_self)]; exact hj)]
  | y :: l, i + 1, j, x, hT, h, hj => by
    have hx := fcl_length (hT y List.mem_cons_self)
    rw [frows, List.flatMap_cons, List.getElem?_append_right (by rw [hx]; omega), hx, show (i + 1) * 34 + j - 34 = i * 34 + j by omega, ← frows]
    exact frows_at l i j x (fun z hz => hT z (List.mem_cons_of_mem _ hz)) (by simpa using h) hj
theorem Lies.first {w : World} {B b off : Nat} {ao : Option Addr} {fs : List Fs} (h : Lies w B ao b off (frows fs)) (hT : ∀ f ∈ fs, f.g.length = 32) {i : Nat} {x : Fs} (hi : fs[i]? = some x) : ao = some ⟨b, off, none⟩ ∧ ∀ j v, (fcl x)[j]? = some v → w.cell? ⟨b, off + i * 34 + j, none⟩ = some v := by
  have hl := (List.getElem?_eq_some_iff.1 hi).1
  refine ⟨h.addr (by rw [frows_length fs hT]; omega), fun j v hj => ?_⟩
  have hjl : j < 34 := by
    have := (List.getElem?_eq_some_iff.1 hj).1
    rwa [fcl_length (hT x (List.mem_of_getElem? hi))] at this
  rw [Nat.add_assoc]
  exact h.cells _ v ((frows_at fs i j x hT hi hjl).trans hj)
def lrow (t : Tb) (i : Nat) : List Value := vcl (ltN t i)
theorem FitT.lrow {t : Tb} (h : FitT t) (i : Nat) : (lrow t i).length = 34 := vcl_length (h.l i).1

structure RP (w : World) (F : List Nat) (b g1 g2 g3 : Nat) (v : Value) (t : Tb) : Prop where
  fit : FitT t
  blk : Blk w b 69 [.int .i64 (t.n : Int), .int .i64 (t.k : Int), v, .slice (some ⟨g1, 0, none⟩) t.n t.n, .slice (some ⟨g2, 0, none⟩) t.n t.n, .slice (some ⟨g3, 0, none⟩) t.n t.n]
  wide : Wide 34 w 0 v (frows t.fs)
  l1 : Blk w g1 29 (rowsOf t.n (lrow t))
  l2 : Blk w g2 4 (ov t.hs)
  l3 : Blk w g3 4 (ov t.ot)
  ne : b ≠ g1 ∧ b ≠ g2 ∧ b ≠ g3 ∧ g1 ≠ g2 ∧ g1 ≠ g3 ∧ g2 ≠ g3
  vne : ∀ j, v.ownBlock = some j → j ≠ b ∧ j ≠ g1 ∧ j ≠ g2 ∧ j ≠ g3
  inF : b ∈ F ∧ g1 ∈ F ∧ g2 ∈ F ∧ g3 ∈ F
  inv : ∀ j, v.ownBlock = some j → j ∈ F
  low : Low w F
section
variable {w w' : World} {F G : List Nat} {b g1 g2 g3 k : Nat} {v v' : Value} {t : Tb} {vo : Vt}
theorem RP.keep (h : RP w F b g1 g2 g3 v t) (hk : Kept G w w') (hF : Away F G) : RP w' F b g1 g2 g3 v t :=
  ⟨h.fit, h.blk.kept hk (hF b h.inF.1), h.wide.kept hk (fun j hj => hF j (h.inv j hj)), h.l1.kept hk (hF g1 h.inF.2.1), h.l2.kept hk (hF g2 h.inF.2.2.1), h.l3.kept hk (hF g3 h.inF.2.2.2), h.ne, h.vne, h.inF, h.inv, h.low.keep hk.size⟩
theorem RP.below (h : RP w F b g1 g2 g3 v t) (hb : Below w.heap.size w w') : RP w' F b g1 g2 g3 v t := h.keep (Kept.of_below [] hb) (fun _ _ hx => by cases hx)
theorem RP.cell0 (h : RP w F b g1 g2 g3 v t) : w.cell? ⟨b, 0, none⟩ = some (.int .i64 (t.n : Int)) := h.blk.cell 0
theorem RP.cell1 (h : RP w F b g1 g2 g3 v t) : w.cell? ⟨b, 1, none⟩ = some (.int .i64 (t.k : Int)) := h.blk.cell 1
theorem RP.cell2 (h : RP w F b g1 g2 g3 v t) : w.cell? ⟨b, 2, none⟩ = some v := h.blk.cell 2
theorem RP.cell3 (h : RP w F b g1 g2 g3 v t) : w.cell? ⟨b, 3, none⟩ = some (.slice (some ⟨g1, 0, none⟩) t.n t.n) := h.blk.cell 3
theorem RP.cell4 (h : RP w F b g1 g2 g3 v t) : w.cell? ⟨b, 4, none⟩ = some (.slice (some ⟨g2, 0, none⟩) t.n t.n) := h.blk.cell 4
theorem RP.cell5 (h : RP w F b g1 g2 g3 v t) : w.cell? ⟨b, 5, none⟩ = some (.slice (some ⟨g3, 0, none⟩) t.n t.n) := h.blk.cell 5
theorem RP.last (h : RP w F b g1 g2 g3 v t) (hi : k < t.n) : ∀ j x, (vcl (ltN t k))[j]? = some x → w.cell? ⟨g1, k * 34 + j, none⟩ = some x := fun j x hj => by
  have hjl : j < 34 := by
    have := (List.getElem?_eq_some_iff.1 hj).1
    rwa [vcl_length (h.fit.l k).1] at this
  rw [h.l1.cell, rowsOf_at h.fit.lrow hi hjl]
  exact hj
theorem RP.slot (h : RP w F b g1 g2 g3 v t) (hi : k < t.n) : w.cell? ⟨g1, k * 34 + 1, none⟩ = some (.int .i64 (ltN t k).s) := h.last hi 1 _ rfl
theorem ov_get {l : List Bool} {i : Nat} (h : i < l.length) : (ov l)[i]? = some (.bool (l[i]?.getD false)) := by
  rw [List.getElem?_eq_getElem h]
  exact ov_at (List.getElem?_eq_getElem h)
theorem RP.voted (h : RP w F b g1 g2 g3 v t) (hi : k < t.n) : w.cell? ⟨g2, k, none⟩ = some (.bool (hsN t k)) := by
  rw [h.l2.cell]; exact ov_get (by rw [h.fit.gd.hn]; exact hi)
theorem RP.out (h : RP w F b g1 g2 g3 v t) (hi : k < t.n) : w.cell? ⟨g3, k, none⟩ = some (.bool (otN t k)) := by
  rw [h.l3.cell]; exact ov_get (by rw [h.fit.gd.on]; exact hi)
theorem RP.open (h : RP w F b g1 g2 g3 v t) : ∃ ao cap g off, v = .slice ao t.fs.length cap ∧ Lies w w.heap.size ao g off (frows t.fs) := by
  obtain ⟨ao, n, cap, g, off, rfl, e, hl⟩ := h.wide.lies
  rw [frows_length _ h.fit.fs.g] at e
  obtain rfl : n = t.fs.length := by omega
  exact ⟨ao, cap, g, off, rfl, hl⟩
theorem ov_set (l : List Bool) (i : Nat) (x : Bool) : (ov l).set i (.bool x) = ov (l.set i x) := by simp [ov, List.map_set]
theorem RP.doOut (h : RP w F b g1 g2 g3 v t) : RP (w.setCell ⟨g3, k, none⟩ (.bool true)) F b g1 g2 g3 v (setO t (k : Int)) ∧ Kept [g3] w (w.setCell ⟨g3, k, none⟩ (.bool true)) := by
  have hkk : Kept [g3] w (w.setCell ⟨g3, k, none⟩ (.bool true)) := (Kept.refl _ _).setCell _ _ (.inl (by simp))
  have n := h.ne
  refine ⟨⟨h.fit.setO _, h.blk.kept hkk (by simp; exact n.2.2.1), h.wide.kept hkk (fun j hj => by simp; exact (h.vne j hj).2.2.2), h.l1.kept hkk (by simp; exact n.2.2.2.2.1), h.l2.kept hkk (by simp; exact n.2.2.2.2.2), ?_, h.ne, h.vne, h.inF, h.inv, h.low.keep hkk.size⟩, hkk⟩
  have := h.l3.set k (.bool true)
  rw [ov_set] at this
  exact this
theorem RP.doH (h : RP w F b g1 g2 g3 v t) (hw : vo.w = (k : Int)) : RP (w.setCell ⟨g2, k, none⟩ (.bool true)) F b g1 g2 g3 v (setH t vo) ∧ Kept [g2] w (w.setCell ⟨g2, k, none⟩ (.bool true)) := by
  have hkk : Kept [g2] w (w.setCell ⟨g2, k, none⟩ (.bool true)) := (Kept.refl _ _).setCell _ _ (.inl (by simp))
  have n := h.ne
  refine ⟨⟨h.fit.setH _, h.blk.kept hkk (by simp; exact n.2.1), h.wide.kept hkk (fun j hj => by simp; exact (h.vne j hj).2.2.1), h.l1.kept hkk (by simp; exact n.2.2.2.1), ?_, h.l3.kept hkk (by simp; exact fun e => n.2.2.2.2.2 e.symm), h.ne, h.vne, h.inF, h.inv, h.low.keep hkk.size⟩, hkk⟩
  have := h.l2.set k (.bool true)
  rw [ov_set] at this
  show Blk _ _ _ (ov (t.hs.set vo.w.toNat true))
  rw [hw]
  exact this
theorem RP.rowV (h : RP w F b g1 g2 g3 v t) (hk : k < t.n) (hw : vo.w = (k : Int)) (hv : vo.g.length = 32) (hs : 0 ≤ vo.s ∧ vo.s ≤ 1073741824) : splice (rowsOf t.n (lrow t)) (k * 34) (vcl vo) = rowsOf t.n (lrow (setV t vo)) := by
  refine (congrArg (fun q => splice (rowsOf t.n (lrow t)) q (vcl vo)) (Nat.add_zero (k * 34)).symm).trans ?_
  refine rowsOf_splice (n := t.n) (k := 34) (i := k) (o := 0) (f := lrow t) (f' := lrow (setV t vo)) h.fit.lrow (h.fit.setV hv hs).lrow hk (by rw [vcl_length hv]; omega) ?_ fun j hj => ?_
  · have h1 : ltN (setV t vo) k = vo := by
      unfold ltN setV
      simp only [hw, Int.toNat_natCast]
      rw [getD_at _ (by rw [h.fit.gd.ln]; exact hk), if_pos rfl]
    unfold lrow
    rw [h1]
    exact (splice_all _ _ (by rw [vcl_length hv, vcl_length (h.fit.l k).1])).symm
  · have h1 : ltN (setV t vo) j = ltN t j := by
      unfold ltN setV
      simp only [hw, Int.toNat_natCast]
      rw [getD_at _ (by rw [h.fit.gd.ln]; exact hk), if_neg hj]
    unfold lrow
    rw [h1]
theorem RP.doV (h : RP w F b g1 g2 g3 v t) (hv : vo.g.length = 32) (hs : 0 ≤ vo.s ∧ vo.s ≤ 1073741824) : RP (w.setRow g1 (rowsOf t.n (lrow (setV t vo))).toArray) F b g1 g2 g3 v (setV t vo) ∧ Kept [g1] w (w.setRow g1 (rowsOf t.n (lrow (setV t vo))).toArray) := by
  have hkk : Kept [g1] w (w.setRow g1 (rowsOf t.n (lrow (setV t vo))).toArray) := (Kept.refl _ _).setRow (.inl (by simp)) _
  have n := h.ne
  exact ⟨⟨h.fit.setV hv hs, h.blk.kept hkk (by simp; exact n.1), h.wide.kept hkk (fun j hj => by simp; exact (h.vne j hj).2.1), h.l1.setRow _, h.l2.kept hkk (by simp; exact fun e => n.2.2.2.1 e.symm), h.l3.kept hkk (by simp; exact fun e => n.2.2.2.2.1 e.symm), h.ne, h.vne, h.inF, h.inv, h.low.keep hkk.size⟩, hkk⟩
/-- The row of first votes has grown, or another one stands in its place. -/
theorem RP.stored {t' : Tb} (h : RP w F b g1 g2 g3 v t) (hf : FitT t') (hn : t'.n = t.n ∧ t'.k = t.k ∧ t'.lt = t.lt ∧ t'.hs = t.hs ∧ t'.ot = t.ot) (hk : Kept (ownL v) w w') (hw : Wide 34 w' 0 v' (frows t'.fs)) (ho : ∀ j, v'.ownBlock = some j → (v.ownBlock = some j ∨ w.heap.size ≤ j) ∧ j < w'.heap.size) :
    RP (w'.setCell ⟨b, 2, none⟩ v') (ownL v' ++ F) b g1 g2 g3 v' t' ∧ Kept F w (w'.setCell ⟨b, 2, none⟩ v') ∧ NewF w F (ownL v' ++ F) := by
  obtain ⟨n1, n2, n3, n4, n5⟩ := hn
  have hF : ∀ x ∈ ownL v, x ∈ F := fun x hx => h.inv x (mem_ownL.1 hx)
  have hk2 : Kept [b] w' (w'.setCell ⟨b, 2, none⟩ v') := (Kept.refl _ _).setCell _ _ (.inl (by simp))
  have hvn : ∀ x ∈ ownL v, x ≠ b ∧ x ≠ g1 ∧ x ≠ g2 ∧ x ≠ g3 := fun x hx => h.vne x (mem_ownL.1 hx)
  have hb := h.low b h.inF.1
  have h1 := h.low g1 h.inF.2.1
  have h2 := h.low g2 h.inF.2.2.1
  have h3 := h.low g3 h.inF.2.2.2
  have n := h.ne
  have hv' : ∀ j, v'.ownBlock = some j → j ≠ b ∧ j ≠ g1 ∧ j ≠ g2 ∧ j ≠ g3 := fun j hj => by
    rcases (ho j hj).1 with h4 | h4
    · exact h.vne j h4
    · omega
  have hb1 : b ∉ ownL v := fun hx => (hvn b hx).1 rfl
  have hg1 : g1 ∉ ownL v := fun hx => (hvn g1 hx).2.1 rfl
  have hg2 : g2 ∉ ownL v := fun hx => (hvn g2 hx).2.2.1 rfl
  have hg3 : g3 ∉ ownL v := fun hx => (hvn g3 hx).2.2.2 rfl
  have hl : lrow t' = lrow t := by funext i; unfold lrow ltN; rw [n3]
  have hnew : NewF w F (ownL v' ++ F) := fun x hx => by
    rcases List.mem_append.1 hx with hx | hx
    · rcases (ho x (mem_ownL.1 hx)).1 with h4 | h4
      · exact .inl (h.inv x h4)
      · exact .inr h4
    · exact .inl hx
  refine ⟨⟨hf, ?_, hw.kept hk2 (fun j hj => by simp; exact (hv' j hj).1), ?_, ?_, ?_, h.ne, hv', ⟨List.mem_append_right _ h.inF.1, List.mem_append_right _ h.inF.2.1, List.mem_append_right _ h.inF.2.2.1, List.mem_append_right _ h.inF.2.2.2⟩, fun j hj => List.mem_append_left _ (mem_ownL.2 hj), fun x hx => ?_⟩, (hk.mono hF).setCell _ _ (.inl h.inF.1), hnew⟩
  · have := (h.blk.kept hk hb1).set 2 v'
    rw [n1, n2]
    exact this
  · rw [n1, hl]; exact (h.l1.kept hk hg1).kept hk2 (by simp; exact fun e => n.1 e.symm)
  · rw [n4]; exact (h.l2.kept hk hg2).kept hk2 (by simp; exact fun e => n.2.1 e.symm)
  · rw [n5]; exact (h.l3.kept hk hg3).kept hk2 (by simp; exact fun e => n.2.2.1 e.symm)
  · rcases List.mem_append.1 hx with hx | hx
    · have := (ho x (mem_ownL.1 hx)).2
      simp [World.setCell]; exact this
    · have := h.low x hx
      have := hk.size
      simp [World.setCell]; omega
end
theorem first_parts0 : Try.prog.built 71 = fun parts => Go.Instr.fill (fun x => vplace[x]?) (vcl vt0).toArray parts := by kernel_rfl
theorem built_first (a b : Int) (r : List UInt8) (hr : r.length = 32) : Try.prog.built 71 [(0, .int .i64 a), (1, .int .i64 b), (2, .agg (bv r).toArray)] = some (vcl ⟨a, b, r⟩).toArray := by
  rw [first_parts0]
  exact (fillV0 0 0 a vt0.g vt0_len _).trans ((fillV1 a 0 b vt0.g vt0_len _).trans (fillV2 a b vt0.g r vt0_len hr []))
theorem Try.sizeFirst : (Try.prog.info? 71).map (·.size) = some 34 := by kernel_rfl
theorem Try.infoFirst : (Try.prog.info? 71).map (fun i => (i.zero, i.size, i.bytes)) = some (some (.agg (vcl vt0).toArray), 34, 48) := by kernel_rfl
theorem Try.aggFirst (w : World) : (isAgg 71).run Try.prog w = .ok true w := by
  unfold isAgg
  rw [Sem.run_bind, run_underlying Try.underlying71 w]
  rfl
theorem fsize {v : Vt} (h : v.g.length = 32) : (Try.prog.info? 71).map (·.size) = some (vcl v).length := by rw [vcl_length h]; exact Try.sizeFirst
theorem run_load_first {w : World} {g off : Nat} {v : Vt} (hl : v.g.length = 32) (hc : ∀ j x, (vcl v)[j]? = some x → w.cell? ⟨g, off + j, none⟩ = some x) :
    (Instr.loadAt 71 (.pointer (some ⟨g, off, none⟩))).run Try.prog w = .ok (.agg (vcl v).toArray) w := run_loadAt_agg hc 71 Try.aggFirst (fsize hl)
section
variable {ops : Array Oper} {rest : List Oper} {o : Oper} {a : Act} {w : World} {Q : Exit → Act → World → Prop}
theorem wpList_load_first (y : Operand) (ho : o.op = .load 71 y) (hgd : Region.wanted o (yielded ops a.tmps) = true)
    (g off : Nat) (v : Vt) (hx : a.eval y = .pointer (some ⟨g, off, none⟩)) (hl : v.g.length = 32) (hc : ∀ j x, (vcl v)[j]? = some x → w.cell? ⟨g, off + j, none⟩ = some x)
    (h : wpList Try.prog ops Q rest (a.put o.dst (.agg (vcl v).toArray)) w) : wpList Try.prog ops Q (o :: rest) a w := by
  refine wpList_step fun K hK => ?_
  rw [if_pos hgd]
  unfold Oper.wp execOp
  simp only [ho, hx, Sem.run_bind, run_load_first hl hc, Result.andThen_ok]
  exact hK _ _ h
theorem wpList_store_first (x y : Operand) (ho : o.op = .store 71 x y) (hgd : o.guard = none)
    (g : Nat) (v v' : Vt) (hx : a.eval x = .pointer (some ⟨g, 0, none⟩)) (hy : a.eval y = .agg (vcl v').toArray) (hg : Blk w g 71 (vcl v)) (hl : v.g.length = 32) (hl' : v'.g.length = 32)
    (h : wpList Try.prog ops Q rest (a.put o.dst undef) (w.setRow g (vcl v').toArray)) : wpList Try.prog ops Q (o :: rest) a w := by
  refine wpList_store_part hgd 71 x y ho g 0 (vcl v') hx hy 71 (vcl v) hg (fsize hl') (by rw [vcl_length hl, vcl_length hl']; omega) (vcl_one _) ?_
  rw [splice_all _ _ (by rw [vcl_length hl, vcl_length hl'])]
  exact h
end
/-! The first one that fits. -/
theorem fst_take {fs : List Fs} {j : Nat} {f : Fs} {a e : Int} (hj : fs[j]? = some f) (hp : fstT (fs.take j) a e = none) : (f.w = a ∧ f.e = e → fstT fs a e = some f) ∧ (¬ (f.w = a ∧ f.e = e) → fstT (fs.take (j + 1)) a e = none) := by
  have hl := (List.getElem?_eq_some_iff.1 hj).1
  refine ⟨fun hm => ?_, fun hm => ?_⟩
  · have e1 : fs = fs.take j ++ f :: fs.drop (j + 1) :=
      (List.take_append_drop j fs).symm.trans (by rw [List.drop_eq_getElem_cons hl, (List.getElem?_eq_some_iff.1 hj).2])
    unfold fstT at hp ⊢
    rw [e1, List.find?_append, hp]
    simp [hm.1, hm.2]
  · rw [List.take_add_one, hj]
    show fstT (fs.take j ++ [f]) a e = none
    rw [fstT_snoc, hp]
    exact if_neg hm
end Go.Proofs.Ytoinigcfcjllcaa
