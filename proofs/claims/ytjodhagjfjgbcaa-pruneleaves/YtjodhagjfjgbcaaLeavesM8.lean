/-
  The texts TRows, RefTree, RefName, one behind the other.
-/
import Derived.Test.YtjodhagjfjgbcaaLeavesM7
import Derived.Test.YtjodhagjfjgbcaaLeavesM4
import Derived.IntWalk
/-
  The program's Roots and Kids: rows of names that they collect, block by block.
-/
namespace Go.Proofs.Ytjodhagjfjgbcaa
open Go Go.RowKit Go.Shelf
set_option maxRecDepth 10000
attribute [local go_sem] Oper.semAt_some

/-- The function's end behind a loop over a function; its answer lies in a slot. -/
theorem leaves_tmp {P : Program} {fn : Func} {p : Tmp} (hf : fn.results = #[.tmp p]) {tmps : Array Value} {R : Ending → World → Prop} {D : Nat} {W : World} (hD : W.heap[D]? = some (.deferred (some []))) {v : Value} (hp : tmps.getD p undef = v)
    (hR : R (.returned v) (W.putObj D (.deferred none))) : LeavesInM Fence.wide 10 P fn tmps R [{ target := .collected D, args := #[] }] .returning W := by
  refine ⟨by simp, .inl ⟨_, _, rfl, run_takeDeferred hD, ?_⟩⟩
  exact ⟨_, results_tmp hf _ _ _, by rw [hp]; exact hR⟩

theorem kept_put (W : World) (l : Nat) (o : Obj) : Kept [l] W (W.putObj l o) := ⟨rfl, rfl, rfl, Nat.le_of_eq (World.putObj_size).symm, fun k _ hk => World.putObj_heap_other (by simpa using hk)⟩
theorem rs_all {l : List Ndl} {t : List Nd} (h : l.map (·.1) = t) : l.map (·.1.1) = rs t := by rw [← h]; simp [rs]
def Big (R : Nat) (W : World) : Prop := R ≤ W.heap.size
def namesOf (l : List Ndl) : List (List UInt8) := l.map (·.1.1)
theorem namesOf_snoc (l : List Ndl) (n : Ndl) : namesOf (l ++ [n]) = namesOf l ++ [n.1.1] := by simp [namesOf]
theorem namesOf_length (l : List Ndl) : (namesOf l).length = l.length := by simp [namesOf]
theorem namesOf_rts (l : List Ndl) : Rts (namesOf l) := fun r hr => by
  obtain ⟨n, _, rfl⟩ := List.mem_map.1 hr
  exact n.2
/-- Those whose parent stands at p. -/
def kidsOf (p : Int) (l : List Ndl) : List (List UInt8) := (l.filter fun n => n.1.2.2 == p).map (·.1.1)
theorem kidsOf_hit {p : Int} (l : List Ndl) {n : Ndl} (h : n.1.2.2 = p) : kidsOf p (l ++ [n]) = kidsOf p l ++ [n.1.1] := by simp [kidsOf, h]
theorem kidsOf_miss {p : Int} (l : List Ndl) {n : Ndl} (h : ¬ n.1.2.2 = p) : kidsOf p (l ++ [n]) = kidsOf p l := by simp [kidsOf, h]
theorem kidsOf_length (p : Int) (l : List Ndl) : (kidsOf p l).length ≤ l.length := by simp [kidsOf]; exact List.length_filter_le _ _
theorem kidsOf_rts (p : Int) (l : List Ndl) : Rts (kidsOf p l) := fun r hr => by
  obtain ⟨n, _, rfl⟩ := List.mem_map.1 hr
  exact n.2
theorem kidsOf_all {p : Int} {l : List Ndl} {t : List Nd} (h : l.map (·.1) = t) : kidsOf p l = rs (t.filter fun n => n.2.2 == p) := by
  subst h
  simp [kidsOf, rs, List.filter_map, Function.comp_def]

set_option maxHeartbeats 8000000 in
theorem roots_any (w : World) (F : List Nat) (b : Nat) (t : List Nd) (most : Int) (h : Tre w F b t most) :
    Calls Try.prog 15 #[.pointer (some ⟨b, 0, none⟩)] w fun e w' => ∃ v, e = .returned v ∧ Wide 32 w' w.heap.size v (rv (rs t)) ∧ Below w.heap.size w w' := by
  obtain ⟨i0, hi0, hz0, hz1, hz2⟩ := info_parts Try.infoRootB
  have hzc : (Value.agg (bv zero32).toArray).cells.size = 32 := by simp [Value.cells, bv_length, zero32]
  have HP32 := Lib.hid (show 0 < 32 by omega)
  have HP24 := Lib.hid (show 1 * 32 ≤ 2 ^ 24 by omega)
  have hb1 : Below w.heap.size w (w.alloc (.cells #[.slice none 0 0] 37)) := (Below.refl _ w).alloc (Nat.le_refl _) _
  have HB := Lib.hid hb1
  have HL := Lib.hid (Blk.new w 37 #[.slice none 0 0])
  have H1 := Lib.hid (h.below hb1)
  have HLow := Lib.hid h.low
  obtain ⟨LB, hLBe⟩ : ∃ LB, LB = w.heap.size := ⟨_, rfl⟩
  have HLW := Lib.hid (show w.heap.size ≤ LB by omega)
  have HLL := Lib.hid (show LB < (w.alloc (.cells #[.slice none 0 0] 37)).heap.size by simp; omega)
  clear hb1 h
  refine (callsIn_wide (n := 10)).1 ?_
  refine callsIn_of_wp_marks Try.func15 rfl trivial ?_ rfl
  simp only [Try.ntmps15, List.size_toArray, List.length_cons, List.length_nil, Nat.reduceAdd, Nat.reduceSub, Array.replicate_succ, Array.replicate_zero, List.push_toArray, List.append_toArray, List.nil_append, List.cons_append]
  refine wpIn_wide.2 ?_
  go_upto_region 2 with fail
  rw [← hLBe] at HL ⊢
  generalize w.alloc (.cells #[.slice none 0 0] 37) = w1 at HB HL H1 HLL ⊢
  clear hLBe
  go_wp2_with fail
  refine (all_any w1 (some ⟨b, 0, none⟩)).mono ?_
  rintro e w2 ⟨rfl, hw2⟩
  obtain ⟨Bn, hBn⟩ : ∃ Bn, Bn = w1.heap.size := ⟨_, rfl⟩
  have hb2 : Below w1.heap.size w1 w2 := by rw [hw2]; exact (Below.refl _ w1).alloc (Nat.le_refl _) _
  have HS2 := Lib.hid (show w2.heap.size = w1.heap.size + 1 by rw [hw2]; simp)
  have HBN := Lib.hid (show w2.cell? ⟨Bn, 0, none⟩ = some (.pointer (some ⟨b, 0, none⟩)) by
    rw [hw2, hBn]
    exact (Blk.new w1 26 #[.pointer (some ⟨b, 0, none⟩)]).cell 0)
  have HBB := Lib.hid (show Bn = w1.heap.size from hBn)
  rw [← hBn]
  have H2 := Lib.hid (H1.out.below hb2)
  have HB2 := Lib.hid (HB.out.trans (hb2.mono HB.out.size))
  have HL2 := Lib.hid (HL.out.below hb2 HL.out.lt)
  have HSB := Lib.hid (show SB LB w2 = [LB] by rw [sb_of HL2.out]; rfl)
  clear hw2 hb2 hBn H1 HB HL
  go_wp2_with fail
  have hLB : LB < w2.heap.size := HL2.out.lt
  have hw2 : w.heap.size ≤ w2.heap.size := HB2.out.size
  have HLR := Lib.hid (show (ndl t H2.out.1.nds).length ≤ 256 by rw [ndl_length]; have h1 := H2.out.1.room; have h2 := H2.out.1.most256; omega)
  have HUP := Lib.hid (all_gives LB w2.heap.size w2 F b Bn t most H2.out HBN.out (Nat.le_refl _) hLB (fun k hk => H2.out.low k hk) (by rw [HBB.out, HS2.out]; omega)
    (by rw [HSB.out]; exact fun k hk hm => by simp at hm; have h1 := HLow.out k hk; have h2 := HLW.out; omega)
    (by rw [HSB.out]; intro hm; simp at hm; have h1 := HBB.out; have h3 := HLL.out; omega))
  refine (wpIn_wide (n := 10)).1 (over_func (α := Ndl) rfl (enters_of Try.func53 (by kernel_rfl) rfl) (fun _ => rfl) (LB := LB) HL2.out.lt HUP.out (Below.refl _ _)
    (fun pre W => HoldsR LB w2.heap.size (namesOf pre) W ∧ Big w2.heap.size W ∧ Below w.heap.size w W)
    (fun _ _ => False)
    ⟨holds_new HL2.out, Nat.le_refl _, HB2.out⟩
    (fun s A C row hs hg hr => ⟨hs.1.stays HL2.out.lt hg hr, Nat.le_trans hs.2.1 hg.size, below_stays hs.2.2 HB2.out.size (Nat.le_refl _) hg hr⟩)
    (fun s A C row hs hg hr => hs)
    (fun s A l o o' hs hl h0 hc => ⟨hs.1.minds HL2.out.lt hl h0 hc o', Nat.le_trans hs.2.1 (Nat.le_of_eq (World.putObj_size).symm), below_minds hs.2.2 HB2.out.size hl o'⟩)
    (fun s A l o o' hs hl h0 hc => hs) ?round ?done ?stop)
  case round =>
    rintro l pre n W ⟨hh, hbig, hbw⟩ hN
    obtain ⟨v, h1, h2, h3⟩ := hh
    obtain ⟨r1, r2, r3, r4⟩ := laid_round (LB := LB) (R := w2.heap.size) W n.1 h1.lt
    have HZB := Lib.hid (blk_zero W)
    have HR := Lib.hid r3
    have HK1 := Lib.hid r1
    have HK2 := Lib.hid r2
    have HHW := Lib.hid (HoldsR.below (show HoldsR LB w2.heap.size (namesOf pre) W from ⟨v, h1, h2, h3⟩) r4)
    have HBW := Lib.hid (hbw.trans (r4.mono hbw.size))
    have HNL := Lib.hid n.2
    have HNN := Lib.hid hN
    have HRW := Lib.hid (show w2.heap.size ≤ ((W.alloc (.cells #[.int .u8 0, .int .u8 0, .int .u8 0, .int .u8 0, .int .u8 0, .int .u8 0, .int .u8 0, .int .u8 0, .int .u8 0, .int .u8 0, .int .u8 0, .int .u8 0, .int .u8 0, .int .u8 0, .int .u8 0, .int .u8 0, .int .u8 0, .int .u8 0, .int .u8 0, .int .u8 0, .int .u8 0, .int .u8 0, .int .u8 0, .int .u8 0, .int .u8 0, .int .u8 0, .int .u8 0, .int .u8 0, .int .u8 0, .int .u8 0, .int .u8 0, .int .u8 0, .int .i64 0, .int .i64 0] 51)).setRow W.heap.size (ndv n.1).toArray).heap.size from Nat.le_trans hbig r4.size)
    obtain ⟨V, hV⟩ : ∃ V, V = W.heap.size := ⟨_, rfl⟩
    clear r1 r2 r3 r4 h1 h2 h3 hbw hbig hN
    gi_wp2_with ((with_reducible refine wpListIn_lay l HZB.out nd0_len HNL.out (.tmp 4) (.tmp 7) ?_ ?_ ?_ ?_ ?_); rfl; rfl; rfl; rfl)
    refine ⟨HK1.out, HK2.out, ?_⟩
    rw [← hV] at HR HHW HBW HRW ⊢
    clear HZB HK1 HK2
    generalize (W.alloc (.cells _ 51)).setRow _ (ndv n.1).toArray = W1 at HR HHW HBW HRW ⊢
    intro W3 ht
    have HRA := Lib.hid (ht.blk HR.out).nodeName
    have HH3 := Lib.hid (show HoldsR LB w2.heap.size (namesOf pre) W3 by
      obtain ⟨q, o, o', q1, q2, q3, q4⟩ := ht
      rw [q4]
      exact HHW.out.minds hLB q1 q2 q3 o')
    have HB3 := Lib.hid (ht.below HBW.out hw2)
    have HRS := Lib.hid (show w2.heap.size ≤ W3.heap.size by rw [ht.size]; exact HRW.out)
    clear HR HHW HBW HRW ht hV
    obtain ⟨v, k1, k2, k3⟩ := HH3.out
    obtain ⟨ao, m, cap, bb, off, e, _, _⟩ := k2.lies
    subst e
    have HL3 := Lib.hid k1
    have HH := Lib.hid k2
    have HC3 := Lib.hid k3
    clear k1 k2 k3
    have HSrc := Lib.hid (src_rowT W3 32 (by omega) 37 24 Try.underlying37 (bv n.1.1) (by rw [bv_length, HNL.out]) (bv_one _) (P := Try.prog))
    have HB32 := Lib.hid (show (bv n.1.1).length = 32 by rw [bv_length, HNL.out])
    have HWA := Lib.hid (HH.out.alloc (.cells (bv n.1.1).toArray 24))
    have HLN := Lib.hid (show (rv (namesOf pre)).length = (namesOf pre).length * 32 from rv_length _ (namesOf_rts pre))
    have HFL := Lib.hid (show (namesOf pre).length ≤ 256 from by rw [namesOf_length]; have h1 := HNN.out; have h2 := HLR.out; rw [ndl_length] at h2; omega)
    have c0 := HL3.out.cell 0
    have hsz : w2.heap.size ≤ (W3.alloc (.cells (bv n.1.1).toArray 24)).heap.size := by have := HRS.out; simp; omega
    have HSZ := Lib.hid hsz
    clear hsz
    gi_wp2_with (first
      | ((with_reducible refine wpListIn_load (round_fn l) 24 (.tmp 9) ?_ ?_ _ _ ?_ (run_load_root HNL.out HRA.out) ?_); rfl; rfl; rfl)
      | ((with_reducible refine wpListIn_build_row (round_fn l) ?_ 37 24 (.tmp 10) ?_ (bv n.1.1) ?_ i0 (.agg (bv zero32).toArray) (s := 32) HP32.out HB32.out Try.underlying37 hi0 hz0 hz1 HP24.out ?_); rfl; rfl; rfl)
      | ((with_reducible refine wpListIn_append_wide (round_fn l) ?_ (.tmp 8) (.tmp 11) 37 37 ?_ ?_ HWA.out HP32.out 24 i0 (.agg (bv zero32).toArray) 32 Try.underlying37 hi0 hz0 hz1 hz2 hzc _ ?_ 1 (bv n.1.1) HSrc.out ?e2 ?e3 HSZ.out ?_); rfl; rfl; rfl; rfl; (case e2 => rw [HLN.out]; have := HFL.out; unfold maxLen; omega); (case e3 => rw [HLN.out]; have := HFL.out; omega); intro v' W4 hw4 hg4; obtain ⟨k1, k2, k3, k4, k5, _⟩ := HoldsR.collected HL3.out HC3.out hLB HH.out hw4 hg4 HNL.out; obtain ⟨ao', n', cap', b', off', e', _, _⟩ := hw4.lies; subst e'; have f1 := k4.free 0; have c1 := k4.cell 0; have HK1 := Lib.hid k1; have HK2 := Lib.hid k2; have HK3 := Lib.hid k3; have HK5 := Lib.hid k5; clear hw4 hg4 k1 k2 k3 k4 k5))
    exact ⟨HK2.out, .inl ⟨rfl, HK3.out, by rw [namesOf_snoc]; exact HK1.out, Nat.le_trans HRS.out HK3.out.size, HB3.out.trans (HK5.out w.heap.size HLW.out)⟩⟩
  case done =>
    rintro D xs W hD hS ⟨hh, hbig, hbw⟩ hd
    obtain ⟨v, k1, k2, k3⟩ := hh
    have HC := Lib.hid (show D ∉ ownL v from fun hm => by
      obtain ⟨o, q1, q2⟩ := k3 D (mem_ownL.1 hm)
      rw [hd] at q1; cases q1; cases q2)
    obtain ⟨ao, m, cap, bb, off, e, _, _⟩ := k2.lies
    subst e
    have c0 := k1.cell 0
    have HB3 := Lib.hid hbw
    have HD := Lib.hid hd
    have HW3 := Lib.hid k2
    have HA := Lib.hid (show namesOf xs = rs t from rs_all hS)
    clear k1 k2 k3 hbw hd hS hbig
    go_wp2_with fail
    refine leaves_tmp rfl HD.out rfl ⟨_, rfl, ?_, below_minds HB3.out hw2 hD _⟩
    rw [← HA.out]
    exact (HW3.out.kept (kept_put W D _) (fun j hj hm => by
      rw [List.mem_singleton] at hm
      exact HC.out (hm ▸ mem_ownL.2 hj))).mono hw2
  case stop =>
    rintro D pre W hD hS h hd
    exact h.elim

end Go.Proofs.Ytjodhagjfjgbcaa

/-
  The document's own tree (tollerref10): in memory; its Name, Place, Up, Same.
-/
namespace Go.Proofs.Ytjodhagjfjgbcaa
open Go Go.RowKit
set_option maxRecDepth 10000

def zs (t : List Nd) : List Value := t.map fun n => .int .i64 n.2.1
theorem zs_length (t : List Nd) : (zs t).length = t.length := by simp [zs]
theorem zs_at {t : List Nd} {i : Nat} {n : Nd} (h : t[i]? = some n) : (zs t)[i]? = some (.int .i64 n.2.1) := by simp [zs, h]
theorem zs_append (a b : List Nd) : zs (a ++ b) = zs a ++ zs b := by simp [zs]
theorem zs_one (t : List Nd) : ∀ v ∈ zs t, v.oneCell' = true := by intro v hv; simp [zs] at hv; obtain ⟨a, x, c, _, rfl⟩ := hv; rfl
def refItems (v1 v2 v3 : Value) (t : List Nd) : List (Nat × Value × List Value) := [(32, v1, rv (rs t)), (1, v2, zs t), (32, v3, rv (pns t))]
/-- The document's tree at block b is this one; F: the blocks that are its own. -/
def Ref (w : World) (F : List Nat) (b : Nat) (t : List Nd) (most : Int) : Prop := Good t most ∧ ∃ v1 v2 v3, Sls w F b 44 (refItems v1 v2 v3 t) [.int .i64 most]
theorem Ref.keep {w w' : World} {F G : List Nat} {b : Nat} {t : List Nd} {most : Int} (h : Ref w F b t most) (hk : Kept G w w') (hF : Away F G) : Ref w' F b t most := by
  obtain ⟨G0, v1, v2, v3, h⟩ := h
  exact ⟨G0, v1, v2, v3, h.keep hk hF⟩
theorem Ref.below {w w' : World} {F : List Nat} {b : Nat} {t : List Nd} {most : Int} (h : Ref w F b t most) (hb : Below w.heap.size w w') : Ref w' F b t most := h.keep (Kept.of_below [] hb) (fun _ _ hx => by cases hx)
theorem Ref.low {w : World} {F : List Nat} {b : Nat} {t : List Nd} {most : Int} (h : Ref w F b t most) : Low w F := by
  obtain ⟨_, v1, v2, v3, h⟩ := h
  exact h.low
/-- Its three slices. -/
structure RefS (w : World) (F : List Nat) (b : Nat) (t : List Nd) (most : Int) (a1 a2 a3 : Option Addr) (c1 c2 c3 g1 g2 g3 o1 o2 o3 : Nat) : Prop where
  good : Good t most
  sls : Sls w F b 44 (refItems (.slice a1 t.length c1) (.slice a2 t.length c2) (.slice a3 t.length c3) t) [.int .i64 most]
  l1 : Lies w w.heap.size a1 g1 o1 (rv (rs t))
  l2 : Lies w w.heap.size a2 g2 o2 (zs t)
  l3 : Lies w w.heap.size a3 g3 o3 (rv (pns t))
theorem Ref.open {w : World} {F : List Nat} {b : Nat} {t : List Nd} {most : Int} (h : Ref w F b t most) : ∃ a1 a2 a3 c1 c2 c3 g1 g2 g3 o1 o2 o3, RefS w F b t most a1 a2 a3 c1 c2 c3 g1 g2 g3 o1 o2 o3 := by
  obtain ⟨G, v1, v2, v3, h⟩ := h
  have w1 := h.wide (32, v1, rv (rs t)) (by simp [refItems])
  have w2 := h.wide (1, v2, zs t) (by simp [refItems])
  have w3 := h.wide (32, v3, rv (pns t)) (by simp [refItems])
  obtain ⟨a1, n1, c1, g1, o1, rfl, e1, l1⟩ := w1.lies
  obtain ⟨a2, n2, c2, g2, o2, rfl, e2, l2⟩ := w2.lies
  obtain ⟨a3, n3, c3, g3, o3, rfl, e3, l3⟩ := w3.lies
  rw [rv_length _ G.rts, rs_length] at e1
  rw [zs_length] at e2
  rw [rv_length _ G.pns_len, pns_length] at e3
  obtain rfl : n1 = t.length := by omega
  obtain rfl : n2 = t.length := by omega
  obtain rfl : n3 = t.length := by omega
  exact ⟨a1, a2, a3, c1, c2, c3, g1, g2, g3, o1, o2, o3, G, h, l1, l2, l3⟩
theorem RefS.ref {w : World} {F : List Nat} {b : Nat} {t : List Nd} {most : Int} {a1 a2 a3 : Option Addr} {c1 c2 c3 g1 g2 g3 o1 o2 o3 : Nat} (h : RefS w F b t most a1 a2 a3 c1 c2 c3 g1 g2 g3 o1 o2 o3) : Ref w F b t most := ⟨h.good, _, _, _, h.sls⟩
theorem RefS.below {w w' : World} {F : List Nat} {b : Nat} {t : List Nd} {most : Int} {a1 a2 a3 : Option Addr} {c1 c2 c3 g1 g2 g3 o1 o2 o3 : Nat} (h : RefS w F b t most a1 a2 a3 c1 c2 c3 g1 g2 g3 o1 o2 o3) (hb : Below w.heap.size w w') : RefS w' F b t most a1 a2 a3 c1 c2 c3 g1 g2 g3 o1 o2 o3 :=
  ⟨h.good, h.sls.below hb, h.l1.below hb, h.l2.below hb, h.l3.below hb⟩
section
variable {w : World} {F : List Nat} {b : Nat} {t : List Nd} {most : Int} {a1 a2 a3 : Option Addr} {c1 c2 c3 g1 g2 g3 o1 o2 o3 : Nat}
theorem RefS.cell0 (h : RefS w F b t most a1 a2 a3 c1 c2 c3 g1 g2 g3 o1 o2 o3) : w.cell? ⟨b, 0, none⟩ = some (.slice a1 t.length c1) := h.sls.blk.cell 0
theorem RefS.cell1 (h : RefS w F b t most a1 a2 a3 c1 c2 c3 g1 g2 g3 o1 o2 o3) : w.cell? ⟨b, 1, none⟩ = some (.slice a2 t.length c2) := h.sls.blk.cell 1
theorem RefS.cell2 (h : RefS w F b t most a1 a2 a3 c1 c2 c3 g1 g2 g3 o1 o2 o3) : w.cell? ⟨b, 2, none⟩ = some (.slice a3 t.length c3) := h.sls.blk.cell 2
theorem RefS.cell3 (h : RefS w F b t most a1 a2 a3 c1 c2 c3 g1 g2 g3 o1 o2 o3) : w.cell? ⟨b, 3, none⟩ = some (.int .i64 most) := h.sls.blk.cell 3
end

theorem blk_zeroR (w : World) : Blk (w.alloc (.cells #[.int .u8 0, .int .u8 0, .int .u8 0, .int .u8 0, .int .u8 0, .int .u8 0, .int .u8 0, .int .u8 0, .int .u8 0, .int .u8 0, .int .u8 0, .int .u8 0, .int .u8 0, .int .u8 0, .int .u8 0, .int .u8 0, .int .u8 0, .int .u8 0, .int .u8 0, .int .u8 0, .int .u8 0, .int .u8 0, .int .u8 0, .int .u8 0, .int .u8 0, .int .u8 0, .int .u8 0, .int .u8 0, .int .u8 0, .int .u8 0, .int .u8 0, .int .u8 0] 24)) w.heap.size 24 (bv zero32) := Blk.new w _ (bv zero32).toArray
theorem zero32_len : zero32.length = 32 := by simp [zero32]

set_option maxHeartbeats 4000000 in
theorem refplace_any (w : World) (F : List Nat) (b : Nat) (t : List Nd) (most : Int) (r : List UInt8) (h : Ref w F b t most) (hr : r.length = 32) :
    Calls Try.prog 32 #[.pointer (some ⟨b, 0, none⟩), .agg (bv r).toArray] w fun e w' => e = .returned (.int .i64 (plc t r)) ∧ Below w.heap.size w w' := by
  obtain ⟨a1, a2, a3, k1, k2, k3, g1, g2, g3, o1, o2, o3, h⟩ := h.open
  have hb1 : Below w.heap.size w (w.alloc (.cells (bv r).toArray 24)) := (Below.refl _ w).alloc (Nat.le_refl _) _
  have HB := Lib.hid hb1
  have HX := Lib.hid (Blk.new w 24 (bv r).toArray)
  have H1 := Lib.hid (h.below hb1)
  obtain ⟨X, hX⟩ : ∃ X, X = w.heap.size := ⟨_, rfl⟩
  have HG := Lib.hid h.good
  have HNN := Lib.hid (show t.length ≤ 256 by have h1 := h.good.room; have h2 := h.good.most256; omega)
  obtain ⟨N, hN⟩ : ∃ N, N = t.length := ⟨_, rfl⟩
  have HN := Lib.hid hN
  clear hb1 h
  go_enter Try.func32, Try.ntmps32
  go_upto_region 1 with fail
  rw [← hX] at HX ⊢
  generalize w.alloc (.cells (bv r).toArray 24) = w1 at HB HX H1 ⊢
  clear hX
  have c0 := H1.out.cell0
  rw [← hN] at c0
  clear hN
  go_wp2_with fail
  go_loopw [12] (fun i wr => ∃ k : Nat, k ≤ N ∧ i = .int .i64 k ∧ Hid (∀ j n, j < k → t[j]? = some n → (n.1 == r) = false) ∧ Hid (Below w1.heap.size w1 wr)) (fun i _ => N - (intOf i).toNat)
  case atStart => exact ⟨0, Nat.zero_le _, rfl, Lib.hid (fun j n hj => absurd hj (Nat.not_lt_zero j)), Lib.hid (Below.refl _ _)⟩
  case round =>
    obtain ⟨k, hk, rfl, HQ, HR⟩ := hrel
    by_cases hlt : k < N
    · obtain ⟨n, hn⟩ : ∃ n, t[k]? = some n := ⟨_, List.getElem?_eq_getElem (by rw [← HN.out]; exact hlt)⟩
      obtain ⟨ha, hc⟩ := (H1.out.l1.below HR.out).name HG.out.rts (rs_at hn)
      subst ha
      have hnl : n.1.length = 32 := HG.out.nds n (List.mem_of_getElem? hn)
      have HNL := Lib.hid hnl
      have HC := Lib.hid (show ∀ j v, (bv n.1)[j]? = some v → (wr.alloc (.cells #[.int .u8 0, .int .u8 0, .int .u8 0, .int .u8 0, .int .u8 0, .int .u8 0, .int .u8 0, .int .u8 0, .int .u8 0, .int .u8 0, .int .u8 0, .int .u8 0, .int .u8 0, .int .u8 0, .int .u8 0, .int .u8 0, .int .u8 0, .int .u8 0, .int .u8 0, .int .u8 0, .int .u8 0, .int .u8 0, .int .u8 0, .int .u8 0, .int .u8 0, .int .u8 0, .int .u8 0, .int .u8 0, .int .u8 0, .int .u8 0, .int .u8 0, .int .u8 0] 24)).cell? ⟨g1, o1 + k * 32 + j, none⟩ = some v from fun j v hj => by
        have h5 := hc j v hj
        rw [← h5]
        exact Below.cell (B := wr.heap.size) ((Below.refl _ _).alloc (Nat.le_refl _) _) (World.block_lt_of_cell? wr _ h5))
      have HC0 := Lib.hid hc
      have HZ := Lib.hid (blk_zeroR wr)
      have HZL := Lib.hid zero32_len
      have HV := Lib.hid (HZ.out.setRow (bv n.1)).rootAll
      have hb5 : Below w1.heap.size w1 ((wr.alloc (.cells #[.int .u8 0, .int .u8 0, .int .u8 0, .int .u8 0, .int .u8 0, .int .u8 0, .int .u8 0, .int .u8 0, .int .u8 0, .int .u8 0, .int .u8 0, .int .u8 0, .int .u8 0, .int .u8 0, .int .u8 0, .int .u8 0, .int .u8 0, .int .u8 0, .int .u8 0, .int .u8 0, .int .u8 0, .int .u8 0, .int .u8 0, .int .u8 0, .int .u8 0, .int .u8 0, .int .u8 0, .int .u8 0, .int .u8 0, .int .u8 0, .int .u8 0, .int .u8 0] 24)).setRow wr.heap.size (bv n.1).toArray) := below_row (HR.out.alloc HR.out.size _) HR.out.size _
      have HB5 := Lib.hid hb5
      have HXA := Lib.hid (HX.out.below hb5 HX.out.lt).rootAll
      have hq := root_eqW ((wr.alloc (.cells #[.int .u8 0, .int .u8 0, .int .u8 0, .int .u8 0, .int .u8 0, .int .u8 0, .int .u8 0, .int .u8 0, .int .u8 0, .int .u8 0, .int .u8 0, .int .u8 0, .int .u8 0, .int .u8 0, .int .u8 0, .int .u8 0, .int .u8 0, .int .u8 0, .int .u8 0, .int .u8 0, .int .u8 0, .int .u8 0, .int .u8 0, .int .u8 0, .int .u8 0, .int .u8 0, .int .u8 0, .int .u8 0, .int .u8 0, .int .u8 0, .int .u8 0, .int .u8 0] 24)).setRow wr.heap.size (bv n.1).toArray) n.1 r hnl hr
      obtain ⟨q, hqe⟩ : ∃ q, (n.1 == r) = q := ⟨_, rfl⟩
      have HQE := Lib.hid hqe
      have HTN := Lib.hid hn
      rw [hqe] at hq
      clear hqe hn hb5 hc
      cases q with
      | true =>
        go_wp2_with (first
          | ((with_reducible refine wpList_load_name (.tmp 15) ?_ ?_ g1 (o1 + k * 32) n.1 ?_ hnl HC0.out ?_); rfl; rfl; rfl)
          | ((with_reducible refine wpList_load_name (.tmp 15) ?_ ?_ g1 (o1 + k * 32) n.1 ?_ hnl HC.out ?_); rfl; rfl; rfl)
          | ((with_reducible refine wpList_store_name (.tmp 6) (.tmp 16) ?_ ?_ wr.heap.size zero32 n.1 ?_ ?_ HZ.out HZL.out hnl ?_); rfl; rfl; rfl; rfl)
          | ((with_reducible refine wpList_load_name (.tmp 6) ?_ ?_ wr.heap.size 0 n.1 ?_ hnl HV.out ?_); rfl; rfl; rfl)
          | ((with_reducible refine wpList_load_name (.tmp 3) ?_ ?_ X 0 r ?_ hr HXA.out ?_); rfl; rfl; rfl))
        go_ret
        exact ⟨by rw [← eq_of_beq HQE.out, HG.out.plc_at HTN.out]; rfl, HB.out.trans (HB5.out.mono HB.out.size)⟩
      | false =>
        have HW := Lib.hid (show wrap64 ((k : Int) + 1) = (k : Int) + 1 by have := HNN.out; have := HN.out; unfold wrap64; omega)
        have HQ2 := Lib.hid (show ∀ j m, j < k + 1 → t[j]? = some m → (m.1 == r) = false from fun j m hj hm => by
          by_cases hjk : j < k
          · exact HQ.out j m hjk hm
          · obtain rfl : j = k := by omega
            rw [HTN.out] at hm; cases hm; exact HQE.out)
        have hl256 := HNN.out
        rw [← HN.out] at hl256
        go_wp2_with (first
          | ((with_reducible refine wpList_load_name (.tmp 15) ?_ ?_ g1 (o1 + k * 32) n.1 ?_ hnl HC0.out ?_); rfl; rfl; rfl)
          | ((with_reducible refine wpList_load_name (.tmp 15) ?_ ?_ g1 (o1 + k * 32) n.1 ?_ hnl HC.out ?_); rfl; rfl; rfl)
          | ((with_reducible refine wpList_store_name (.tmp 6) (.tmp 16) ?_ ?_ wr.heap.size zero32 n.1 ?_ ?_ HZ.out HZL.out hnl ?_); rfl; rfl; rfl; rfl)
          | ((with_reducible refine wpList_load_name (.tmp 6) ?_ ?_ wr.heap.size 0 n.1 ?_ hnl HV.out ?_); rfl; rfl; rfl)
          | ((with_reducible refine wpList_load_name (.tmp 3) ?_ ?_ X 0 r ?_ hr HXA.out ?_); rfl; rfl; rfl))
        refine ⟨⟨k + 1, by omega, by go_num, HQ2, HB5⟩, ?_⟩
        exact meas N k _ (by first | rfl | omega | (rw [HW.out]; omega)) hlt
    · obtain rfl : k = N := by omega
      have HP := Lib.hid (show plc t r = -1 from plc_none fun hm => by
        obtain ⟨m, hm1, hm2⟩ := List.mem_map.1 hm
        obtain ⟨j, hj⟩ := List.getElem?_of_mem hm1
        have := HQ.out j m (by rw [HN.out]; exact (List.getElem?_eq_some_iff.1 hj).1) hj
        rw [hm2] at this
        simp at this)
      go_wp2_with fail
      go_ret
      exact ⟨by rw [HP.out]; rfl, HB.out.trans (HR.out.mono HB.out.size)⟩
end Go.Proofs.Ytjodhagjfjgbcaa

/-
  The document's own tree: its Name, Up, Same.
-/
namespace Go.Proofs.Ytjodhagjfjgbcaa
open Go Go.RowKit
set_option maxRecDepth 10000

/-- A small number's byte. -/
def byteOf (n : Int) : UInt8 := UInt8.ofNat (n % 256).toNat
theorem byteOf_int (n : Int) : ((byteOf n).toNat : Int) = n % 256 := by
  have h1 := Int.emod_nonneg n (show (256 : Int) ≠ 0 by decide)
  have h2 := Int.emod_lt_of_pos n (show (0 : Int) < 256 by decide)
  unfold byteOf
  rw [UInt8.toNat_ofNat']
  omega
/-- A number's name. -/
def nmN (n : Int) : List UInt8 := (zero32.set 0 (byteOf n)).set 31 (byteOf (7 * n))
theorem nmN_len (n : Int) : (nmN n).length = 32 := by simp [nmN, zero32]
theorem nmN_at0 (n : Int) : (nmN n)[0]? = some (byteOf n) := by simp [nmN, zero32]
theorem nmN_inj {m n : Int} (h : nmN m = nmN n) (h0 : 0 ≤ m) (h1 : m < 256) (h2 : 0 ≤ n) (h3 : n < 256) : m = n := by
  have h4 := congrArg (fun l => l[0]?) h
  simp only [nmN_at0, Option.some.injEq] at h4
  have h5 := byteOf_int m
  have h6 := byteOf_int n
  rw [h4, h6] at h5
  omega
theorem bv_setN (l : List UInt8) (j : Nat) (c : UInt8) : (bv l).set j (.int .u8 (c.toNat : Int)) = bv (l.set j c) := by simp [bv, List.map_set]

theorem name_any (w : World) (n : Int) : Calls Try.prog 12 #[.int .i64 n] w fun e w' => e = .returned (.agg (bv (nmN n)).toArray) ∧ Below w.heap.size w w' := by
  have HZ := Lib.hid ((blk_zeroR w).alloc (.cells #[.int .u8 0, .int .u8 0, .int .u8 0, .int .u8 0, .int .u8 0, .int .u8 0, .int .u8 0, .int .u8 0, .int .u8 0, .int .u8 0, .int .u8 0, .int .u8 0, .int .u8 0, .int .u8 0, .int .u8 0, .int .u8 0, .int .u8 0, .int .u8 0, .int .u8 0, .int .u8 0, .int .u8 0, .int .u8 0, .int .u8 0, .int .u8 0, .int .u8 0, .int .u8 0, .int .u8 0, .int .u8 0, .int .u8 0, .int .u8 0, .int .u8 0, .int .u8 0] 24))
  have hy := blk_zeroR (w.alloc (.cells #[.int .u8 0, .int .u8 0, .int .u8 0, .int .u8 0, .int .u8 0, .int .u8 0, .int .u8 0, .int .u8 0, .int .u8 0, .int .u8 0, .int .u8 0, .int .u8 0, .int .u8 0, .int .u8 0, .int .u8 0, .int .u8 0, .int .u8 0, .int .u8 0, .int .u8 0, .int .u8 0, .int .u8 0, .int .u8 0, .int .u8 0, .int .u8 0, .int .u8 0, .int .u8 0, .int .u8 0, .int .u8 0, .int .u8 0, .int .u8 0, .int .u8 0, .int .u8 0] 24))
  rw [show (w.alloc (.cells #[.int .u8 0, .int .u8 0, .int .u8 0, .int .u8 0, .int .u8 0, .int .u8 0, .int .u8 0, .int .u8 0, .int .u8 0, .int .u8 0, .int .u8 0, .int .u8 0, .int .u8 0, .int .u8 0, .int .u8 0, .int .u8 0, .int .u8 0, .int .u8 0, .int .u8 0, .int .u8 0, .int .u8 0, .int .u8 0, .int .u8 0, .int .u8 0, .int .u8 0, .int .u8 0, .int .u8 0, .int .u8 0, .int .u8 0, .int .u8 0, .int .u8 0, .int .u8 0] 24)).heap.size = w.heap.size + 1 by simp] at hy
  have HY := Lib.hid hy
  have HB := Lib.hid (show Below w.heap.size w ((w.alloc (.cells #[.int .u8 0, .int .u8 0, .int .u8 0, .int .u8 0, .int .u8 0, .int .u8 0, .int .u8 0, .int .u8 0, .int .u8 0, .int .u8 0, .int .u8 0, .int .u8 0, .int .u8 0, .int .u8 0, .int .u8 0, .int .u8 0, .int .u8 0, .int .u8 0, .int .u8 0, .int .u8 0, .int .u8 0, .int .u8 0, .int .u8 0, .int .u8 0, .int .u8 0, .int .u8 0, .int .u8 0, .int .u8 0, .int .u8 0, .int .u8 0, .int .u8 0, .int .u8 0] 24)).alloc (.cells #[.int .u8 0, .int .u8 0, .int .u8 0, .int .u8 0, .int .u8 0, .int .u8 0, .int .u8 0, .int .u8 0, .int .u8 0, .int .u8 0, .int .u8 0, .int .u8 0, .int .u8 0, .int .u8 0, .int .u8 0, .int .u8 0, .int .u8 0, .int .u8 0, .int .u8 0, .int .u8 0, .int .u8 0, .int .u8 0, .int .u8 0, .int .u8 0, .int .u8 0, .int .u8 0, .int .u8 0, .int .u8 0, .int .u8 0, .int .u8 0, .int .u8 0, .int .u8 0] 24)) from ((Below.refl _ w).alloc (Nat.le_refl _) _).alloc (by simp) _)
  have HL := Lib.hid zero32_len
  have HM := Lib.hid (nmN_len n)
  obtain ⟨R, hR⟩ : ∃ R, R = w.heap.size := ⟨_, rfl⟩
  obtain ⟨Y, hY⟩ : ∃ Y, Y = w.heap.size + 1 := ⟨_, rfl⟩
  have HRY := Lib.hid (show R ≠ Y ∧ w.heap.size ≤ R ∧ w.heap.size ≤ Y by omega)
  clear hy
  go_enter Try.func12, Try.ntmps12
  go_upto_region 2 with fail
  rw [← hY] at HY ⊢
  rw [← hR] at HZ ⊢
  generalize (w.alloc (.cells _ 24)).alloc (.cells _ 24) = w1 at HZ HY HB ⊢
  clear hR hY
  have e0 : IntKind.u8.wrap n = ((byteOf n).toNat : Int) := by rw [byteOf_int]; simp [IntKind.wrap, IntKind.signed, IntKind.bits]
  have e7 : IntKind.u8.wrap (wrap64 (7 * n)) = ((byteOf (7 * n)).toNat : Int) := by
    rw [byteOf_int]
    simp only [IntKind.wrap, IntKind.signed, IntKind.bits]
    unfold wrap64
    simp
    omega
  have q0 := HY.out.cell 0
  have q31 := HY.out.cell 31
  have f0 := HY.out.free 0
  have f31 := HY.out.free 31
  have HY2 := Lib.hid (show Blk ((w1.setCell ⟨Y, 0, none⟩ (.int .u8 ((byteOf n).toNat : Int))).setCell ⟨Y, 31, none⟩ (.int .u8 ((byteOf (7 * n)).toNat : Int))) Y 24 (bv (nmN n)) by
    have := (HY.out.set 0 (.int .u8 ((byteOf n).toNat : Int))).set 31 (.int .u8 ((byteOf (7 * n)).toNat : Int))
    rw [bv_setN, bv_setN] at this
    exact this)
  have HR2 := Lib.hid ((HZ.out.other ⟨Y, 0, none⟩ (.int .u8 ((byteOf n).toNat : Int)) HRY.out.1).other ⟨Y, 31, none⟩ (.int .u8 ((byteOf (7 * n)).toNat : Int)) HRY.out.1)
  have HA2 := Lib.hid HY2.out.rootAll
  go_wp2_with (first
    | ((with_reducible refine wpList_load_name (.tmp 3) ?_ ?_ Y 0 (nmN n) ?_ HM.out HA2.out ?_); rfl; rfl; rfl)
    | ((with_reducible refine wpList_store_name (.tmp 2) (.tmp 11) ?_ ?_ R zero32 (nmN n) ?_ ?_ HR2.out HL.out HM.out ?_); rfl; rfl; rfl; rfl))
  refine ret_name rfl rfl (HR2.out.setRow (bv (nmN n))) HM.out rfl ⟨rfl, below_row ((HB.out.setCell (by exact HRY.out.2.2) _).setCell (by exact HRY.out.2.2) _) (by exact HRY.out.2.1) _⟩

theorem refup_any (w : World) (F : List Nat) (b : Nat) (t : List Nd) (most : Int) (i : Int) (h : Ref w F b t most) :
    Calls Try.prog 20 #[.pointer (some ⟨b, 0, none⟩), .int .i64 i] w fun e w' => e = .returned (.int .i64 (nodeOr t i).2.2) ∧ Below w.heap.size w w' := by
  have H1 := Lib.hid h
  obtain ⟨a1, a2, a3, k1, k2, k3, g1, g2, g3, o1, o2, o3, h⟩ := h.open
  have HG := Lib.hid h.good
  have c0 := h.cell0
  have c2 := h.cell2
  by_cases h0 : i ≤ 0
  · have HA := Lib.hid (show (nodeOr t i).2.2 = -1 by
      by_cases h1 : i < 0
      · rw [nodeOr, nodeAt_neg h1]; rfl
      · obtain rfl : i = ((0 : Nat) : Int) := by omega
        have h2 : t[0]? = some (t[0]'HG.out.pos) := List.getElem?_eq_getElem HG.out.pos
        rw [nodeOr, nodeAt_nat, h2]
        exact HG.out.fst _ h2)
    clear h
    go_enter Try.func20, Try.ntmps20
    go_wp2_with fail
    go_ret
    exact ⟨by rw [HA.out]; rfl, Below.refl _ _⟩
  · by_cases h1 : (t.length : Int) ≤ i
    · have HA := Lib.hid (show (nodeOr t i).2.2 = -1 by
        obtain ⟨k, rfl⟩ : ∃ k : Nat, i = (k : Int) := ⟨i.toNat, by omega⟩
        rw [nodeOr, nodeAt_nat, List.getElem?_eq_none (by omega)]; rfl)
      clear h
      go_enter Try.func20, Try.ntmps20
      go_wp2_with fail
      go_ret
      exact ⟨by rw [HA.out]; rfl, Below.refl _ _⟩
    · obtain ⟨k, rfl⟩ : ∃ k : Nat, i = ((k + 1 : Nat) : Int) := ⟨i.toNat - 1, by omega⟩
      obtain ⟨n, hn⟩ : ∃ n, t[k + 1]? = some n := ⟨_, List.getElem?_eq_getElem (by omega)⟩
      have HA := Lib.hid (show (nodeOr t ((k + 1 : Nat) : Int)).2.2 = plc t (pnm t n.2.2) by
        rw [nodeOr, nodeAt_nat, hn]; exact (HG.out.plc_pnm hn).symm)
      obtain ⟨ha, hc⟩ := h.l3.name HG.out.pns_len (pns_at hn)
      subst ha
      have HPL := Lib.hid (HG.out.pnm_len n.2.2)
      have HC := Lib.hid hc
      have HPC := Lib.hid (refplace_any w F b t most (pnm t n.2.2) H1.out HPL.out)
      obtain ⟨K, hK⟩ : ∃ K, K = k + 1 := ⟨_, rfl⟩
      rw [← hK] at HC HA h0 h1 ⊢
      have hKl : K < t.length := by rw [hK]; exact (List.getElem?_eq_some_iff.1 hn).1
      clear h hc hn hK
      go_enter Try.func20, Try.ntmps20
      go_wp2_with ((with_reducible refine wpList_load_name (.tmp 22) ?_ ?_ g3 (o3 + K * 32) (pnm t n.2.2) ?_ HPL.out HC.out ?_); rfl; rfl; rfl)
      refine HPC.out.mono ?_
      rintro e w2 ⟨rfl, hb⟩
      have HB := Lib.hid hb
      clear hb
      go_wp2_with fail
      go_ret
      exact ⟨by rw [HA.out]; rfl, HB.out⟩

end Go.Proofs.Ytjodhagjfjgbcaa
