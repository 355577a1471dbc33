/-
  The texts Pair11, Begun11, one behind the other.
-/
import Derived.Test.YtpamifdcbnkcdaaTurnsM14
/-
  A tree, its weights, and the document's tree and weights, side by side: what each call leaves of all.
-/
namespace Go.Proofs.Ytpamifdcbnkcdaa
open Go Go.RowKit
set_option maxRecDepth 10000

theorem pnm_grow {t u : List Nd} (h : t <+: u) {k : Nat} (hk : k < t.length) : pnm u (k : Int) = pnm t (k : Int) := by
  obtain ⟨r, rfl⟩ := h
  simp only [pnm, nodeAt_nat, List.getElem?_append_left hk]
theorem Good.bsN_grow {t u : List Nd} {most : Int} (G : Good t most) (h : t <+: u) {own : List Int} (ho : own.length ≤ t.length) (i : Nat) : ∀ n : Nat, n ≤ t.length → bsN u own i n = bsN t own i n
  | 0, _ => rfl
  | n + 1, hn => by
    have ih := Good.bsN_grow G h ho i n (by omega)
    rw [bsN, bsN, ih, parW_grow h (show n < t.length by omega)]
    split
    · unfold nxW
      rcases G.bsN_is own i n (by omega) with ⟨h1, _⟩ | ⟨q, h1, ⟨h2, _⟩, _⟩
      · rw [if_pos (by omega), if_pos (by omega)]
      · rw [h1, Int.toNat_natCast]
        unfold btW
        rw [G.wtW_grow h ho, G.wtW_grow h ho, pnm_grow h (show q < t.length by omega), pnm_grow h (show n < t.length by omega)]
    · rfl
theorem Good.bssL_grow {t u : List Nd} {most : Int} (G : Good t most) (h : t <+: u) {own : List Int} (ho : own.length ≤ t.length) : bssL u own = bssL t own := List.map_congr_left fun i _ => G.bsN_grow h ho i _ ho
theorem Good.wtsL_grow {t u : List Nd} {most : Int} (G : Good t most) (h : t <+: u) {own : List Int} (ho : own.length ≤ t.length) : wtsL u own = wtsL t own := List.map_congr_left fun i _ => G.wtW_grow h ho i
theorem prefix_len {t u : List Nd} (h : t <+: u) : t.length ≤ u.length := h.length_le
theorem WgtG.grow {w : World} {F : List Nat} {b tb : Nat} {t u : List Nd} {own : List Int} {most : Int} (h : WgtG w F b tb t own) (G : Good t most) (hp : t <+: u) : WgtG w F b tb u own :=
  ⟨h.1, Nat.le_trans h.2.1 (prefix_len hp), h.2.2.1, by rw [G.wtsL_grow hp h.2.1, G.bssL_grow hp h.2.1]; exact h.2.2.2⟩

structure PBody (B : Nat) (K : List Nat) (w : World) (tb wb mb rb : Nat) (tx ty : List Nd) (ox oy : List Int) (G F M R : List Nat) : Prop where
  tre : Tre w G tb tx 256
  wgt : WgtG w F wb tb tx ox
  ref : Ref w M mb ty 256
  rw : RWk w R rb mb oy oy.length
  og : OwnG oy
  ol : oy.length ≤ ty.length
  hG : High B G
  hF : High B F
  hM : High B M
  hR : High B R
  aGF : Away G F
  aGM : Away G M
  aGR : Away G R
  aFM : Away F M
  aFR : Away F R
  aMR : Away M R
  kG : Away K G
  kF : Away K F
  kM : Away K M
  kR : Away K R
/-- All four, at these trees and own weights; K: blocks that are none of theirs. -/
structure PSX (B : Nat) (K : List Nat) (w : World) (tb wb mb rb : Nat) (tx ty : List Nd) (ox oy : List Int) : Prop where
  body : ∃ G F M R, PBody B K w tb wb mb rb tx ty ox oy G F M R
  low : Low w K
  size : B ≤ w.heap.size
def Held4 (K : List Nat) (w w' : World) : Prop := ∀ k ∈ K, w'.heap[k]? = w.heap[k]?
section
variable {B : Nat} {K : List Nat} {w w' : World} {tb wb mb rb : Nat} {tx ty : List Nd} {ox oy : List Int}
theorem PSX.below (h : PSX B K w tb wb mb rb tx ty ox oy) (hb : Below w.heap.size w w') : PSX B K w' tb wb mb rb tx ty ox oy := by
  obtain ⟨⟨G, F, M, R, h⟩, hl, hs⟩ := h
  exact ⟨⟨G, F, M, R, { h with tre := h.tre.below hb, wgt := h.wgt.below hb, ref := h.ref.below hb, rw := h.rw.below hb }⟩, hl.keep hb.size, Nat.le_trans hs hb.size⟩
theorem PSX.more (h : PSX B K w tb wb mb rb tx ty ox oy) (hb : Below w.heap.size w w') {K' : List Nat} (h1 : ∀ k ∈ K', w.heap.size ≤ k) (h2 : Low w' K') : PSX B (K' ++ K) w' tb wb mb rb tx ty ox oy := by
  obtain ⟨⟨G, F, M, R, h⟩, hl, hs⟩ := h
  have away : ∀ {Z : List Nat}, Low w Z → Away K Z → Away (K' ++ K) Z := fun hz hk x hx hm => by
    rcases List.mem_append.1 hx with hx | hx
    · have := h1 x hx; have := hz x hm; omega
    · exact hk x hx hm
  refine ⟨⟨G, F, M, R, { h with tre := h.tre.below hb, wgt := h.wgt.below hb, ref := h.ref.below hb, rw := h.rw.below hb, kG := away h.tre.low h.kG, kF := away h.wgt.low h.kF, kM := away h.ref.low h.kM, kR := away h.rw.low h.kR }⟩, fun x hx => ?_, Nat.le_trans hs hb.size⟩
  rcases List.mem_append.1 hx with hx | hx
  · exact h2 x hx
  · exact Nat.lt_of_lt_of_le (hl x hx) hb.size
theorem PSX.drop (K' : List Nat) (h : PSX B (K' ++ K) w tb wb mb rb tx ty ox oy) : PSX B K w tb wb mb rb tx ty ox oy := by
  obtain ⟨⟨G, F, M, R, h⟩, hl, hs⟩ := h
  exact ⟨⟨G, F, M, R, { h with kG := fun x hx => h.kG x (List.mem_append_right _ hx), kF := fun x hx => h.kF x (List.mem_append_right _ hx), kM := fun x hx => h.kM x (List.mem_append_right _ hx), kR := fun x hx => h.kR x (List.mem_append_right _ hx) }⟩, fun x hx => hl x (List.mem_append_right _ hx), hs⟩
theorem Held4.of_below (hl : Low w K) (hb : Below w.heap.size w w') : Held4 K w w' := fun k hk => hb.block k (hl k hk)
theorem Held4.trans {w'' : World} (h : Held4 K w w') (k : Held4 K w' w'') : Held4 K w w'' := fun x hx => (k x hx).trans (h x hx)
theorem Held4.sub {K' : List Nat} (h : Held4 (K' ++ K) w w') : Held4 K w w' := fun x hx => h x (List.mem_append_right _ hx)
theorem Held4.blk {k : Nat} {ty : TypeId} {vs : List Value} (h : Held4 K w w') (hb : Blk w k ty vs) (hk : k ∈ K) : Blk w' k ty vs := (h k hk).trans hb
theorem PSX.good (h : PSX B K w tb wb mb rb tx ty ox oy) : Good tx 256 := by obtain ⟨⟨G, F, M, R, h⟩, _, _⟩ := h; exact h.tre.1
theorem PSX.goodY (h : PSX B K w tb wb mb rb tx ty ox oy) : Good ty 256 := by obtain ⟨⟨G, F, M, R, h⟩, _, _⟩ := h; exact h.ref.1
theorem PSX.ownG (h : PSX B K w tb wb mb rb tx ty ox oy) : OwnG ox ∧ ox.length ≤ tx.length ∧ 0 < ox.length := by obtain ⟨⟨G, F, M, R, h⟩, _, _⟩ := h; exact ⟨h.wgt.1, h.wgt.2.1, h.wgt.2.2.1⟩

theorem PSX.add (h : PSX B K w tb wb mb rb tx ty ox oy) (r p : List UInt8) (s : Int) (hr : r.length = 32) (hp : p.length = 32) :
    Calls Try.prog 28 #[.pointer (some ⟨tb, 0, none⟩), .agg (bv r).toArray, .agg (bv p).toArray, .int .i64 s] w fun e w' => e = .returned (.int .i64 (addT 256 tx r p s).1) ∧ PSX B K w' tb wb mb rb (addT 256 tx r p s).2 ty ox oy ∧ Below B w w' ∧ Held4 K w w' := by
  obtain ⟨⟨G, F, M, R, h⟩, hl, hs⟩ := h
  refine (add_any w G tb tx 256 r p s h.tre hr hp).mono ?_
  rintro e w' ⟨he, G', ht, hk, hn⟩
  have lF := h.wgt.low
  have lM := h.ref.low
  have lR := h.rw.low
  refine ⟨he, ⟨⟨G', F, M, R, { h with tre := ht, wgt := (h.wgt.keep hk h.aGF.symm).grow h.tre.1 (addT_prefix 256 tx r p s), ref := h.ref.keep hk h.aGM.symm, rw := h.rw.keep hk h.aGR.symm, hG := h.hG.new hn hs, aGF := h.aGF.new hn lF, aGM := h.aGM.new hn lM, aGR := h.aGR.new hn lR, kG := h.kG.new' hn hl }⟩, hl.keep hk.size, Nat.le_trans hs hk.size⟩, hk.below hs h.hG, fun k hkk => hk.block k (hl k hkk) (h.kG k hkk)⟩
theorem PSX.refadd (h : PSX B K w tb wb mb rb tx ty ox oy) (r p : List UInt8) (s : Int) (hr : r.length = 32) (hp : p.length = 32) :
    Calls Try.prog 39 #[.pointer (some ⟨mb, 0, none⟩), .agg (bv r).toArray, .agg (bv p).toArray, .int .i64 s] w fun e w' => e = .returned (.int .i64 (addT 256 ty r p s).1) ∧ PSX B K w' tb wb mb rb tx (addT 256 ty r p s).2 ox oy ∧ Below B w w' ∧ Held4 K w w' := by
  obtain ⟨⟨G, F, M, R, h⟩, hl, hs⟩ := h
  refine (refadd_any w M mb ty 256 r p s h.ref hr hp).mono ?_
  rintro e w' ⟨he, M', ht, hk, hn⟩
  have lG := h.tre.low
  have lF := h.wgt.low
  have lR := h.rw.low
  refine ⟨he, ⟨⟨G, F, M', R, { h with tre := h.tre.keep hk h.aGM, wgt := h.wgt.keep hk h.aFM, ref := ht, rw := h.rw.keep hk h.aMR.symm, ol := Nat.le_trans h.ol (prefix_len (addT_prefix 256 ty r p s)), hM := h.hM.new hn hs, aGM := h.aGM.new' hn lG, aFM := h.aFM.new' hn lF, aMR := h.aMR.new hn lR, kM := h.kM.new' hn hl }⟩, hl.keep hk.size, Nat.le_trans hs hk.size⟩, hk.below hs h.hM, fun k hkk => hk.block k (hl k hkk) (h.kM k hkk)⟩
theorem PSX.apply (h : PSX B K w tb wb mb rb tx ty ox oy) (ds : List Dl) (dao : Option Addr) (dcap dg doff : Nat) (hD : Dls ds) (hdl : ds.length ≤ 1000) (hL : Lies w w.heap.size dao dg doff (dvs ds)) (hK : 0 < ds.length → dg ∈ K) :
    Calls Try.prog 12 #[.pointer (some ⟨wb, 0, none⟩), .slice dao ds.length dcap] w fun e w' => e = .returned (.int .i64 (appW tx ox ds).1) ∧ PSX B K w' tb wb mb rb tx ty (appW tx ox ds).2 oy ∧ Below B w w' ∧ Held4 K w w' := by
  obtain ⟨⟨G, F, M, R, h⟩, hl, hs⟩ := h
  refine (apply_any w G tb tx 256 F wb ox _ _ ds dao dcap dg doff h.tre h.wgt.2.2.2 h.aGF h.wgt.2.1 h.wgt.1 hD hdl hL (fun h0 => h.kF dg (hK h0))).mono ?_
  rintro e w' ⟨he, F', ht, hk, hn⟩
  have lG := h.tre.low
  have lM := h.ref.low
  have lR := h.rw.low
  refine ⟨he, ⟨⟨G, F', M, R, { h with tre := h.tre.keep hk h.aGF, wgt := ht, ref := h.ref.keep hk h.aFM.symm, rw := h.rw.keep hk h.aFR.symm, hF := h.hF.new hn hs, aGF := h.aGF.new' hn lG, aFM := h.aFM.new hn lM, aFR := h.aFR.new hn lR, kF := h.kF.new' hn hl }⟩, hl.keep hk.size, Nat.le_trans hs hk.size⟩, hk.below hs h.hF, fun k hkk => hk.block k (hl k hkk) (h.kF k hkk)⟩
theorem PSX.refapply (h : PSX B K w tb wb mb rb tx ty ox oy) (ds : List Dl) (dao : Option Addr) (dcap dg doff : Nat) (hD : Dls ds) (hdl : ds.length ≤ 1000) (hL : Lies w w.heap.size dao dg doff (dvs ds)) (hK : 0 < ds.length → dg ∈ K) :
    Calls Try.prog 40 #[.pointer (some ⟨rb, 0, none⟩), .slice dao ds.length dcap] w fun e w' => e = .returned (.int .i64 (appW ty oy ds).1) ∧ PSX B K w' tb wb mb rb tx ty ox (appW ty oy ds).2 ∧ Below B w w' ∧ Held4 K w w' := by
  obtain ⟨⟨G, F, M, R, h⟩, hl, hs⟩ := h
  refine (rapply_any w M mb ty 256 R rb oy ds dao dcap dg doff h.ref h.rw h.aMR h.ol h.og hD hdl hL (fun h0 => h.kR dg (hK h0))).mono ?_
  rintro e w' ⟨he, R', ht, hk, hn⟩
  have lG := h.tre.low
  have lF := h.wgt.low
  have lM := h.ref.low
  refine ⟨he, ⟨⟨G, F, M, R', { h with tre := h.tre.keep hk h.aGR, wgt := h.wgt.keep hk h.aFR, ref := h.ref.keep hk h.aMR, rw := ht, og := appW_ok h.og ty ds, ol := by rw [appW_length h.og h.ol]; exact Nat.le_refl _, hR := h.hR.new hn hs, aGR := h.aGR.new' hn lG, aFR := h.aFR.new' hn lF, aMR := h.aMR.new' hn lM, kR := h.kR.new' hn hl }⟩, hl.keep hk.size, Nat.le_trans hs hk.size⟩, hk.below hs h.hR, fun k hkk => hk.block k (hl k hkk) (h.kR k hkk)⟩
end
end Go.Proofs.Ytpamifdcbnkcdaa

/-
  begun: a tree of one block, its weights, and the document's of both.
-/
namespace Go.Proofs.Ytpamifdcbnkcdaa
open Go Go.RowKit
set_option maxRecDepth 10000

def root11 : List Nd := [(nmN 0, 0, -1)]
def prv (tb wb rb : Nat) : List Value := [.pointer (some ⟨tb, 0, none⟩), .pointer (some ⟨wb, 0, none⟩), .pointer (some ⟨rb, 0, none⟩)]
theorem Try.sizePair : (Try.prog.info? 37).map (·.size) = some 3 := by kernel_rfl
theorem Try.aggPair (w : World) : (isAgg 37).run Try.prog w = .ok true w := by
  unfold isAgg
  rw [Sem.run_bind, run_underlying Try.underlying37 w]
  rfl
theorem run_load_pair {w : World} {g tb wb rb : Nat} {ty : TypeId} (h : Blk w g ty (prv tb wb rb)) : (Instr.loadAt 37 (.pointer (some ⟨g, 0, none⟩))).run Try.prog w = .ok (.agg (prv tb wb rb).toArray) w :=
  run_loadAt_agg (g := g) (off := 0) (cs := prv tb wb rb) (fun j v hj => by rw [Nat.zero_add, h.cell]; exact hj) 37 Try.aggPair Try.sizePair
theorem ret_pair {fn : Func} {p : Tmp} (h : fn.results = #[.cell p 37]) {a : Act} {w : World} {g tb wb rb : Nat} (hp : a.tmps.getD p undef = .pointer (some ⟨g, 0, none⟩)) (hg : Blk w g 37 (prv tb wb rb)) (hd : a.defers = [])
    {R : Ending → World → Prop} (hR : R (.returned (.agg (prv tb wb rb).toArray)) w) : bodyPost Try.prog fn R .ret a w := by
  refine bodyPost_ret ?_ hd hR
  rw [results_cell h, hp]
  have hlo := run_load_pair hg
  simp only [Instr.loadAt, Instr.sureAddr, Sem.run_bind, Sem.run_pure, Result.andThen] at hlo
  simp only [asAddr, Sem.run_pure, Result.andThen_ok]
  rw [hlo]

set_option maxHeartbeats 4000000 in
theorem begun_any (w : World) : Calls Try.prog 16 #[] w fun e w' => ∃ tb wb mb rb, e = .returned (.agg (prv tb wb rb).toArray) ∧ PSX w.heap.size [] w' tb wb mb rb root11 root11 [0] [0] ∧ Below w.heap.size w w' := by
  have hb1 : Below w.heap.size w (w.alloc (.cells #[.pointer none, .pointer none, .pointer none] 37)) := (Below.refl _ w).alloc (Nat.le_refl _) _
  have HX := Lib.hid (Blk.new w 37 #[.pointer none, .pointer none, .pointer none])
  have HB := Lib.hid hb1
  obtain ⟨X, hX⟩ : ∃ X, X = w.heap.size := ⟨_, rfl⟩
  have HXE := Lib.hid (show w.heap.size ≤ X by omega)
  rw [← hX] at HX
  clear hb1
  go_enter Try.func16, Try.ntmps16
  go_upto_region 1 with fail
  rw [← hX]
  generalize w.alloc (.cells #[.pointer none, .pointer none, .pointer none] 37) = w1 at HX HB ⊢
  clear hX
  go_wp2_with fail
  refine (name_any w1 0).mono ?_
  rintro e w2 ⟨rfl, hbc⟩
  replace HX := Lib.hid (HX.out.below hbc HX.out.lt)
  replace HB := Lib.hid (HB.out.trans (hbc.mono HB.out.size))
  clear hbc
  go_wp2_with fail
  refine (new_ok w2 (nmN 0) 0 256 (nmN_len 0) (by decide) (by decide) (by decide) (by decide)).mono ?_
  rintro e w3 ⟨G, tb, rfl, ht, hg, hbc⟩
  have HXG := Lib.hid (show X ∉ G from fun hm => by have := hg X hm; have := HX.out.lt; omega)
  replace HX := Lib.hid (HX.out.below hbc HX.out.lt)
  have HT := Lib.hid (show Tre w3 G tb root11 256 from ht)
  have HHG := Lib.hid (hg.mono HB.out.size)
  replace HB := Lib.hid (HB.out.trans (hbc.mono HB.out.size))
  clear hbc ht hg
  go_wp2_with fail
  refine (name_any w3 0).mono ?_
  rintro e w4 ⟨rfl, hbc⟩
  replace HX := Lib.hid (HX.out.below hbc HX.out.lt)
  replace HT := Lib.hid (HT.out.below hbc)
  replace HB := Lib.hid (HB.out.trans (hbc.mono HB.out.size))
  clear hbc
  go_wp2_with fail
  refine (refnew_ok w4 (nmN 0) 0 256 (nmN_len 0) (by decide) (by decide) (by decide) (by decide)).mono ?_
  rintro e w5 ⟨M, mb, rfl, hm, hg, hbc⟩
  have HXM := Lib.hid (show X ∉ M from fun hm => by have := hg X hm; have := HX.out.lt; omega)
  replace HX := Lib.hid (HX.out.below hbc HX.out.lt)
  have HAGM := Lib.hid (Away.high HT.out.low hg)
  replace HT := Lib.hid (HT.out.below hbc)
  have HM := Lib.hid (show Ref w5 M mb root11 256 from hm)
  have HHM := Lib.hid (hg.mono HB.out.size)
  replace HB := Lib.hid (HB.out.trans (hbc.mono HB.out.size))
  clear hbc hm hg
  go_wp2_with fail
  refine (wnew_any w5 G tb root11 256 HT.out).mono ?_
  rintro e w6 ⟨F, wb, rfl, hw, hg, hbc⟩
  have HXF2 := Lib.hid (show X ∉ F from fun hm => by have := hg X hm; have := HX.out.lt; omega)
  replace HX := Lib.hid (HX.out.below hbc HX.out.lt)
  have HAGF := Lib.hid (Away.high HT.out.low hg)
  have HAMF := Lib.hid (Away.high HM.out.low hg)
  replace HT := Lib.hid (HT.out.below hbc)
  replace HM := Lib.hid (HM.out.below hbc)
  have HW := Lib.hid (show WgtG w6 F wb tb root11 [0] from hw)
  have HHF := Lib.hid (hg.mono HB.out.size)
  replace HB := Lib.hid (HB.out.trans (hbc.mono HB.out.size))
  clear hbc hw hg
  go_wp2_with fail
  refine (rwnew_any w6 M mb root11 256 HM.out).mono ?_
  rintro e w7 ⟨R, rb, rfl, hr, hg, hbc⟩
  have HXR := Lib.hid (show X ∉ R from fun hm => by have := hg X hm; have := HX.out.lt; omega)
  replace HX := Lib.hid (HX.out.below hbc HX.out.lt)
  have HAGR := Lib.hid (Away.high HT.out.low hg)
  have HAMR := Lib.hid (Away.high HM.out.low hg)
  have HAFR := Lib.hid (Away.high HW.out.low hg)
  replace HT := Lib.hid (HT.out.below hbc)
  replace HM := Lib.hid (HM.out.below hbc)
  replace HW := Lib.hid (HW.out.below hbc)
  have HR := Lib.hid (show RWk w7 R rb mb [0] ([0] : List Int).length from hr)
  have HHR := Lib.hid (hg.mono HB.out.size)
  replace HB := Lib.hid (HB.out.trans (hbc.mono HB.out.size))
  clear hbc hr hg
  have HSP := Lib.hid (show splice [.pointer none, .pointer none, .pointer none] 0 (prv tb wb rb) = prv tb wb rb from splice_all _ _ rfl)
  have HXF := Lib.hid (HX.out.setRow (prv tb wb rb))
  have HBF := Lib.hid (below_row HB.out HXE.out (prv tb wb rb).toArray)
  have HI := Lib.hid (show (Try.prog.info? 37).map (·.size) = some (prv tb wb rb).length from Try.sizePair)
  have H1 := Lib.hid (show ∀ v ∈ prv tb wb rb, v.oneCell' = true from fun v hv => by simp [prv] at hv; rcases hv with rfl | rfl | rfl <;> rfl)
  have HL := Lib.hid (show 0 + (prv tb wb rb).length ≤ ([.pointer none, .pointer none, .pointer none] : List Value).length from Nat.le_refl _)
  go_wp2_with ((with_reducible refine wpList_store_part ?_ 37 (.tmp 0) (.tmp 20) ?_ X 0 (prv tb wb rb) ?_ ?_ 37 _ HX.out HI.out HL.out H1.out ?_); rfl; rfl; rfl; rfl; rw [HSP.out])
  refine ret_pair rfl rfl HXF.out rfl ?_
  have hk : Kept [X] w7 (w7.setRow X (prv tb wb rb).toArray) := (Kept.refl _ _).setRow (.inl (by simp)) _
  have ax : ∀ {Z : List Nat}, X ∉ Z → Away Z [X] := fun h x hx hm => by simp at hm; subst hm; exact h hx
  exact ⟨tb, wb, mb, rb, rfl, ⟨⟨G, F, M, R, ⟨HT.out.keep hk (ax HXG.out), HW.out.keep hk (ax HXF2.out), HM.out.keep hk (ax HXM.out), HR.out.keep hk (ax HXR.out), OwnG.none.zeros 1, Nat.le_refl _, HHG.out, HHF.out, HHM.out, HHR.out, HAGF.out, HAGM.out, HAGR.out, HAMF.out.symm, HAFR.out, HAMR.out, fun x hx => (by cases hx), fun x hx => (by cases hx), fun x hx => (by cases hx), fun x hx => (by cases hx)⟩⟩, fun x hx => (by cases hx), HBF.out.size⟩, HBF.out⟩
end Go.Proofs.Ytpamifdcbnkcdaa
