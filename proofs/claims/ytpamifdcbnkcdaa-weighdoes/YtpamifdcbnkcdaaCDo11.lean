/-
  The texts Do11, one behind the other.
-/
import Derived.Test.YtpamifdcbnkcdaaCBegun11
import Derived.Test.YtpamifdcbnkcdaaDoesM2
/-
  do: an act of both.
-/
namespace Go.Proofs.Ytpamifdcbnkcdaa
open Go Go.RowKit
set_option maxRecDepth 10000

/-- An act: kind, root, parent, slot, number, more. -/
structure Ac where
  k : Int
  r : Int
  p : Int
  s : Int
  n : Int
  m : Int
def acv (a : Ac) : List Value := [.int .i64 a.k, .int .i64 a.r, .int .i64 a.p, .int .i64 a.s, .int .i64 a.n, .int .i64 a.m]
def dlsA (a : Ac) : List Dl := if a.m = 0 then [(nmN a.r, a.n)] else [(nmN a.r, a.n), (nmN a.p, a.m)]
def doP (x : List Nd × List Int) (a : Ac) : List Nd × List Int := if a.k = 0 then ((addT 256 x.1 (nmN a.r) (nmN a.p) a.s).2, x.2) else (x.1, (appW x.1 x.2 (dlsA a)).2)

theorem PSX.refcell {B : Nat} {K : List Nat} {w : World} {tb wb mb rb : Nat} {tx ty : List Nd} {ox oy : List Int} (h : PSX B K w tb wb mb rb tx ty ox oy) : w.cell? ⟨rb, 0, none⟩ = some (.pointer (some ⟨mb, 0, none⟩)) := by
  obtain ⟨⟨G, F, M, R, h⟩, _, _⟩ := h
  obtain ⟨a1, c1, g1, o1, hs⟩ := h.rw.open
  exact hs.cell0
structure DM (B X Y gr gq : Nat) (K : List Nat) (w0 : World) (tb wb mb rb : Nat) (a : Ac) (ox oy : List Int) (tx ty : List Nd) (w : World) : Prop where
  psx : PSX B ([X, Y, gr, gq] ++ K) w tb wb mb rb tx ty ox oy
  hX : Blk w X 37 (prv tb wb rb)
  hY : Blk w Y 40 (acv a)
  hR : Blk w gr 24 (bv (nmN a.r))
  hP : Blk w gq 24 (bv (nmN a.p))
  kp : Held4 K w0 w
theorem DM.below {B X Y gr gq tb wb mb rb : Nat} {K : List Nat} {w0 : World} {a : Ac} {ox oy : List Int} {tx ty : List Nd} {w w' : World} (h : DM B X Y gr gq K w0 tb wb mb rb a ox oy tx ty w) (hb : Below w.heap.size w w') : DM B X Y gr gq K w0 tb wb mb rb a ox oy tx ty w' :=
  ⟨h.psx.below hb, h.hX.below hb h.hX.lt, h.hY.below hb h.hY.lt, h.hR.below hb h.hR.lt, h.hP.below hb h.hP.lt, h.kp.trans (Held4.of_below (fun k hk => h.psx.low k (List.mem_append_right _ hk)) hb)⟩
theorem DM.held {B X Y gr gq tb wb mb rb : Nat} {K : List Nat} {w0 : World} {a : Ac} {ox oy : List Int} {tx ty tx' ty' : List Nd} {w w' : World} (h : DM B X Y gr gq K w0 tb wb mb rb a ox oy tx ty w) (hk : Held4 ([X, Y, gr, gq] ++ K) w w') (hp : PSX B ([X, Y, gr, gq] ++ K) w' tb wb mb rb tx' ty' ox oy) : DM B X Y gr gq K w0 tb wb mb rb a ox oy tx' ty' w' :=
  ⟨hp, hk.blk h.hX (by simp), hk.blk h.hY (by simp), hk.blk h.hR (by simp), hk.blk h.hP (by simp), h.kp.trans hk.sub⟩
/-- .. with both rows of deltas. -/
structure DM2 (B X ga gb : Nat) (oa ob : Nat) (K : List Nat) (w0 : World) (tb wb mb rb : Nat) (t : List Nd) (ds : List Dl) (ox oy : List Int) (w : World) : Prop where
  psx : PSX B ([X, ga, gb] ++ K) w tb wb mb rb t t ox oy
  hX : Blk w X 37 (prv tb wb rb)
  la : Lies w w.heap.size (some ⟨ga, oa, none⟩) ga oa (dvs ds)
  lb : Lies w w.heap.size (some ⟨gb, ob, none⟩) gb ob (dvs ds)
  kp : Held4 K w0 w
theorem lies_held {K : List Nat} {w w' : World} {ao : Option Addr} {g off : Nat} {xs : List Value} (h : Lies w w.heap.size ao g off xs) (hk : Held4 K w w') (hg : g ∈ K) (hs : w.heap.size ≤ w'.heap.size) : Lies w' w'.heap.size ao g off xs :=
  ⟨h.addr, fun h0 => Nat.lt_of_lt_of_le (h.lt h0) hs, fun j u hj => (World.cell?_of_block (a := ⟨g, off + j, none⟩) (hk g hg)).trans (h.cells j u hj)⟩
theorem DM2.below {B X ga gb oa ob tb wb mb rb : Nat} {K : List Nat} {w0 : World} {t : List Nd} {ds : List Dl} {ox oy : List Int} {w w' : World} (h : DM2 B X ga gb oa ob K w0 tb wb mb rb t ds ox oy w) (hb : Below w.heap.size w w') : DM2 B X ga gb oa ob K w0 tb wb mb rb t ds ox oy w' :=
  ⟨h.psx.below hb, h.hX.below hb h.hX.lt, h.la.below hb, h.lb.below hb, h.kp.trans (Held4.of_below (fun k hk => h.psx.low k (List.mem_append_right _ hk)) hb)⟩
theorem DM2.held {B X ga gb oa ob tb wb mb rb : Nat} {K : List Nat} {w0 : World} {t : List Nd} {ds : List Dl} {ox oy ox' oy' : List Int} {w w' : World} (h : DM2 B X ga gb oa ob K w0 tb wb mb rb t ds ox oy w) (hk : Held4 ([X, ga, gb] ++ K) w w') (hs : w.heap.size ≤ w'.heap.size) (hp : PSX B ([X, ga, gb] ++ K) w' tb wb mb rb t t ox' oy') : DM2 B X ga gb oa ob K w0 tb wb mb rb t ds ox' oy' w' :=
  ⟨hp, hk.blk h.hX (by simp), lies_held h.la hk (by simp) hs, lies_held h.lb hk (by simp) hs, h.kp.trans hk.sub⟩
theorem dls_one (r : List UInt8) (n : Int) (h : r.length = 32) : Dls [(r, n)] := fun d hd => by simp at hd; rw [hd]; exact h
theorem dls_two (r p : List UInt8) (n m : Int) (h : r.length = 32) (k : p.length = 32) : Dls [(r, n), (p, m)] := fun d hd => by
  simp at hd
  rcases hd with rfl | rfl
  · exact h
  · exact k

set_option maxHeartbeats 16000000 in
theorem do_any (w : World) (B : Nat) (K : List Nat) (tb wb mb rb : Nat) (t : List Nd) (own : List Int) (a : Ac) (h : PSX B K w tb wb mb rb t t own own) :
    Calls Try.prog 17 #[.agg (prv tb wb rb).toArray, .agg (acv a).toArray] w fun e w' => e = .returned (.bool true) ∧ PSX B K w' tb wb mb rb (doP (t, own) a).1 (doP (t, own) a).1 (doP (t, own) a).2 (doP (t, own) a).2 ∧ Below B w w' ∧ Held4 K w w' := by
  have HPS := Lib.hid h
  have hb0 : Below w.heap.size w ((w.alloc (.cells (prv tb wb rb).toArray 37)).alloc (.cells (acv a).toArray 40)) := ((Below.refl _ w).alloc (Nat.le_refl _) _).alloc (by simp) _
  have HX := Lib.hid ((Blk.new w 37 (prv tb wb rb).toArray).alloc (.cells (acv a).toArray 40))
  have hy := Blk.new (w.alloc (.cells (prv tb wb rb).toArray 37)) 40 (acv a).toArray
  rw [World.size_alloc] at hy
  have HY := Lib.hid hy
  have HB := Lib.hid hb0
  obtain ⟨X, hX⟩ : ∃ X, X = w.heap.size := ⟨_, rfl⟩
  obtain ⟨Y, hY⟩ : ∃ Y, Y = w.heap.size + 1 := ⟨_, rfl⟩
  have HXY := Lib.hid (show X = w.heap.size ∧ Y = w.heap.size + 1 from ⟨hX, hY⟩)
  rw [← hX] at HX
  rw [← hY] at HY
  rw [List.toList_toArray] at HX HY
  clear hb0 hy h
  go_enter Try.func17, Try.ntmps17
  go_upto_region 1 with fail
  rw [← hY, ← hX]
  generalize (w.alloc (.cells (prv tb wb rb).toArray 37)).alloc (.cells (acv a).toArray 40) = w5 at HX HY HB ⊢
  clear hX hY
  refine wp_region_freeP (P := Try.prog) 8 6 7 (by decide) (by decide) (by decide) (fun w' => Below w5.heap.size w5 w') (fun oq v w' => match oq with
    | 0 => v = .pointer (some ⟨Y, 1, none⟩)
    | 1 => v = .int .i64 a.r
    | 2 => v = .agg (bv (nmN a.r)).toArray
    | 3 => v = .pointer (some ⟨Y, 2, none⟩)
    | 4 => v = .int .i64 a.p
    | 5 => v = .agg (bv (nmN a.p)).toArray
    | 6 => ∃ g, v = .pointer (some ⟨g, 0, none⟩) ∧ w5.heap.size ≤ g ∧ Blk w' g 24 (bv zero32)
    | 7 => ∃ g, v = .pointer (some ⟨g, 0, none⟩) ∧ w5.heap.size ≤ g ∧ Blk w' g 24 (bv zero32)
    | _ => True) (by kernel_rfl) (by kernel_rfl) (Below.refl _ _).drew ?gb ?vb ?n1 ?n2 ?steps ?fin
  case gb => exact fun a b h1 h2 => h1.trans (h2.mono h1.size)
  case vb =>
    intro oq v a b h hb
    match oq with
    | 0 => exact h
    | 1 => exact h
    | 2 => exact h
    | 3 => exact h
    | 4 => exact h
    | 5 => exact h
    | 6 =>
      obtain ⟨g, e, h1, h2⟩ := h
      exact ⟨g, e, h1, h2.below hb h2.lt⟩
    | 7 =>
      obtain ⟨g, e, h1, h2⟩ := h
      exact ⟨g, e, h1, h2.below hb h2.lt⟩
    | _ + 8 => trivial
  case n1 =>
    rintro v w ⟨g, e, _, h⟩
    exact ⟨g, e, h.lt⟩
  case n2 =>
    rintro v w ⟨g, e, _, h⟩
    exact ⟨g, e, h.lt⟩
  case steps =>
    intro vals
    simp only [List.take_succ_cons, List.take_zero, freeStepsP, Act.put, List.setIfInBounds_toArray, List.set_cons_zero, List.set_cons_succ, Nat.reduceAdd, Nat.reduceEqDiff, reduceIte]
    refine ⟨fun w8 hG hW => ?_, fun w8 hG hW => ?_, fun w8 hG hW => ?_, fun w8 hG hW => ?_, fun w8 hG hW => ?_, fun w8 hG hW => ?_, fun w8 hG hW => ?_, fun w8 hG hW => ?_, trivial⟩
    · clear hW
      refine stepAt_value rfl rfl rfl (.pointer (some ⟨Y, 1, none⟩)) w8 ?_ ⟨rfl, Below.refl _ _⟩
      go_simp
    · have q0 := hW 0 (by decide)
      simp only at q0
      rw [q0]
      clear hW
      refine stepAt_value rfl rfl rfl (.int .i64 a.r) w8 ?_ ⟨rfl, Below.refl _ _⟩
      have hh := ((HY.out.below hG HY.out.lt).cell 1)
      simp only [acv, List.getElem?_cons_succ, List.getElem?_cons_zero] at hh
      go_simp
    · have q1 := hW 1 (by decide)
      simp only at q1
      rw [q1]
      clear hW
      refine stepAt_call rfl rfl rfl 24 #[.int .i64 a.r] (by go_simp) ((name_any w8 a.r).mono fun e w' ⟨h1, h2⟩ => ⟨_, h1, rfl, h2⟩)
    · clear hW
      refine stepAt_value rfl rfl rfl (.pointer (some ⟨Y, 2, none⟩)) w8 ?_ ⟨rfl, Below.refl _ _⟩
      go_simp
    · have q3 := hW 3 (by decide)
      simp only at q3
      rw [q3]
      clear hW
      refine stepAt_value rfl rfl rfl (.int .i64 a.p) w8 ?_ ⟨rfl, Below.refl _ _⟩
      have hh := ((HY.out.below hG HY.out.lt).cell 2)
      simp only [acv, List.getElem?_cons_succ, List.getElem?_cons_zero] at hh
      go_simp
    · have q4 := hW 4 (by decide)
      simp only at q4
      rw [q4]
      clear hW
      refine stepAt_call rfl rfl rfl 24 #[.int .i64 a.p] (by go_simp) ((name_any w8 a.p).mono fun e w' ⟨h1, h2⟩ => ⟨_, h1, rfl, h2⟩)
    · clear hW
      refine stepAt_value rfl rfl rfl (.pointer (some ⟨w8.heap.size, 0, none⟩)) (w8.alloc (.cells #[.int .u8 0, .int .u8 0, .int .u8 0, .int .u8 0, .int .u8 0, .int .u8 0, .int .u8 0, .int .u8 0, .int .u8 0, .int .u8 0, .int .u8 0, .int .u8 0, .int .u8 0, .int .u8 0, .int .u8 0, .int .u8 0, .int .u8 0, .int .u8 0, .int .u8 0, .int .u8 0, .int .u8 0, .int .u8 0, .int .u8 0, .int .u8 0, .int .u8 0, .int .u8 0, .int .u8 0, .int .u8 0, .int .u8 0, .int .u8 0, .int .u8 0, .int .u8 0] 24)) ?_ ⟨⟨_, rfl, hG.size, blk_zeroR w8⟩, (Below.refl _ _).alloc (Nat.le_refl _) _, rfl⟩
      go_simp
    · clear hW
      refine stepAt_value rfl rfl rfl (.pointer (some ⟨w8.heap.size, 0, none⟩)) (w8.alloc (.cells #[.int .u8 0, .int .u8 0, .int .u8 0, .int .u8 0, .int .u8 0, .int .u8 0, .int .u8 0, .int .u8 0, .int .u8 0, .int .u8 0, .int .u8 0, .int .u8 0, .int .u8 0, .int .u8 0, .int .u8 0, .int .u8 0, .int .u8 0, .int .u8 0, .int .u8 0, .int .u8 0, .int .u8 0, .int .u8 0, .int .u8 0, .int .u8 0, .int .u8 0, .int .u8 0, .int .u8 0, .int .u8 0, .int .u8 0, .int .u8 0, .int .u8 0, .int .u8 0] 24)) ?_ ⟨⟨_, rfl, hG.size, blk_zeroR w8⟩, (Below.refl _ _).alloc (Nat.le_refl _) _, rfl⟩
      go_simp
  case fin =>
    intro vals w10 hG hV hne
    have q2 := hV 2 (by omega)
    have q5 := hV 5 (by omega)
    have q6 := hV 6 (by omega)
    have q7 := hV 7 (by omega)
    simp only at q2 q5 q6 q7
    obtain ⟨gr, q6, hgr, hR⟩ := q6
    obtain ⟨gq, q7, hgq, hP⟩ := q7
    rw [q6, q7] at hne
    have hnn : gr ≠ gq := fun x => hne (by rw [x])
    simp only [List.take_succ_cons, List.take_zero, List.drop_succ_cons, List.drop_zero, putAll, Act.put, List.setIfInBounds_toArray, List.set_cons_zero, List.set_cons_succ, Nat.reduceAdd]
    rw [q2, q5, q6, q7]
    clear hV q2 q5 q6 q7 hne
    generalize vals 0 = y0
    generalize vals 1 = y1
    generalize vals 3 = y3
    generalize vals 4 = y4
    have HZL := Lib.hid zero32_len
    have HR0 := Lib.hid hR
    have HGE := Lib.hid (show w5.heap.size ≤ gr ∧ w5.heap.size ≤ gq from ⟨hgr, hgq⟩)
    have HR1 := Lib.hid (HR0.out.setRow (bv (nmN a.r)))
    have HP1 := Lib.hid (hP.setRow_other (bv (nmN a.r)).toArray hnn.symm)
    have HP2 := Lib.hid (HP1.out.setRow (bv (nmN a.p)))
    have HR2 := Lib.hid (HR1.out.setRow_other (bv (nmN a.p)).toArray hnn)
    have HBc := Lib.hid (show Below w5.heap.size w5 ((w10.setRow gr (bv (nmN a.r)).toArray).setRow gq (bv (nmN a.p)).toArray) from below_row (below_row hG hgr _) hgq _)
    have HLr := Lib.hid (nmN_len a.r)
    have HLp := Lib.hid (nmN_len a.p)
    clear hP hR hgr hgq hnn hG
    go_upto_region 2 with (first
      | ((with_reducible refine wpList_store_name (.tmp 5) (.tmp 11) ?_ ?_ gr zero32 (nmN a.r) ?_ ?_ HR0.out HZL.out HLr.out ?_); rfl; rfl; rfl; rfl)
      | ((with_reducible refine wpList_store_name (.tmp 6) (.tmp 14) ?_ ?_ gq zero32 (nmN a.p) ?_ ?_ HP1.out HZL.out HLp.out ?_); rfl; rfl; rfl; rfl))
    try simp only [Act.put]
    clear HR0 HR1 HP1 HZL
    generalize (w10.setRow gr (bv (nmN a.r)).toArray).setRow gq (bv (nmN a.p)).toArray = w11 at HP2 HR2 HBc ⊢
    have HXc := Lib.hid (HX.out.below HBc.out HX.out.lt)
    have HYc := Lib.hid (HY.out.below HBc.out HY.out.lt)
    have HBw := Lib.hid (HB.out.trans (HBc.out.mono HB.out.size))
    have HKL := Lib.hid (show w.heap.size ≤ gr ∧ w.heap.size ≤ gq from ⟨Nat.le_trans HB.out.size HGE.out.1, Nat.le_trans HB.out.size HGE.out.2⟩)
    clear HX HY HB HBc HGE
    have c0 := HYc.out.cell 0
    have c3 := HYc.out.cell 3
    have c4 := HYc.out.cell 4
    have c5 := HYc.out.cell 5
    simp only [acv, List.getElem?_cons_succ, List.getElem?_cons_zero] at c0 c3 c4 c5
    by_cases hk : a.k = 0
    · have HKD := Lib.hid (show doP (t, own) a = ((addT 256 t (nmN a.r) (nmN a.p) a.s).2, own) by unfold doP; rw [if_pos hk])
      have hk1 : (a.k == 0) = true := by simp [hk]
      rw [hk] at c0
      go_upto_region 3 with fail
      have HMid := Lib.hid (show DM B X Y gr gq K w tb wb mb rb a own own t t w11 from ⟨HPS.out.more HBw.out (fun k hk => by
        have h1 := HKL.out
        have h2 := HXY.out
        simp only [List.mem_cons, List.not_mem_nil, or_false] at hk
        rcases hk with rfl | rfl | rfl | rfl <;> omega) (fun k hk => by
        have h1 := HXc.out.lt
        have h2 := HYc.out.lt
        have h3 := HR2.out.lt
        have h4 := HP2.out.lt
        simp only [List.mem_cons, List.not_mem_nil, or_false] at hk
        rcases hk with rfl | rfl | rfl | rfl <;> assumption), HXc.out, HYc.out, HR2.out, HP2.out, Held4.of_below HPS.out.low HBw.out⟩)
      have HBB := Lib.hid (HBw.out.mono HPS.out.size)
      clear HXc HYc HR2 HP2 HBw HKL c0 c3 c4 c5
      obtain ⟨C, hC⟩ : ∃ C, (addT 256 t (nmN a.r) (nmN a.p) a.s).1 = C := ⟨_, rfl⟩
      have HC := Lib.hid hC
      have hcc : (C == C) = true := beq_self_eq_true C
      clear hC
      refine wp_region_freeD (P := Try.prog) 18 6 16 (by decide) (by decide) (by decide) (fun i => match i with
        | 0 => .pointer (some ⟨X, 0, none⟩)
        | 1 => .pointer (some ⟨tb, 0, none⟩)
        | 2 => .agg (bv (nmN a.r)).toArray
        | 3 => .agg (bv (nmN a.p)).toArray
        | 4 => .pointer (some ⟨Y, 3, none⟩)
        | 5 => .int .i64 a.s
        | 6 => .int .i64 C
        | 7 => .pointer (some ⟨X, 2, none⟩)
        | 8 => .pointer (some ⟨rb, 0, none⟩)
        | 9 => .pointer (some ⟨rb, 0, none⟩)
        | 10 => .pointer (some ⟨rb, 0, none⟩)
        | 11 => .pointer (some ⟨mb, 0, none⟩)
        | 12 => .agg (bv (nmN a.r)).toArray
        | 13 => .agg (bv (nmN a.p)).toArray
        | 14 => .pointer (some ⟨Y, 3, none⟩)
        | 15 => .int .i64 a.s
        | 16 => .int .i64 C
        | 17 => .bool true
        | _ => undef) (fun x y w' => DM B X Y gr gq K w tb wb mb rb a own own (cond x (addT 256 t (nmN a.r) (nmN a.p) a.s).2 t) (cond y (addT 256 t (nmN a.r) (nmN a.p) a.s).2 t) w' ∧ Below B w w') (by kernel_rfl) (by kernel_rfl) ⟨HMid.out.below (Below.refl _ _).drew, below_dN HBB.out 1⟩ ?pb ?steps ?fin
      case pb => exact fun x y a b h hb => ⟨h.1.below hb, h.2.trans (hb.mono h.1.psx.size)⟩
      case steps =>
        intro vals
        simp only [List.take_succ_cons, List.take_zero, freeStepsD, Act.put, List.setIfInBounds_toArray, List.set_cons_zero, List.set_cons_succ, Nat.reduceAdd, Nat.reduceEqDiff, reduceIte]
        refine ⟨fun x y w8 hG hW => ?_, fun x y w8 hG hW => ?_, fun x y w8 hG hW => ?_, fun x y w8 hG hW => ?_, fun x y w8 hG hW => ?_, fun x y w8 hG hW => ?_, fun y w8 hG hW => ?_, fun x y w8 hG hW => ?_, fun x y w8 hG hW => ?_, fun x y w8 hG hW => ?_, fun x y w8 hG hW => ?_, fun x y w8 hG hW => ?_, fun x y w8 hG hW => ?_, fun x y w8 hG hW => ?_, fun x y w8 hG hW => ?_, fun x y w8 hG hW => ?_, fun x w8 hG hW => ?_, fun x y w8 hG hW => ?_, trivial⟩
        · clear hW
          refine stepAt_value rfl rfl rfl (.pointer (some ⟨X, 0, none⟩)) w8 ?_ ⟨rfl, Below.refl _ _⟩
          go_simp
        · have q0 := hW 0 (by decide)
          simp only at q0
          rw [q0]
          clear hW
          refine stepAt_value rfl rfl rfl (.pointer (some ⟨tb, 0, none⟩)) w8 ?_ ⟨rfl, Below.refl _ _⟩
          have hh := hG.1.hX.cell 0
          simp only [prv, List.getElem?_cons_zero] at hh
          go_simp
        · clear hW
          refine stepAt_load_run rfl rfl rfl _ _ rfl _ _ rfl (run_load_root HLr.out hG.1.hR.rootAll) ⟨rfl, Below.refl _ _⟩
        · clear hW
          refine stepAt_load_run rfl rfl rfl _ _ rfl _ _ rfl (run_load_root HLp.out hG.1.hP.rootAll) ⟨rfl, Below.refl _ _⟩
        · clear hW
          refine stepAt_value rfl rfl rfl (.pointer (some ⟨Y, 3, none⟩)) w8 ?_ ⟨rfl, Below.refl _ _⟩
          go_simp
        · have q4 := hW 4 (by decide)
          simp only at q4
          rw [q4]
          clear hW
          refine stepAt_value rfl rfl rfl (.int .i64 a.s) w8 ?_ ⟨rfl, Below.refl _ _⟩
          have hh := hG.1.hY.cell 3
          simp only [acv, List.getElem?_cons_succ, List.getElem?_cons_zero] at hh
          go_simp
        · have q1 := hW 1 (by decide)
          simp only at q1
          have q2 := hW 2 (by decide)
          simp only at q2
          have q3 := hW 3 (by decide)
          simp only at q3
          have q5 := hW 5 (by decide)
          simp only at q5
          rw [q1, q2, q3, q5]
          clear hW
          refine stepAt_call rfl rfl rfl 28 #[.pointer (some ⟨tb, 0, none⟩), .agg (bv (nmN a.r)).toArray, .agg (bv (nmN a.p)).toArray, .int .i64 a.s] (by go_simp) ((hG.1.psx.add (nmN a.r) (nmN a.p) a.s HLr.out HLp.out).mono fun e w' ⟨h1, h2, h3, h4⟩ => ⟨_, h1, congrArg (Value.int .i64) HC.out, hG.1.held h4 h2, hG.2.trans h3⟩)
        · clear hW
          refine stepAt_value rfl rfl rfl (.pointer (some ⟨X, 2, none⟩)) w8 ?_ ⟨rfl, Below.refl _ _⟩
          go_simp
        · have q7 := hW 7 (by decide)
          simp only at q7
          rw [q7]
          clear hW
          refine stepAt_value rfl rfl rfl (.pointer (some ⟨rb, 0, none⟩)) w8 ?_ ⟨rfl, Below.refl _ _⟩
          have hh := hG.1.hX.cell 2
          simp only [prv, List.getElem?_cons_succ, List.getElem?_cons_zero] at hh
          go_simp
        · have q8 := hW 8 (by decide)
          simp only at q8
          rw [q8]
          clear hW
          refine stepAt_value rfl rfl rfl (.pointer (some ⟨rb, 0, none⟩)) w8 ?_ ⟨rfl, Below.refl _ _⟩
          go_simp
        · have q9 := hW 9 (by decide)
          simp only at q9
          rw [q9]
          clear hW
          refine stepAt_value rfl rfl rfl (.pointer (some ⟨rb, 0, none⟩)) w8 ?_ ⟨rfl, Below.refl _ _⟩
          go_simp
        · have q10 := hW 10 (by decide)
          simp only at q10
          rw [q10]
          clear hW
          refine stepAt_value rfl rfl rfl (.pointer (some ⟨mb, 0, none⟩)) w8 ?_ ⟨rfl, Below.refl _ _⟩
          have hh := hG.1.psx.refcell
          go_simp
        · clear hW
          refine stepAt_load_run rfl rfl rfl _ _ rfl _ _ rfl (run_load_root HLr.out hG.1.hR.rootAll) ⟨rfl, Below.refl _ _⟩
        · clear hW
          refine stepAt_load_run rfl rfl rfl _ _ rfl _ _ rfl (run_load_root HLp.out hG.1.hP.rootAll) ⟨rfl, Below.refl _ _⟩
        · clear hW
          refine stepAt_value rfl rfl rfl (.pointer (some ⟨Y, 3, none⟩)) w8 ?_ ⟨rfl, Below.refl _ _⟩
          go_simp
        · have q14 := hW 14 (by decide)
          simp only at q14
          rw [q14]
          clear hW
          refine stepAt_value rfl rfl rfl (.int .i64 a.s) w8 ?_ ⟨rfl, Below.refl _ _⟩
          have hh := hG.1.hY.cell 3
          simp only [acv, List.getElem?_cons_succ, List.getElem?_cons_zero] at hh
          go_simp
        · have q11 := hW 11 (by decide)
          simp only at q11
          have q12 := hW 12 (by decide)
          simp only at q12
          have q13 := hW 13 (by decide)
          simp only at q13
          have q15 := hW 15 (by decide)
          simp only at q15
          rw [q11, q12, q13, q15]
          clear hW
          refine stepAt_call rfl rfl rfl 39 #[.pointer (some ⟨mb, 0, none⟩), .agg (bv (nmN a.r)).toArray, .agg (bv (nmN a.p)).toArray, .int .i64 a.s] (by go_simp) ((hG.1.psx.refadd (nmN a.r) (nmN a.p) a.s HLr.out HLp.out).mono fun e w' ⟨h1, h2, h3, h4⟩ => ⟨_, h1, congrArg (Value.int .i64) HC.out, hG.1.held h4 h2, hG.2.trans h3⟩)
        · have q6 := hW 6 (by decide)
          simp only at q6
          have q16 := hW 16 (by decide)
          simp only at q16
          rw [q6, q16]
          clear hW
          refine stepAt_value rfl rfl rfl (.bool true) w8 ?_ ⟨rfl, Below.refl _ _⟩
          go_simp
      case fin =>
        intro vals w20 hV hMid
        have q17 := hV 17 (by omega)
        simp only at q17
        simp only [List.take_succ_cons, List.take_zero, List.drop_succ_cons, List.drop_zero, putAll, Act.put, List.setIfInBounds_toArray, List.set_cons_zero, List.set_cons_succ, Nat.reduceAdd]
        rw [q17]
        clear hV q17 HMid hcc HC
        have HF := Lib.hid (show PSX B K w20 tb wb mb rb (addT 256 t (nmN a.r) (nmN a.p) a.s).2 (addT 256 t (nmN a.r) (nmN a.p) a.s).2 own own from hMid.1.psx.drop _)
        have HKP := Lib.hid hMid.1.kp
        have HBF := Lib.hid hMid.2
        clear hMid
        generalize vals 0 = z0
        generalize vals 1 = z1
        generalize vals 2 = z2
        generalize vals 3 = z3
        generalize vals 4 = z4
        generalize vals 5 = z5
        generalize vals 6 = z6
        generalize vals 7 = z7
        generalize vals 8 = z8
        generalize vals 9 = z9
        generalize vals 10 = z10
        generalize vals 11 = z11
        generalize vals 12 = z12
        generalize vals 13 = z13
        generalize vals 14 = z14
        generalize vals 15 = z15
        generalize vals 16 = z16
        go_wp2_with fail
        go_ret
        exact ⟨rfl, by rw [HKD.out]; exact HF.out, HBF.out, HKP.out⟩
    · have HKD := Lib.hid (show doP (t, own) a = (t, (appW t own (dlsA a)).2) by unfold doP; rw [if_neg hk])
      have hk1 : (a.k == 0) = false := by simp [hk]
      obtain ⟨i1, hi1, hz1, hy1, hb1'⟩ := info_parts Try.infoDl
      obtain ⟨i2, hi2, hz2, hy2, hb2'⟩ := info_parts Try.infoDlR
      have HBD := Lib.hid (built_dl (nmN a.r) a.n HLr.out)
      have HBE := Lib.hid (built_dlR (nmN a.r) a.n HLr.out)
      have HRA := Lib.hid HR2.out.rootAll
      have HD33 := Lib.hid (dlv_length (d := (nmN a.r, a.n)) HLr.out)
      have H033 := Lib.hid (show 0 < 33 by decide)
      have HZC := Lib.hid (show (Value.agg (dlv dl0).toArray).cells.size = 33 by simp [Value.cells, dlv_length dl0_len])
      have H24 := Lib.hid (show 1 * 33 ≤ 2 ^ 24 by decide)
      have hba : Below w11.heap.size w11 (w11.alloc (.cells (dlv (nmN a.r, a.n)).toArray 57)) := (Below.refl _ _).alloc (Nat.le_refl _) _
      have HBA := Lib.hid hba
      have HWA := Lib.hid (show Wide 33 (w11.alloc (.cells (dlv (nmN a.r, a.n)).toArray 57)) w11.heap.size (.slice (some ⟨w11.heap.size, 0, none⟩) 1 1) (dlv (nmN a.r, a.n)) from wide_new 33 1 w11 57 _ (by rw [HD33.out]) (by unfold maxLen; omega))
      clear hba
      go_upto_region 5 with (first
        | ((with_reducible refine wpList_load_name (.tmp 5) ?_ ?_ gr 0 (nmN a.r) ?_ HLr.out HRA.out ?_); rfl; rfl; rfl)
        | ((with_reducible refine wpList_build_l 57 #[(0, .tmp 36), (1, .tmp 38)] _ _ HBD.out ?_ ?_ ?_ ?_); rfl; rfl; rfl)
        | ((with_reducible refine wpList_build_row ?_ 54 57 (.tmp 39) ?_ (dlv (nmN a.r, a.n)) ?_ i1 (.agg (dlv dl0).toArray) (s := 33) H033.out HD33.out Try.underlying54 hi1 hz1 hy1 H24.out ?_); rfl; rfl; rfl))
      obtain ⟨GA, hGA⟩ : ∃ GA, GA = w11.heap.size := ⟨_, rfl⟩
      have HGA := Lib.hid hGA
      have HLT := Lib.hid (show X < GA ∧ Y < GA ∧ gq < GA from ⟨by rw [hGA]; exact HXc.out.lt, by rw [hGA]; exact HYc.out.lt, by rw [hGA]; exact HP2.out.lt⟩)
      rw [← hGA] at HWA ⊢
      generalize w11.alloc (.cells (dlv (nmN a.r, a.n)).toArray 57) = wA at HBA HWA ⊢
      clear hGA c0 c3 c4 c5
      have HXa := Lib.hid (HXc.out.below HBA.out HXc.out.lt)
      have HYa := Lib.hid (HYc.out.below HBA.out HYc.out.lt)
      have HRa := Lib.hid (HR2.out.below HBA.out HR2.out.lt)
      have HPa := Lib.hid (HP2.out.below HBA.out HP2.out.lt)
      have HBw1 := Lib.hid (HBw.out.trans (HBA.out.mono HBw.out.size))
      have HWE := Lib.hid (show w.heap.size ≤ GA by rw [HGA.out]; exact HBw.out.size)
      have HAL := Lib.hid (show GA < wA.heap.size by
        have := HWA.out.ownLt (by rw [HD33.out]; decide) GA rfl
        exact this)
      clear HXc HYc HR2 HP2 HBw HBA HRA HGA
      have HRA := Lib.hid HRa.out.rootAll
      have c4 := HYa.out.cell 4
      simp only [acv, List.getElem?_cons_succ, List.getElem?_cons_zero] at c4
      have hba : Below wA.heap.size wA (wA.alloc (.cells (dlv (nmN a.r, a.n)).toArray 74)) := (Below.refl _ _).alloc (Nat.le_refl _) _
      have HBA := Lib.hid hba
      have HWB := Lib.hid (show Wide 33 (wA.alloc (.cells (dlv (nmN a.r, a.n)).toArray 74)) wA.heap.size (.slice (some ⟨wA.heap.size, 0, none⟩) 1 1) (dlv (nmN a.r, a.n)) from wide_new 33 1 wA 74 _ (by rw [HD33.out]) (by unfold maxLen; omega))
      clear hba
      go_upto_region 6 with (first
        | ((with_reducible refine wpList_load_name (.tmp 5) ?_ ?_ gr 0 (nmN a.r) ?_ HLr.out HRA.out ?_); rfl; rfl; rfl)
        | ((with_reducible refine wpList_build_l 74 #[(0, .tmp 41), (1, .tmp 43)] _ _ HBE.out ?_ ?_ ?_ ?_); rfl; rfl; rfl)
        | ((with_reducible refine wpList_build_row ?_ 75 74 (.tmp 44) ?_ (dlv (nmN a.r, a.n)) ?_ i2 (.agg (dlv dl0).toArray) (s := 33) H033.out HD33.out Try.underlying75 hi2 hz2 hy2 H24.out ?_); rfl; rfl; rfl))
      obtain ⟨GB, hGB⟩ : ∃ GB, GB = wA.heap.size := ⟨_, rfl⟩
      have HGB := Lib.hid hGB
      rw [← hGB] at HWB ⊢
      generalize wA.alloc (.cells (dlv (nmN a.r, a.n)).toArray 74) = wB at HBA HWB ⊢
      clear hGB c4
      have HWA2 := Lib.hid (HWA.out.below HBA.out)
      have HXb := Lib.hid (HXa.out.below HBA.out HXa.out.lt)
      have HYb := Lib.hid (HYa.out.below HBA.out HYa.out.lt)
      have HPb := Lib.hid (HPa.out.below HBA.out HPa.out.lt)
      have HBw := Lib.hid (HBw1.out.trans (HBA.out.mono HBw1.out.size))
      have HWE2 := Lib.hid (show w.heap.size ≤ GB by rw [HGB.out]; exact HBw1.out.size)
      have HNE := Lib.hid (show GA ≠ GB by have := HAL.out; have := HGB.out; omega)
      have HAB := Lib.hid (show GA ≤ GB by have := HAL.out; have := HGB.out; omega)
      have HBL := Lib.hid (show GB < wB.heap.size by
        have := HWB.out.ownLt (by rw [HD33.out]; decide) GB rfl
        exact this)
      clear HXa HYa HRa HPa HBw1 HBA HRA HGB HWA HAL HBD HBE
      have c5 := HYb.out.cell 5
      simp only [acv, List.getElem?_cons_succ, List.getElem?_cons_zero] at c5
      by_cases hm : a.m = 0
      · have hm1 : (a.m == 0) = true := by simp [hm]
        rw [hm] at c5
        have HDE := Lib.hid (show dlsA a = [(nmN a.r, a.n)] by unfold dlsA; rw [if_pos hm])
        have HDP := Lib.hid (show 0 < (dvs (dlsA a)).length by rw [HDE.out, dvs_sole, HD33.out]; decide)
        have HLA := Lib.hid (show Lies wB wB.heap.size (some ⟨GA, 0, none⟩) GA 0 (dvs (dlsA a)) by
          obtain ⟨n', cap', g', off', ao', e, hw⟩ := HWA2.out
          injection e with e1 e2 e3
          subst e1; subst e2; subst e3
          have ha := hw.addr (by decide)
          injection ha with ha
          injection ha with ha1 ha2
          subst ha1; subst ha2
          rw [HDE.out, dvs_sole]
          exact ⟨fun _ => rfl, fun _ => hw.lt (by decide), hw.cells⟩)
        have HLB := Lib.hid (show Lies wB wB.heap.size (some ⟨GB, 0, none⟩) GB 0 (dvs (dlsA a)) by
          obtain ⟨n', cap', g', off', ao', e, hw⟩ := HWB.out
          injection e with e1 e2 e3
          subst e1; subst e2; subst e3
          have ha := hw.addr (by decide)
          injection ha with ha
          injection ha with ha1 ha2
          subst ha1; subst ha2
          rw [HDE.out, dvs_sole]
          exact ⟨fun _ => rfl, fun _ => hw.lt (by decide), hw.cells⟩)
        have HXc := HXb
        have HKK := Lib.hid (show w.heap.size ≤ GA ∧ w.heap.size ≤ GB from ⟨HWE.out, HWE2.out⟩)
        go_upto_region 9 with fail
        clear hm c5 hm1 HWA2 HWB HXb HYb HPb HWE HWE2 HNE HBL
        have HMid := Lib.hid (show DM2 B X GA GB 0 0 K w tb wb mb rb t (dlsA a) own own wB from ⟨HPS.out.more HBw.out (fun k hk => by
          have h1 := HKK.out
          have h2 := HXY.out
          simp only [List.mem_cons, List.not_mem_nil, or_false] at hk
          rcases hk with rfl | rfl | rfl <;> omega) (fun k hk => by
          have h1 := HXc.out.lt
          have h2 := HLA.out.lt HDP.out
          have h3 := HLB.out.lt HDP.out
          simp only [List.mem_cons, List.not_mem_nil, or_false] at hk
          rcases hk with rfl | rfl | rfl <;> assumption), HXc.out, HLA.out, HLB.out, Held4.of_below HPS.out.low HBw.out⟩)
        have HBB := Lib.hid (HBw.out.mono HPS.out.size)
        have HDL := Lib.hid (show Dls (dlsA a) by rw [HDE.out]; exact dls_one _ _ HLr.out)
        have HDN := Lib.hid (show (dlsA a).length ≤ 1000 by rw [HDE.out]; simp)
        have HDK := Lib.hid (show (dlsA a).length = 1 by rw [HDE.out]; rfl)
        clear HXc HBw HKK HLA HLB HDP
        obtain ⟨C, hC⟩ : ∃ C, (appW t own (dlsA a)).1 = C := ⟨_, rfl⟩
        have HC := Lib.hid hC
        have hcc : (C == C) = true := beq_self_eq_true C
        clear hC
        refine wp_region_freeD (P := Try.prog) 9 3 7 (by decide) (by decide) (by decide) (fun i => match i with
          | 0 => .pointer (some ⟨X, 1, none⟩)
          | 1 => .pointer (some ⟨wb, 0, none⟩)
          | 2 => .slice (some ⟨GA, 0, none⟩) 1 1
          | 3 => .int .i64 C
          | 4 => .pointer (some ⟨X, 2, none⟩)
          | 5 => .pointer (some ⟨rb, 0, none⟩)
          | 6 => .slice (some ⟨GB, 0, none⟩) 1 1
          | 7 => .int .i64 C
          | 8 => .bool true
          | _ => undef) (fun x y w' => DM2 B X GA GB 0 0 K w tb wb mb rb t (dlsA a) (cond x (appW t own (dlsA a)).2 own) (cond y (appW t own (dlsA a)).2 own) w' ∧ Below B w w') (by kernel_rfl) (by kernel_rfl) ⟨HMid.out.below (Below.refl _ _).drew, below_dN HBB.out 1⟩ ?pb ?steps ?fin
        case pb => exact fun x y a b h hb => ⟨h.1.below hb, h.2.trans (hb.mono h.1.psx.size)⟩
        case steps =>
          intro vals
          simp only [List.take_succ_cons, List.take_zero, freeStepsD, Act.put, List.setIfInBounds_toArray, List.set_cons_zero, List.set_cons_succ, Nat.reduceAdd, Nat.reduceEqDiff, reduceIte]
          refine ⟨fun x y w8 hG hW => ?_, fun x y w8 hG hW => ?_, fun x y w8 hG hW => ?_, fun y w8 hG hW => ?_, fun x y w8 hG hW => ?_, fun x y w8 hG hW => ?_, fun x y w8 hG hW => ?_, fun x w8 hG hW => ?_, fun x y w8 hG hW => ?_, trivial⟩
          · clear hW
            refine stepAt_value rfl rfl rfl (.pointer (some ⟨X, 1, none⟩)) w8 ?_ ⟨rfl, Below.refl _ _⟩
            go_simp
          · have q0 := hW 0 (by decide)
            simp only at q0
            rw [q0]
            clear hW
            refine stepAt_value rfl rfl rfl (.pointer (some ⟨wb, 0, none⟩)) w8 ?_ ⟨rfl, Below.refl _ _⟩
            have hh := hG.1.hX.cell 1
            simp only [prv, List.getElem?_cons_succ, List.getElem?_cons_zero] at hh
            go_simp
          · clear hW
            refine stepAt_value rfl rfl rfl (.slice (some ⟨GA, 0, none⟩) 1 1) w8 ?_ ⟨rfl, Below.refl _ _⟩
            go_simp
          · have q1 := hW 1 (by decide)
            simp only at q1
            have q2 := hW 2 (by decide)
            simp only at q2
            rw [q1, q2]
            clear hW
            have hcal := hG.1.psx.apply (dlsA a) (some ⟨GA, 0, none⟩) 1 GA 0 HDL.out HDN.out hG.1.la (fun _ => by simp)
            rw [HDK.out] at hcal
            refine stepAt_call rfl rfl rfl 12 #[.pointer (some ⟨wb, 0, none⟩), .slice (some ⟨GA, 0, none⟩) 1 1] (by go_simp) (hcal.mono fun e w' ⟨h1, h2, h3, h4⟩ => ⟨_, h1, congrArg (Value.int .i64) HC.out, hG.1.held h4 h3.size h2, hG.2.trans h3⟩)
          · clear hW
            refine stepAt_value rfl rfl rfl (.pointer (some ⟨X, 2, none⟩)) w8 ?_ ⟨rfl, Below.refl _ _⟩
            go_simp
          · have q4 := hW 4 (by decide)
            simp only at q4
            rw [q4]
            clear hW
            refine stepAt_value rfl rfl rfl (.pointer (some ⟨rb, 0, none⟩)) w8 ?_ ⟨rfl, Below.refl _ _⟩
            have hh := hG.1.hX.cell 2
            simp only [prv, List.getElem?_cons_succ, List.getElem?_cons_zero] at hh
            go_simp
          · clear hW
            refine stepAt_value rfl rfl rfl (.slice (some ⟨GB, 0, none⟩) 1 1) w8 ?_ ⟨rfl, Below.refl _ _⟩
            go_simp
          · have q5 := hW 5 (by decide)
            simp only at q5
            have q6 := hW 6 (by decide)
            simp only at q6
            rw [q5, q6]
            clear hW
            have hcal := hG.1.psx.refapply (dlsA a) (some ⟨GB, 0, none⟩) 1 GB 0 HDL.out HDN.out hG.1.lb (fun _ => by simp)
            rw [HDK.out] at hcal
            refine stepAt_call rfl rfl rfl 40 #[.pointer (some ⟨rb, 0, none⟩), .slice (some ⟨GB, 0, none⟩) 1 1] (by go_simp) (hcal.mono fun e w' ⟨h1, h2, h3, h4⟩ => ⟨_, h1, congrArg (Value.int .i64) HC.out, hG.1.held h4 h3.size h2, hG.2.trans h3⟩)
          · have q3 := hW 3 (by decide)
            simp only at q3
            have q7 := hW 7 (by decide)
            simp only at q7
            rw [q3, q7]
            clear hW
            refine stepAt_value rfl rfl rfl (.bool true) w8 ?_ ⟨rfl, Below.refl _ _⟩
            go_simp
        case fin =>
          intro vals w20 hV hMid
          have q8 := hV 8 (by omega)
          simp only at q8
          simp only [List.take_succ_cons, List.take_zero, List.drop_succ_cons, List.drop_zero, putAll, Act.put, List.setIfInBounds_toArray, List.set_cons_zero, List.set_cons_succ, Nat.reduceAdd]
          rw [q8]
          clear hV q8 HMid hcc HC
          have HF := Lib.hid (show PSX B K w20 tb wb mb rb t t (appW t own (dlsA a)).2 (appW t own (dlsA a)).2 from hMid.1.psx.drop _)
          have HKP := Lib.hid hMid.1.kp
          have HBF := Lib.hid hMid.2
          clear hMid
          generalize vals 0 = z0
          generalize vals 1 = z1
          generalize vals 2 = z2
          generalize vals 3 = z3
          generalize vals 4 = z4
          generalize vals 5 = z5
          generalize vals 6 = z6
          generalize vals 7 = z7
          go_wp2_with fail
          go_ret
          exact ⟨rfl, by rw [HKD.out]; exact HF.out, HBF.out, HKP.out⟩
      · have hm1 : (a.m == 0) = false := by simp [hm]
        go_upto_region 7 with fail
        have HDE := Lib.hid (show dlsA a = [(nmN a.r, a.n), (nmN a.p, a.m)] by unfold dlsA; rw [if_neg hm])
        have HPE := Lib.hid (dlv_length (d := (nmN a.p, a.m)) HLp.out)
        have HDX := Lib.hid (show dvs (dlsA a) = dlv (nmN a.r, a.n) ++ dlv (nmN a.p, a.m) by rw [HDE.out]; simp [dvs])
        have HDP := Lib.hid (show 0 < (dvs (dlsA a)).length by rw [HDX.out, List.length_append, HD33.out]; omega)
        have HBD := Lib.hid (built_dl (nmN a.p) a.m HLp.out)
        have HBE := Lib.hid (built_dlR (nmN a.p) a.m HLp.out)
        have HRA := Lib.hid HPb.out.rootAll
        have HHE := Lib.hid ((Below.refl wB.heap.size wB).alloc (Nat.le_refl _) (.cells (dlv (nmN a.p, a.m)).toArray 57))
        have HSR := Lib.hid (src_rowT (P := Try.prog) wB 33 (by decide) 54 57 Try.underlying54 (dlv (nmN a.p, a.m)) HPE.out (dlv_one _))
        have HW7 := Lib.hid (HWA2.out.below HHE.out)
        have HM1 := Lib.hid (show (dlv (nmN a.r, a.n)).length + 1 ≤ maxLen by rw [HD33.out]; unfold maxLen; omega)
        have HM2 := Lib.hid (show ((dlv (nmN a.r, a.n)).length + 1) * 40 ≤ 140737488355328 by rw [HD33.out]; omega)
        have HBS := Lib.hid (show GA ≤ (wB.alloc (.cells (dlv (nmN a.p, a.m)).toArray 57)).heap.size by
          have := HWA2.out.ownLt (by rw [HD33.out]; decide) GA rfl
          rw [World.size_alloc]; omega)
        go_wp2_with (first
          | ((with_reducible refine wpList_load_name (.tmp 6) ?_ ?_ gq 0 (nmN a.p) ?_ HLp.out HRA.out ?_); rfl; rfl; rfl)
          | ((with_reducible refine wpList_build_l 57 #[(0, .tmp 50), (1, .tmp 52)] _ _ HBD.out ?_ ?_ ?_ ?_); rfl; rfl; rfl)
          | ((with_reducible refine wpList_build_row ?_ 54 57 (.tmp 53) ?_ (dlv (nmN a.p, a.m)) ?_ i1 (.agg (dlv dl0).toArray) (s := 33) H033.out HPE.out Try.underlying54 hi1 hz1 hy1 H24.out ?_); rfl; rfl; rfl)
          | (at_builtin; refine wpList_append_wide rfl _ _ 54 54 rfl rfl HW7.out (by decide) 57 i1 (.agg (dlv dl0).toArray) 40 Try.underlying54 hi1 hz1 hy1 hb1' HZC.out _ rfl 1 (dlv (nmN a.p, a.m)) HSR.out HM1.out HM2.out HBS.out ?_))
        intro v7 w7 hv7 hg7
        obtain ⟨ao7, n7, cap7, hu7⟩ : ∃ ao n cap, v7 = .slice ao n cap := by
          obtain ⟨n', cap', g', off', ao', hu, _⟩ := hv7
          exact ⟨_, _, _, hu⟩
        subst hu7
        have HV7 := Lib.hid hv7
        have hbB : Below w.heap.size w (wB.alloc (.cells (dlv (nmN a.p, a.m)).toArray 57)) := HBw.out.trans (HHE.out.mono HBw.out.size)
        have HB7 := Lib.hid (hbB.trans ((hg7.belowW HW7.out HBS.out).mono HWE.out))
        have HX7 := Lib.hid (show Blk w7 X _ _ from (HXb.out.below HHE.out HXb.out.lt).below (hg7.belowW HW7.out HBS.out) HLT.out.1)
        have HY7 := Lib.hid (show Blk w7 Y _ _ from (HYb.out.below HHE.out HYb.out.lt).below (hg7.belowW HW7.out HBS.out) HLT.out.2.1)
        have HP7 := Lib.hid (show Blk w7 gq _ _ from (HPb.out.below HHE.out HPb.out.lt).below (hg7.belowW HW7.out HBS.out) HLT.out.2.2)
        have HWB7 := Lib.hid ((HWB.out.below HHE.out).grown hg7.grown (fun j hj e => by
          have h1 : GB = j := by simpa [Value.ownBlock] using hj
          have h2 : GA = j := by simpa [Value.ownBlock] using e
          exact HNE.out (h2.trans h1.symm)))
        have HNV := Lib.hid (show ∀ j, (Value.slice ao7 n7 cap7).ownBlock = some j → some GB ≠ some j from fun j hj e => by
          injection e with e
          subst e
          rcases hg7.own with h1 | ⟨q, h1, h2⟩
          · rw [h1] at hj
            exact HNE.out (by simpa [Value.ownBlock] using hj)
          · rw [h1] at hj
            injection hj with hj
            have := HHE.out.size
            have := HBL.out
            omega)
        have HBL7 := Lib.hid (show GB < w7.heap.size by have h1 := hg7.grown.size; have h2 := HBL.out; have h3 := HHE.out.size; omega)
        clear hv7 hg7 hbB HWB HXb HYb HPb HBw HBL HRA HSR HW7 HM1 HBS HHE c5 HBD
        have HRA := Lib.hid HP7.out.rootAll
        have c5 := HY7.out.cell 5
        simp only [acv, List.getElem?_cons_succ, List.getElem?_cons_zero] at c5
        go_upto_region 8 with fail
        have HHE := Lib.hid ((Below.refl w7.heap.size w7).alloc (Nat.le_refl _) (.cells (dlv (nmN a.p, a.m)).toArray 74))
        have HSR := Lib.hid (src_rowT (P := Try.prog) w7 33 (by decide) 75 74 Try.underlying75 (dlv (nmN a.p, a.m)) HPE.out (dlv_one _))
        have HW8 := Lib.hid (HWB7.out.below HHE.out)
        have HM1 := Lib.hid (show (dlv (nmN a.r, a.n)).length + 1 ≤ maxLen by rw [HD33.out]; unfold maxLen; omega)
        have HBS := Lib.hid (show GB ≤ (w7.alloc (.cells (dlv (nmN a.p, a.m)).toArray 74)).heap.size by
          have := HBL7.out
          rw [World.size_alloc]; omega)
        go_wp2_with (first
          | ((with_reducible refine wpList_load_name (.tmp 6) ?_ ?_ gq 0 (nmN a.p) ?_ HLp.out HRA.out ?_); rfl; rfl; rfl)
          | ((with_reducible refine wpList_build_l 74 #[(0, .tmp 57), (1, .tmp 59)] _ _ HBE.out ?_ ?_ ?_ ?_); rfl; rfl; rfl)
          | ((with_reducible refine wpList_build_row ?_ 75 74 (.tmp 60) ?_ (dlv (nmN a.p, a.m)) ?_ i2 (.agg (dlv dl0).toArray) (s := 33) H033.out HPE.out Try.underlying75 hi2 hz2 hy2 H24.out ?_); rfl; rfl; rfl)
          | (at_builtin; refine wpList_append_wide rfl _ _ 75 75 rfl rfl HW8.out (by decide) 74 i2 (.agg (dlv dl0).toArray) 40 Try.underlying75 hi2 hz2 hy2 hb2' HZC.out _ rfl 1 (dlv (nmN a.p, a.m)) HSR.out HM1.out HM2.out HBS.out ?_))
        intro v8 w8 hv8 hg8
        obtain ⟨ao8, n8, cap8, hu8⟩ : ∃ ao n cap, v8 = .slice ao n cap := by
          obtain ⟨n', cap', g', off', ao', hu, _⟩ := hv8
          exact ⟨_, _, _, hu⟩
        subst hu8
        have HBw := Lib.hid ((HB7.out.trans (HHE.out.mono HB7.out.size)).trans ((hg8.belowW HW8.out HBS.out).mono HWE2.out))
        have HXc := Lib.hid (show Blk w8 X _ _ from (HX7.out.below HHE.out HX7.out.lt).below (hg8.belowW HW8.out HBS.out) (by have := HLT.out.1; have := HAB.out; omega))
        have hv7' := (HV7.out.below HHE.out).grown hg8.grown (fun j hj => HNV.out j hj)
        have ho7 := HV7.out.own
        have ho8 := hv8.own
        obtain ⟨ao7', n7', cap7', g7, o7, e7, en7, l7⟩ := hv7'.lies
        obtain ⟨ao8', n8', cap8', g8, o8, e8, en8, l8⟩ := hv8.lies
        injection e7 with e71 e72 e73
        subst e71; subst e72; subst e73
        injection e8 with e81 e82 e83
        subst e81; subst e82; subst e83
        rw [List.length_append, HD33.out, HPE.out] at en7 en8
        obtain rfl : n7 = 2 := by omega
        obtain rfl : n8 = 2 := by omega
        rw [← HDX.out] at l7 l8
        have a7 := l7.addr HDP.out
        have a8 := l8.addr HDP.out
        subst a7; subst a8
        have HLA := Lib.hid l7
        have HLB := Lib.hid l8
        have HKK := Lib.hid (show w.heap.size ≤ g7 ∧ w.heap.size ≤ g8 from ⟨Nat.le_trans HWE.out (ho7 g7 rfl), Nat.le_trans HWE2.out (ho8 g8 rfl)⟩)
        clear hv8 hg8 hv7' ho7 ho8 l7 l8 en7 en8 HV7 HB7 HX7 HY7 HP7 HWB7 HNV HBL7 HRA c5 HHE HSR HW8 HM1 HM2 HBS HBE hm hm1 HPE HDX
        go_upto_region 9 with fail
        have HMid := Lib.hid (show DM2 B X g7 g8 o7 o8 K w tb wb mb rb t (dlsA a) own own w8 from ⟨HPS.out.more HBw.out (fun k hk => by
          have h1 := HKK.out
          have h2 := HXY.out
          simp only [List.mem_cons, List.not_mem_nil, or_false] at hk
          rcases hk with rfl | rfl | rfl <;> omega) (fun k hk => by
          have h1 := HXc.out.lt
          have h2 := HLA.out.lt HDP.out
          have h3 := HLB.out.lt HDP.out
          simp only [List.mem_cons, List.not_mem_nil, or_false] at hk
          rcases hk with rfl | rfl | rfl <;> assumption), HXc.out, HLA.out, HLB.out, Held4.of_below HPS.out.low HBw.out⟩)
        have HBB := Lib.hid (HBw.out.mono HPS.out.size)
        have HDL := Lib.hid (show Dls (dlsA a) by rw [HDE.out]; exact dls_two _ _ _ _ HLr.out HLp.out)
        have HDN := Lib.hid (show (dlsA a).length ≤ 1000 by rw [HDE.out]; simp)
        have HDK := Lib.hid (show (dlsA a).length = 2 by rw [HDE.out]; rfl)
        clear HXc HBw HKK HLA HLB HDP
        obtain ⟨C, hC⟩ : ∃ C, (appW t own (dlsA a)).1 = C := ⟨_, rfl⟩
        have HC := Lib.hid hC
        have hcc : (C == C) = true := beq_self_eq_true C
        clear hC
        refine wp_region_freeD (P := Try.prog) 9 3 7 (by decide) (by decide) (by decide) (fun i => match i with
          | 0 => .pointer (some ⟨X, 1, none⟩)
          | 1 => .pointer (some ⟨wb, 0, none⟩)
          | 2 => .slice (some ⟨g7, o7, none⟩) 2 cap7
          | 3 => .int .i64 C
          | 4 => .pointer (some ⟨X, 2, none⟩)
          | 5 => .pointer (some ⟨rb, 0, none⟩)
          | 6 => .slice (some ⟨g8, o8, none⟩) 2 cap8
          | 7 => .int .i64 C
          | 8 => .bool true
          | _ => undef) (fun x y w' => DM2 B X g7 g8 o7 o8 K w tb wb mb rb t (dlsA a) (cond x (appW t own (dlsA a)).2 own) (cond y (appW t own (dlsA a)).2 own) w' ∧ Below B w w') (by kernel_rfl) (by kernel_rfl) ⟨HMid.out.below (Below.refl _ _).drew, below_dN HBB.out 1⟩ ?pb ?steps ?fin
        case pb => exact fun x y a b h hb => ⟨h.1.below hb, h.2.trans (hb.mono h.1.psx.size)⟩
        case steps =>
          intro vals
          simp only [List.take_succ_cons, List.take_zero, freeStepsD, Act.put, List.setIfInBounds_toArray, List.set_cons_zero, List.set_cons_succ, Nat.reduceAdd, Nat.reduceEqDiff, reduceIte]
          refine ⟨fun x y w8 hG hW => ?_, fun x y w8 hG hW => ?_, fun x y w8 hG hW => ?_, fun y w8 hG hW => ?_, fun x y w8 hG hW => ?_, fun x y w8 hG hW => ?_, fun x y w8 hG hW => ?_, fun x w8 hG hW => ?_, fun x y w8 hG hW => ?_, trivial⟩
          · clear hW
            refine stepAt_value rfl rfl rfl (.pointer (some ⟨X, 1, none⟩)) w8 ?_ ⟨rfl, Below.refl _ _⟩
            go_simp
          · have q0 := hW 0 (by decide)
            simp only at q0
            rw [q0]
            clear hW
            refine stepAt_value rfl rfl rfl (.pointer (some ⟨wb, 0, none⟩)) w8 ?_ ⟨rfl, Below.refl _ _⟩
            have hh := hG.1.hX.cell 1
            simp only [prv, List.getElem?_cons_succ, List.getElem?_cons_zero] at hh
            go_simp
          · clear hW
            refine stepAt_value rfl rfl rfl (.slice (some ⟨g7, o7, none⟩) 2 cap7) w8 ?_ ⟨rfl, Below.refl _ _⟩
            go_simp
          · have q1 := hW 1 (by decide)
            simp only at q1
            have q2 := hW 2 (by decide)
            simp only at q2
            rw [q1, q2]
            clear hW
            have hcal := hG.1.psx.apply (dlsA a) (some ⟨g7, o7, none⟩) cap7 g7 o7 HDL.out HDN.out hG.1.la (fun _ => by simp)
            rw [HDK.out] at hcal
            refine stepAt_call rfl rfl rfl 12 #[.pointer (some ⟨wb, 0, none⟩), .slice (some ⟨g7, o7, none⟩) 2 cap7] (by go_simp) (hcal.mono fun e w' ⟨h1, h2, h3, h4⟩ => ⟨_, h1, congrArg (Value.int .i64) HC.out, hG.1.held h4 h3.size h2, hG.2.trans h3⟩)
          · clear hW
            refine stepAt_value rfl rfl rfl (.pointer (some ⟨X, 2, none⟩)) w8 ?_ ⟨rfl, Below.refl _ _⟩
            go_simp
          · have q4 := hW 4 (by decide)
            simp only at q4
            rw [q4]
            clear hW
            refine stepAt_value rfl rfl rfl (.pointer (some ⟨rb, 0, none⟩)) w8 ?_ ⟨rfl, Below.refl _ _⟩
            have hh := hG.1.hX.cell 2
            simp only [prv, List.getElem?_cons_succ, List.getElem?_cons_zero] at hh
            go_simp
          · clear hW
            refine stepAt_value rfl rfl rfl (.slice (some ⟨g8, o8, none⟩) 2 cap8) w8 ?_ ⟨rfl, Below.refl _ _⟩
            go_simp
          · have q5 := hW 5 (by decide)
            simp only at q5
            have q6 := hW 6 (by decide)
            simp only at q6
            rw [q5, q6]
            clear hW
            have hcal := hG.1.psx.refapply (dlsA a) (some ⟨g8, o8, none⟩) cap8 g8 o8 HDL.out HDN.out hG.1.lb (fun _ => by simp)
            rw [HDK.out] at hcal
            refine stepAt_call rfl rfl rfl 40 #[.pointer (some ⟨rb, 0, none⟩), .slice (some ⟨g8, o8, none⟩) 2 cap8] (by go_simp) (hcal.mono fun e w' ⟨h1, h2, h3, h4⟩ => ⟨_, h1, congrArg (Value.int .i64) HC.out, hG.1.held h4 h3.size h2, hG.2.trans h3⟩)
          · have q3 := hW 3 (by decide)
            simp only at q3
            have q7 := hW 7 (by decide)
            simp only at q7
            rw [q3, q7]
            clear hW
            refine stepAt_value rfl rfl rfl (.bool true) w8 ?_ ⟨rfl, Below.refl _ _⟩
            go_simp
        case fin =>
          intro vals w20 hV hMid
          have q8 := hV 8 (by omega)
          simp only at q8
          simp only [List.take_succ_cons, List.take_zero, List.drop_succ_cons, List.drop_zero, putAll, Act.put, List.setIfInBounds_toArray, List.set_cons_zero, List.set_cons_succ, Nat.reduceAdd]
          rw [q8]
          clear hV q8 HMid hcc HC
          have HF := Lib.hid (show PSX B K w20 tb wb mb rb t t (appW t own (dlsA a)).2 (appW t own (dlsA a)).2 from hMid.1.psx.drop _)
          have HKP := Lib.hid hMid.1.kp
          have HBF := Lib.hid hMid.2
          clear hMid
          generalize vals 0 = z0
          generalize vals 1 = z1
          generalize vals 2 = z2
          generalize vals 3 = z3
          generalize vals 4 = z4
          generalize vals 5 = z5
          generalize vals 6 = z6
          generalize vals 7 = z7
          go_wp2_with fail
          go_ret
          exact ⟨rfl, by rw [HKD.out]; exact HF.out, HBF.out, HKP.out⟩
end Go.Proofs.Ytpamifdcbnkcdaa
