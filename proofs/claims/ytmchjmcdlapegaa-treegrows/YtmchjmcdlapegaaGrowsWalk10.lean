/-
  The walk of TreeGrows.
-/
import Derived.Test.YtmchjmcdlapegaaSame10
import Derived.Test.YtmchjmcdlapegaaTNil
import Derived.Test.YtmchjmcdlapegaaFreeTwo
import Derived.Test.YtmchjmcdlapegaaFreePair
namespace Go.Proofs.Ytmchjmcdlapegaa
open Go Go.RowKit
set_option maxRecDepth 10000

/-- A tree and the document's, of the same blocks. -/
def Both (B b m : Nat) (most : Int) (w : World) : Prop := ∃ (t : List Nd) (F G : List Nat), Tre w F b t most ∧ Ref w G m t most ∧ High B F ∧ High B G ∧ Away F G

/-- A tree and the document's ahead of a block's being added to one, or to both. -/
structure Mid (b m gp gr V : Nat) (most : Int) (p r : List UInt8) (x0 x1 x2 : Int) (w1 : World) (tx ty : List Nd) (w : World) : Prop where
  body : ∃ (F G : List Nat), Tre w F b tx most ∧ Ref w G m ty most ∧ High w1.heap.size F ∧ High w1.heap.size G ∧ Away F G ∧ Away [gp, gr, V] F ∧ Away [gp, gr, V] G
  hb : Below w1.heap.size w1 w
  hP : Blk w gp 23 (bv p)
  hR : Blk w gr 23 (bv r)
  hV : Blk w V 42 [.int .i64 x0, .int .i64 x1, .int .i64 x2]

theorem Mid.low {b m gp gr V : Nat} {most : Int} {p r : List UInt8} {x0 x1 x2 : Int} {w1 w : World} {tx ty : List Nd} (h : Mid b m gp gr V most p r x0 x1 x2 w1 tx ty w) : Low w [gp, gr, V] := fun x hx => by
  have h1 := h.hP.lt
  have h2 := h.hR.lt
  have h3 := h.hV.lt
  simp only [List.mem_cons, List.not_mem_nil, or_false] at hx
  rcases hx with e | e | e <;> omega
theorem Mid.below {b m gp gr V : Nat} {most : Int} {p r : List UInt8} {x0 x1 x2 : Int} {w1 w w' : World} {tx ty : List Nd} (h : Mid b m gp gr V most p r x0 x1 x2 w1 tx ty w) (k : Below w.heap.size w w') : Mid b m gp gr V most p r x0 x1 x2 w1 tx ty w' := by
  obtain ⟨⟨F, G, hT, hM, hF, hG, hA, hKF, hKG⟩, hb, hP, hR, hV⟩ := h
  exact ⟨⟨F, G, hT.below k, hM.below k, hF, hG, hA, hKF, hKG⟩, hb.trans (k.mono hb.size), hP.below k hP.lt, hR.below k hR.lt, hV.below k hV.lt⟩
theorem Mid.both {b m gp gr V : Nat} {most : Int} {p r : List UInt8} {x0 x1 x2 : Int} {w1 w : World} {t : List Nd} (h : Mid b m gp gr V most p r x0 x1 x2 w1 t t w) : Both w1.heap.size b m most w := by
  obtain ⟨⟨F, G, hT, hM, hF, hG, hA, hKF, hKG⟩, hb, hP, hR, hV⟩ := h
  exact ⟨t, F, G, hT, hM, hF, hG, hA⟩
theorem Mid.add {b m gp gr V : Nat} {most : Int} {p r : List UInt8} {x0 x1 x2 : Int} {w1 w : World} {t ty : List Nd} (h : Mid b m gp gr V most p r x0 x1 x2 w1 t ty w) (hr : r.length = 32) (hp : p.length = 32) :
    Calls Try.prog 10 #[.pointer (some ⟨b, 0, none⟩), .agg (bv r).toArray, .agg (bv p).toArray, .int .i64 x2] w fun e w' => e = .returned (.int .i64 (addT most t r p x2).1) ∧ Mid b m gp gr V most p r x0 x1 x2 w1 (addT most t r p x2).2 ty w' := by
  have hlow := h.low
  obtain ⟨⟨F, G, hT, hM, hF, hG, hA, hKF, hKG⟩, hb, hP, hR, hV⟩ := h
  refine (add_any w F b t most r p x2 hT hr hp).mono ?_
  rintro e w' ⟨rfl, F2, ht, hk, hn⟩
  exact ⟨rfl, ⟨F2, G, ht, hM.keep hk hA.symm, hF.new hn hb.size, hG, hA.new hn hM.low, hKF.new' hn hlow, hKG⟩, hb.trans (hk.below hb.size hF), hP.kept hk (hKF gp (by simp)), hR.kept hk (hKF gr (by simp)), hV.kept hk (hKF V (by simp))⟩
theorem Mid.refadd {b m gp gr V : Nat} {most : Int} {p r : List UInt8} {x0 x1 x2 : Int} {w1 w : World} {tx t : List Nd} (h : Mid b m gp gr V most p r x0 x1 x2 w1 tx t w) (hr : r.length = 32) (hp : p.length = 32) :
    Calls Try.prog 21 #[.pointer (some ⟨m, 0, none⟩), .agg (bv r).toArray, .agg (bv p).toArray, .int .i64 x2] w fun e w' => e = .returned (.int .i64 (addT most t r p x2).1) ∧ Mid b m gp gr V most p r x0 x1 x2 w1 tx (addT most t r p x2).2 w' := by
  have hlow := h.low
  obtain ⟨⟨F, G, hT, hM, hF, hG, hA, hKF, hKG⟩, hb, hP, hR, hV⟩ := h
  refine (refadd_any w G m t most r p x2 hM hr hp).mono ?_
  rintro e w' ⟨rfl, G2, hm, hk, hn⟩
  exact ⟨rfl, ⟨F, G2, hT.keep hk hA, hm, hF, hG.new hn hb.size, hA.new' hn hT.low, hKF, hKG.new' hn hlow⟩, hb.trans (hk.below hb.size hG), hP.kept hk (hKG gp (by simp)), hR.kept hk (hKG gr (by simp)), hV.kept hk (hKG V (by simp))⟩

theorem nil_names {w : World} {base : Nat} {v : Value} (h : Wide 32 w base v (rv [])) : ∃ ao cap, v = .slice ao 0 cap := by
  obtain ⟨ao, cap, _, _, e, _⟩ := wide_names h (fun x hx => by cases hx)
  exact ⟨ao, cap, e⟩

set_option maxRecDepth 100000 in
set_option maxHeartbeats 16000000 in
theorem grows_any (w : World) (r : List UInt8) (a1 a2 : Int) (ao : Option Addr) (len cap g off : Nat) (l : List Ad) (q : List UInt8) (hr : r.length = 32) (hl : l.length = len) (h : Lies w w.heap.size ao g off (av l)) (hq : q.length = 32) :
    Calls Try.prog 3 #[.agg (bv r).toArray, .int .i64 a1, .int .i64 a2, .slice ao len cap, .agg (bv q).toArray] w fun e w' => e = .returned (.bool true) ∧ Below w.heap.size w w' := by
  obtain ⟨Y, hY⟩ : ∃ Y, Y = w.heap.size + 1 := ⟨_, rfl⟩
  obtain ⟨X, hX⟩ : ∃ X, X = w.heap.size := ⟨_, rfl⟩
  have HRL := Lib.hid hr
  have HQL := Lib.hid hq
  have HN := Lib.hid hl
  have hb0 : Below w.heap.size w ((w.alloc (.cells (bv r).toArray 23)).alloc (.cells (bv q).toArray 23)) := ((Below.refl _ w).alloc (Nat.le_refl _) _).alloc (by simp) _
  have HX1 := Lib.hid (show Blk ((w.alloc (.cells (bv r).toArray 23)).alloc (.cells (bv q).toArray 23)) X 23 (bv r) by rw [hX]; exact (Blk.new w 23 (bv r).toArray).alloc (.cells (bv q).toArray 23))
  have HY1 := Lib.hid (show Blk ((w.alloc (.cells (bv r).toArray 23)).alloc (.cells (bv q).toArray 23)) Y 23 (bv q) from Blk.newAt (w.alloc (.cells (bv r).toArray 23)) 23 (bv q).toArray Y (by rw [hY]; simp))
  have HL1 := Lib.hid (h.below hb0)
  have HB0 := Lib.hid hb0
  clear hr hq hl h hb0
  go_enter Try.func3, Try.ntmps3
  go_upto_region 1 with fail
  rw [← hY, ← hX]
  generalize (w.alloc (.cells (bv r).toArray 23)).alloc (.cells (bv q).toArray 23) = w1 at HX1 HY1 HB0 HL1 ⊢
  have HXE := Lib.hid hX
  clear hX hY
  have HB := Lib.hid (Below.refl w1.heap.size w1)
  go_wp2_with fail
  refine (alive_any w1).mono ?_
  rintro e w2 ⟨rfl, hbc⟩
  replace HB := Lib.hid (HB.out.trans (hbc.mono HB.out.size))
  clear hbc
  by_cases h100 : (100 : Int) < (len : Int)
  · go_wp2_with fail
    go_ret
    exact ⟨rfl, HB0.out.trans (HB.out.mono HB0.out.size)⟩
  have HYc := Lib.hid (HY1.out.below HB.out HY1.out.lt)
  go_wp2_with ((with_reducible refine wpList_load_name (.tmp 9) ?_ ?_ Y 0 q ?_ HQL.out HYc.out.rootAll ?_); rfl; rfl; rfl)
  clear HYc
  refine (add_nil w2 q q 1).mono ?_
  rintro e w3 ⟨rfl, hbc⟩
  replace HB := Lib.hid (HB.out.trans (hbc.mono HB.out.size))
  clear hbc
  have HYc := Lib.hid (HY1.out.below HB.out HY1.out.lt)
  go_wp2_with ((with_reducible refine wpList_load_name (.tmp 9) ?_ ?_ Y 0 q ?_ HQL.out HYc.out.rootAll ?_); rfl; rfl; rfl)
  clear HYc
  refine (place_nil w3 q).mono ?_
  rintro e w4 ⟨rfl, hbc⟩
  replace HB := Lib.hid (HB.out.trans (hbc.mono HB.out.size))
  clear hbc
  go_wp2_with fail
  refine (len_nil w4).mono ?_
  rintro e wz ⟨rfl, hww⟩
  have hww := hww.symm
  subst hww
  go_wp2_with fail
  refine (room_nil w4).mono ?_
  rintro e wz ⟨rfl, hww⟩
  have hww := hww.symm
  subst hww
  have HYc := Lib.hid (HY1.out.below HB.out HY1.out.lt)
  go_wp2_with ((with_reducible refine wpList_load_name (.tmp 9) ?_ ?_ Y 0 q ?_ HQL.out HYc.out.rootAll ?_); rfl; rfl; rfl)
  clear HYc
  refine (below_nil w4 q q HQL.out HQL.out).mono ?_
  rintro e w5 ⟨rfl, hbc⟩
  replace HB := Lib.hid (HB.out.trans (hbc.mono HB.out.size))
  clear hbc
  have HYc := Lib.hid (HY1.out.below HB.out HY1.out.lt)
  go_wp2_with ((with_reducible refine wpList_load_name (.tmp 9) ?_ ?_ Y 0 q ?_ HQL.out HYc.out.rootAll ?_); rfl; rfl; rfl)
  clear HYc
  refine (kids_nil w5 q HQL.out).mono ?_
  rintro e w6 ⟨v, rfl, hwv, hbc⟩
  obtain ⟨nao, ncap, rfl⟩ := nil_names hwv
  clear hwv
  replace HB := Lib.hid (HB.out.trans (hbc.mono HB.out.size))
  clear hbc
  go_wp2_with fail
  refine (roots_nil w6).mono ?_
  rintro e w7 ⟨v, rfl, hwv, hbc⟩
  obtain ⟨nao, ncap, rfl⟩ := nil_names hwv
  clear hwv
  replace HB := Lib.hid (HB.out.trans (hbc.mono HB.out.size))
  clear hbc
  have HXc := Lib.hid (HX1.out.below HB.out HX1.out.lt)
  by_cases hok : 1 ≤ a2 ∧ a2 ≤ 256 ∧ 0 ≤ a1 ∧ a1 ≤ 1073741824
  rotate_left
  · go_wp2_with ((with_reducible refine wpList_load_name (.tmp 5) ?_ ?_ X 0 r ?_ HRL.out HXc.out.rootAll ?_); rfl; rfl; rfl)
    refine (new_bad w7 r a1 a2 hok).mono ?_
    rintro e w8 ⟨rfl, hbc⟩
    replace HB := Lib.hid (HB.out.trans (hbc.mono HB.out.size))
    replace HXc := Lib.hid (HX1.out.below HB.out HX1.out.lt)
    clear hbc
    go_wp2_with ((with_reducible refine wpList_load_name (.tmp 5) ?_ ?_ X 0 r ?_ HRL.out HXc.out.rootAll ?_); rfl; rfl; rfl)
    refine (refnew_bad w8 r a1 a2 hok).mono ?_
    rintro e w9 ⟨rfl, hbc⟩
    replace HB := Lib.hid (HB.out.trans (hbc.mono HB.out.size))
    clear hbc
    go_wp2_with fail
    go_ret
    exact ⟨rfl, HB0.out.trans (HB.out.mono HB0.out.size)⟩
  have HA := Lib.hid hok
  clear hok
  go_wp2_with ((with_reducible refine wpList_load_name (.tmp 5) ?_ ?_ X 0 r ?_ HRL.out HXc.out.rootAll ?_); rfl; rfl; rfl)
  refine (new_ok w7 r a1 a2 HRL.out HA.out.1 HA.out.2.1 HA.out.2.2.1 HA.out.2.2.2).mono ?_
  rintro e w10 ⟨F, b, rfl, ht, hf, hbc⟩
  have HT := Lib.hid ht
  have HF := Lib.hid (hf.mono HB.out.size)
  clear ht hf
  replace HB := Lib.hid (HB.out.trans (hbc.mono HB.out.size))
  clear hbc
  replace HXc := Lib.hid (HX1.out.below HB.out HX1.out.lt)
  go_wp2_with ((with_reducible refine wpList_load_name (.tmp 5) ?_ ?_ X 0 r ?_ HRL.out HXc.out.rootAll ?_); rfl; rfl; rfl)
  refine (refnew_ok w10 r a1 a2 HRL.out HA.out.1 HA.out.2.1 HA.out.2.2.1 HA.out.2.2.2).mono ?_
  rintro e w11 ⟨G, m, rfl, hm, hg, hbc⟩
  have HM := Lib.hid hm
  have HAW := Lib.hid (show Away F G from Away.high HT.out.low hg)
  have HG := Lib.hid (hg.mono HB.out.size)
  replace HT := Lib.hid (HT.out.below hbc)
  clear hm hg HXc
  replace HB := Lib.hid (HB.out.trans (hbc.mono HB.out.size))
  clear hbc
  go_wp2_with fail
  refine (same_any w11 F G b m [(r, a1, -1)] a2 HT.out HM.out).mono ?_
  rintro e w12 ⟨rfl, hbc⟩
  replace HT := Lib.hid (HT.out.below hbc)
  replace HM := Lib.hid (HM.out.below hbc)
  replace HB := Lib.hid (HB.out.trans (hbc.mono HB.out.size))
  clear hbc
  have HBO := Lib.hid (show Both w1.heap.size b m a2 w12 from ⟨_, F, G, HT.out, HM.out, HF.out, HG.out, HAW.out⟩)
  clear HT HM HF HG HAW
  go_wp2_with fail
  go_loopw [97] (fun i wr => ∃ (k : Nat), k ≤ len ∧ i = .int .i64 k ∧ Hid (Both w1.heap.size b m a2 wr) ∧ Hid (Below w1.heap.size w1 wr)) (fun i _ => len - (intOf i).toNat)
  case atStart => exact ⟨0, Nat.zero_le _, rfl, HBO, HB⟩
  case round =>
    clear HBO HB
    obtain ⟨k, hk, rfl, HBO, HB⟩ := hrel
    by_cases hlt : k < len
    · obtain ⟨a, ha⟩ : ∃ a, l[k]? = some a := ⟨_, List.getElem?_eq_getElem (by rw [HN.out]; exact hlt)⟩
      obtain ⟨hao, q0, q1, q2⟩ := (HL1.out.below HB.out).add ha
      subst hao
      obtain ⟨x0, x1, x2⟩ := a
      simp only at q0 q1 q2
      clear ha
      obtain ⟨t, F, G, hT, hM, hF, hG, hAW⟩ := HBO.out
      have HT := Lib.hid hT
      have HM := Lib.hid hM
      have HF := Lib.hid hF
      have HG := Lib.hid hG
      have HAW := Lib.hid hAW
      clear hT hM hF hG hAW HBO
      obtain ⟨V, hV⟩ : ∃ V, V = wr.heap.size := ⟨_, rfl⟩
      have HTL := Lib.hid (show (∀ x ∈ F, x < V) ∧ (∀ x ∈ G, x < V) by rw [hV]; exact ⟨HT.out.low, HM.out.low⟩)
      have HV := Lib.hid (Blk.new wr 42 #[.int .i64 x0, .int .i64 x1, .int .i64 x2])
      have hb5 : Below wr.heap.size wr (wr.alloc (.cells #[.int .i64 x0, .int .i64 x1, .int .i64 x2] 42)) := (Below.refl _ _).alloc (Nat.le_refl _) _
      replace HT := Lib.hid (HT.out.below hb5)
      replace HM := Lib.hid (HM.out.below hb5)
      replace HB := Lib.hid (HB.out.trans (hb5.mono HB.out.size))
      have HWR := Lib.hid (show wrap64 ((k : Int) + 1) = (k : Int) + 1 by unfold wrap64; omega)
      clear hb5
      go_upto_region 17 with fail
      rw [← hV] at HV ⊢
      generalize wr.alloc (.cells _ 42) = w5 at HV HT HM HB ⊢
      clear hV q0 q1 q2
      refine wp_region_freeP (P := Try.prog) 8 6 7 (by decide) (by decide) (by decide) (fun w' => Below w5.heap.size w5 w') (fun oq v w' => match oq with
        | 0 => v = .pointer (some ⟨V, 1, none⟩)
        | 1 => v = .int .i64 x1
        | 2 => v = .agg (bv (nmN x1)).toArray
        | 3 => v = .pointer (some ⟨V, 0, none⟩)
        | 4 => v = .int .i64 x0
        | 5 => v = .agg (bv (nmN x0)).toArray
        | 6 => ∃ g, v = .pointer (some ⟨g, 0, none⟩) ∧ w5.heap.size ≤ g ∧ Blk w' g 23 (bv zero32)
        | 7 => ∃ g, v = .pointer (some ⟨g, 0, none⟩) ∧ w5.heap.size ≤ g ∧ Blk w' g 23 (bv zero32)
        | _ => True) (by kernel_rfl) (by kernel_rfl) (Below.refl _ _).drew ?gb ?vb ?n1 ?n2 ?steps ?fin
      case gb => exact fun a b h1 h2 => h1.trans (h2.mono h1.size)
      case vb =>
        intro oq v a b h hb
        match oq with
        | 0 => exact h
        | 1 => exact h
        | 2 => exact h
        | 3 => exact h
        | 4 => exact h
        | 5 => exact h
        | 6 =>
          obtain ⟨g, e, h1, h2⟩ := h
          exact ⟨g, e, h1, h2.below hb h2.lt⟩
        | 7 =>
          obtain ⟨g, e, h1, h2⟩ := h
          exact ⟨g, e, h1, h2.below hb h2.lt⟩
        | _ + 8 => trivial
      case n1 =>
        rintro v w ⟨g, e, _, h⟩
        exact ⟨g, e, h.lt⟩
      case n2 =>
        rintro v w ⟨g, e, _, h⟩
        exact ⟨g, e, h.lt⟩
      case steps =>
        intro vals
        simp only [List.take_succ_cons, List.take_zero, freeStepsP, Act.put, List.setIfInBounds_toArray, List.set_cons_zero, List.set_cons_succ, Nat.reduceAdd, Nat.reduceEqDiff, reduceIte]
        refine ⟨fun w8 hG hW => ?_, fun w8 hG hW => ?_, fun w8 hG hW => ?_, fun w8 hG hW => ?_, fun w8 hG hW => ?_, fun w8 hG hW => ?_, fun w8 hG hW => ?_, fun w8 hG hW => ?_, trivial⟩
        · clear hW
          refine stepAt_value rfl rfl rfl (.pointer (some ⟨V, 1, none⟩)) w8 ?_ ⟨rfl, Below.refl _ _⟩
          go_simp
        · have q0 := hW 0 (by decide)
          simp only at q0
          rw [q0]
          clear hW
          refine stepAt_value rfl rfl rfl (.int .i64 x1) w8 ?_ ⟨rfl, Below.refl _ _⟩
          have hh := ((HV.out.below hG HV.out.lt).cell 1)
          go_simp
        · have q1 := hW 1 (by decide)
          simp only at q1
          rw [q1]
          clear hW
          refine stepAt_call rfl rfl rfl 20 #[.int .i64 x1] (by go_simp) ((name_any w8 x1).mono fun e w' ⟨h1, h2⟩ => ⟨_, h1, rfl, h2⟩)
        · clear hW
          refine stepAt_value rfl rfl rfl (.pointer (some ⟨V, 0, none⟩)) w8 ?_ ⟨rfl, Below.refl _ _⟩
          go_simp
        · have q3 := hW 3 (by decide)
          simp only at q3
          rw [q3]
          clear hW
          refine stepAt_value rfl rfl rfl (.int .i64 x0) w8 ?_ ⟨rfl, Below.refl _ _⟩
          have hh := ((HV.out.below hG HV.out.lt).cell 0)
          go_simp
        · have q4 := hW 4 (by decide)
          simp only at q4
          rw [q4]
          clear hW
          refine stepAt_call rfl rfl rfl 20 #[.int .i64 x0] (by go_simp) ((name_any w8 x0).mono fun e w' ⟨h1, h2⟩ => ⟨_, h1, rfl, h2⟩)
        · clear hW
          refine stepAt_value rfl rfl rfl (.pointer (some ⟨w8.heap.size, 0, none⟩)) (w8.alloc (.cells #[.int .u8 0, .int .u8 0, .int .u8 0, .int .u8 0, .int .u8 0, .int .u8 0, .int .u8 0, .int .u8 0, .int .u8 0, .int .u8 0, .int .u8 0, .int .u8 0, .int .u8 0, .int .u8 0, .int .u8 0, .int .u8 0, .int .u8 0, .int .u8 0, .int .u8 0, .int .u8 0, .int .u8 0, .int .u8 0, .int .u8 0, .int .u8 0, .int .u8 0, .int .u8 0, .int .u8 0, .int .u8 0, .int .u8 0, .int .u8 0, .int .u8 0, .int .u8 0] 23)) ?_ ⟨⟨_, rfl, hG.size, blk_zeroR w8⟩, (Below.refl _ _).alloc (Nat.le_refl _) _, rfl⟩
          go_simp
        · clear hW
          refine stepAt_value rfl rfl rfl (.pointer (some ⟨w8.heap.size, 0, none⟩)) (w8.alloc (.cells #[.int .u8 0, .int .u8 0, .int .u8 0, .int .u8 0, .int .u8 0, .int .u8 0, .int .u8 0, .int .u8 0, .int .u8 0, .int .u8 0, .int .u8 0, .int .u8 0, .int .u8 0, .int .u8 0, .int .u8 0, .int .u8 0, .int .u8 0, .int .u8 0, .int .u8 0, .int .u8 0, .int .u8 0, .int .u8 0, .int .u8 0, .int .u8 0, .int .u8 0, .int .u8 0, .int .u8 0, .int .u8 0, .int .u8 0, .int .u8 0, .int .u8 0, .int .u8 0] 23)) ?_ ⟨⟨_, rfl, hG.size, blk_zeroR w8⟩, (Below.refl _ _).alloc (Nat.le_refl _) _, rfl⟩
          go_simp
      case fin =>
        intro vals w10 hG hV hne
        have q2 := hV 2 (by omega)
        have q5 := hV 5 (by omega)
        have q6 := hV 6 (by omega)
        have q7 := hV 7 (by omega)
        simp only at q2 q5 q6 q7
        obtain ⟨gp, q6, hgp, hP⟩ := q6
        obtain ⟨gr, q7, hgr, hR⟩ := q7
        rw [q6, q7] at hne
        have hnn : gp ≠ gr := fun x => hne (by rw [x])
        simp only [List.take_succ_cons, List.take_zero, List.drop_succ_cons, List.drop_zero, putAll, Act.put, List.setIfInBounds_toArray, List.set_cons_zero, List.set_cons_succ, Nat.reduceAdd]
        rw [q2, q5, q6, q7]
        clear hV q2 q5 q6 q7 hne
        generalize vals 0 = y0
        generalize vals 1 = y1
        generalize vals 3 = y3
        generalize vals 4 = y4
        have HZL := Lib.hid zero32_len
        have HP0 := Lib.hid hP
        have HGE := Lib.hid (show w5.heap.size ≤ gp ∧ w5.heap.size ≤ gr from ⟨hgp, hgr⟩)
        have HP1 := Lib.hid (HP0.out.setRow (bv (nmN x1)))
        have HR1 := Lib.hid (hR.setRow_other (bv (nmN x1)).toArray hnn.symm)
        have HR2 := Lib.hid (HR1.out.setRow (bv (nmN x0)))
        have HP2 := Lib.hid (HP1.out.setRow_other (bv (nmN x0)).toArray hnn)
        have HBc := Lib.hid (show Below w5.heap.size w5 ((w10.setRow gp (bv (nmN x1)).toArray).setRow gr (bv (nmN x0)).toArray) from below_row (below_row hG hgp _) hgr _)
        have HNN := Lib.hid hnn
        have HL1p := Lib.hid (nmN_len x1)
        have HL0r := Lib.hid (nmN_len x0)
        clear hP hR hgp hgr hnn hG
        go_upto_region 18 with (first
          | ((with_reducible refine wpList_store_name (.tmp 18) (.tmp 104) ?_ ?_ gp zero32 (nmN x1) ?_ ?_ HP0.out HZL.out HL1p.out ?_); rfl; rfl; rfl; rfl)
          | ((with_reducible refine wpList_store_name (.tmp 19) (.tmp 107) ?_ ?_ gr zero32 (nmN x0) ?_ ?_ HR1.out HZL.out HL0r.out ?_); rfl; rfl; rfl; rfl))
        clear HP0 HR1 HP1 HZL
        generalize (w10.setRow gp (bv (nmN x1)).toArray).setRow gr (bv (nmN x0)).toArray = w11 at HP2 HR2 HBc ⊢
        generalize nmN x1 = n1 at HP2 HL1p ⊢
        generalize nmN x0 = n0 at HR2 HL0r ⊢
        have HVc := Lib.hid (HV.out.below HBc.out HV.out.lt)
        have c1 : w11.cell? ⟨V, 1, none⟩ = some (.int .i64 x1) := HVc.out.cell 1
        obtain ⟨B0, hB0⟩ : ∃ B, (x1 == 0) = B := ⟨_, rfl⟩
        obtain ⟨B5, hB5⟩ : ∃ B, ((k : Int) == 5) = B := ⟨_, rfl⟩
        cases B0
        · cases B5
          · go_upto_region 22 with fail
            have HMid := Lib.hid (show Mid b m gp gr V a2 n1 n0 x0 x1 x2 w1 t t w11 from ⟨⟨F, G, HT.out.below HBc.out, HM.out.below HBc.out, HF.out, HG.out, HAW.out, fun x hx hxf => by
                have h1 := HTL.out.1 x hxf
                have h2 := HV.out.lt
                have h3 := HGE.out
                simp only [List.mem_cons, List.not_mem_nil, or_false] at hx
                rcases hx with e | e | e <;> omega, fun x hx hxf => by
                have h1 := HTL.out.2 x hxf
                have h2 := HV.out.lt
                have h3 := HGE.out
                simp only [List.mem_cons, List.not_mem_nil, or_false] at hx
                rcases hx with e | e | e <;> omega⟩, HB.out.trans (HBc.out.mono HB.out.size), HP2.out, HR2.out, HV.out.below HBc.out HV.out.lt⟩)
            clear HP2 HR2 HBc HVc c1 HB HT HM HF HG HAW HTL HGE HNN HV
            obtain ⟨C, hC⟩ : ∃ C, (addT a2 t n0 n1 x2).1 = C := ⟨_, rfl⟩
            have HC := Lib.hid hC
            have hcc : (C == C) = true := beq_self_eq_true C
            clear hC
            refine wp_region_freeD (P := Try.prog) 13 5 11 (by decide) (by decide) (by decide) (fun i => match i with
              | 0 => .pointer (some ⟨b, 0, none⟩)
              | 1 => .agg (bv n0).toArray
              | 2 => .agg (bv n1).toArray
              | 3 => .pointer (some ⟨V, 2, none⟩)
              | 4 => .int .i64 x2
              | 5 => .int .i64 C
              | 6 => .pointer (some ⟨m, 0, none⟩)
              | 7 => .agg (bv n0).toArray
              | 8 => .agg (bv n1).toArray
              | 9 => .pointer (some ⟨V, 2, none⟩)
              | 10 => .int .i64 x2
              | 11 => .int .i64 C
              | 12 => .bool false
              | _ => undef) (fun x y w' => Mid b m gp gr V a2 n1 n0 x0 x1 x2 w1 (cond x (addT a2 t n0 n1 x2).2 t) (cond y (addT a2 t n0 n1 x2).2 t) w') (by kernel_rfl) (by kernel_rfl) (HMid.out.below (Below.refl _ _).drew) ?pb ?steps ?fin
            case pb => exact fun x y a b h hb => h.below hb
            case steps =>
              intro vals
              simp only [List.take_succ_cons, List.take_zero, freeStepsD, Act.put, List.setIfInBounds_toArray, List.set_cons_zero, List.set_cons_succ, Nat.reduceAdd, Nat.reduceEqDiff, reduceIte]
              refine ⟨fun x y w8 hG hW => ?_, fun x y w8 hG hW => ?_, fun x y w8 hG hW => ?_, fun x y w8 hG hW => ?_, fun x y w8 hG hW => ?_, fun y w8 hG hW => ?_, fun x y w8 hG hW => ?_, fun x y w8 hG hW => ?_, fun x y w8 hG hW => ?_, fun x y w8 hG hW => ?_, fun x y w8 hG hW => ?_, fun x w8 hG hW => ?_, fun x y w8 hG hW => ?_, trivial⟩
              · clear hW
                refine stepAt_value rfl rfl rfl (.pointer (some ⟨b, 0, none⟩)) w8 ?_ ⟨rfl, Below.refl _ _⟩
                go_simp
              · clear hW
                refine stepAt_load_run rfl rfl rfl _ _ rfl _ _ rfl (run_load_root HL0r.out hG.hR.rootAll) ⟨rfl, Below.refl _ _⟩
              · clear hW
                refine stepAt_load_run rfl rfl rfl _ _ rfl _ _ rfl (run_load_root HL1p.out hG.hP.rootAll) ⟨rfl, Below.refl _ _⟩
              · clear hW
                refine stepAt_value rfl rfl rfl (.pointer (some ⟨V, 2, none⟩)) w8 ?_ ⟨rfl, Below.refl _ _⟩
                go_simp
              · have q3 := hW 3 (by decide)
                simp only at q3
                rw [q3]
                clear hW
                refine stepAt_value rfl rfl rfl (.int .i64 x2) w8 ?_ ⟨rfl, Below.refl _ _⟩
                have hh := hG.hV.cell 2
                go_simp
              · have q0 := hW 0 (by decide)
                simp only at q0
                have q1 := hW 1 (by decide)
                simp only at q1
                have q2 := hW 2 (by decide)
                simp only at q2
                have q4 := hW 4 (by decide)
                simp only at q4
                rw [q0, q1, q2, q4]
                clear hW
                refine stepAt_call rfl rfl rfl 10 #[.pointer (some ⟨b, 0, none⟩), .agg (bv n0).toArray, .agg (bv n1).toArray, .int .i64 x2] (by go_simp) ((hG.add HL0r.out HL1p.out).mono fun e w' ⟨h1, h2⟩ => ⟨_, h1, congrArg (Value.int .i64) HC.out, h2⟩)
              · clear hW
                refine stepAt_value rfl rfl rfl (.pointer (some ⟨m, 0, none⟩)) w8 ?_ ⟨rfl, Below.refl _ _⟩
                go_simp
              · clear hW
                refine stepAt_load_run rfl rfl rfl _ _ rfl _ _ rfl (run_load_root HL0r.out hG.hR.rootAll) ⟨rfl, Below.refl _ _⟩
              · clear hW
                refine stepAt_load_run rfl rfl rfl _ _ rfl _ _ rfl (run_load_root HL1p.out hG.hP.rootAll) ⟨rfl, Below.refl _ _⟩
              · clear hW
                refine stepAt_value rfl rfl rfl (.pointer (some ⟨V, 2, none⟩)) w8 ?_ ⟨rfl, Below.refl _ _⟩
                go_simp
              · have q9 := hW 9 (by decide)
                simp only at q9
                rw [q9]
                clear hW
                refine stepAt_value rfl rfl rfl (.int .i64 x2) w8 ?_ ⟨rfl, Below.refl _ _⟩
                have hh := hG.hV.cell 2
                go_simp
              · have q6 := hW 6 (by decide)
                simp only at q6
                have q7 := hW 7 (by decide)
                simp only at q7
                have q8 := hW 8 (by decide)
                simp only at q8
                have q10 := hW 10 (by decide)
                simp only at q10
                rw [q6, q7, q8, q10]
                clear hW
                refine stepAt_call rfl rfl rfl 21 #[.pointer (some ⟨m, 0, none⟩), .agg (bv n0).toArray, .agg (bv n1).toArray, .int .i64 x2] (by go_simp) ((hG.refadd HL0r.out HL1p.out).mono fun e w' ⟨h1, h2⟩ => ⟨_, h1, congrArg (Value.int .i64) HC.out, h2⟩)
              · have q5 := hW 5 (by decide)
                simp only at q5
                have q11 := hW 11 (by decide)
                simp only at q11
                rw [q5, q11]
                clear hW
                refine stepAt_value rfl rfl rfl (.bool false) w8 ?_ ⟨rfl, Below.refl _ _⟩
                go_simp
            case fin =>
              intro vals w20 hV hMid
              have q12 := hV 12 (by omega)
              simp only at q12
              simp only [List.take_succ_cons, List.take_zero, List.drop_succ_cons, List.drop_zero, putAll, Act.put, List.setIfInBounds_toArray, List.set_cons_zero, List.set_cons_succ, Nat.reduceAdd]
              rw [q12]
              clear hV q12 HMid hcc HC
              have HBO2 := Lib.hid hMid.both
              have HB2 := Lib.hid hMid.hb
              clear hMid
              generalize vals 0 = z0
              generalize vals 1 = z1
              generalize vals 2 = z2
              generalize vals 3 = z3
              generalize vals 4 = z4
              generalize vals 5 = z5
              generalize vals 6 = z6
              generalize vals 7 = z7
              generalize vals 8 = z8
              generalize vals 9 = z9
              generalize vals 10 = z10
              generalize vals 11 = z11
              go_wp2_with fail
              refine ⟨⟨k + 1, by omega, by go_num, HBO2, HB2⟩, ?_⟩
              first | exact meas len k ((k : Int) + 1) (by omega) hlt | exact meas len k (wrap64 ((k : Int) + 1)) (by rw [HWR.out]; omega) hlt
          · have HYc := Lib.hid (HY1.out.below (HB.out.trans (HBc.out.mono HB.out.size)) HY1.out.lt)
            have HR4 := Lib.hid (HR2.out.setRow (bv q))
            have HP4 := Lib.hid (HP2.out.setRow_other (bv q).toArray HNN.out)
            replace HBc := Lib.hid (below_row HBc.out HGE.out.2 (bv q).toArray)
            go_upto_region 22 with (first
              | ((with_reducible refine wpList_load_name (.tmp 9) ?_ ?_ Y 0 q ?_ HQL.out HYc.out.rootAll ?_); rfl; rfl; rfl)
              | ((with_reducible refine wpList_store_name (.tmp 19) (.tmp 114) ?_ ?_ gr n0 q ?_ ?_ HR2.out HL0r.out HQL.out ?_); rfl; rfl; rfl; rfl))
            clear HP2 HR2 HYc
            generalize w11.setRow gr (bv q).toArray = w13 at HP4 HR4 HBc ⊢
            have HMid := Lib.hid (show Mid b m gp gr V a2 n1 q x0 x1 x2 w1 t t w13 from ⟨⟨F, G, HT.out.below HBc.out, HM.out.below HBc.out, HF.out, HG.out, HAW.out, fun x hx hxf => by
                have h1 := HTL.out.1 x hxf
                have h2 := HV.out.lt
                have h3 := HGE.out
                simp only [List.mem_cons, List.not_mem_nil, or_false] at hx
                rcases hx with e | e | e <;> omega, fun x hx hxf => by
                have h1 := HTL.out.2 x hxf
                have h2 := HV.out.lt
                have h3 := HGE.out
                simp only [List.mem_cons, List.not_mem_nil, or_false] at hx
                rcases hx with e | e | e <;> omega⟩, HB.out.trans (HBc.out.mono HB.out.size), HP4.out, HR4.out, HV.out.below HBc.out HV.out.lt⟩)
            clear HP4 HR4 HBc HVc c1 HB HT HM HF HG HAW HTL HGE HNN HV
            obtain ⟨C, hC⟩ : ∃ C, (addT a2 t q n1 x2).1 = C := ⟨_, rfl⟩
            have HC := Lib.hid hC
            have hcc : (C == C) = true := beq_self_eq_true C
            clear hC
            refine wp_region_freeD (P := Try.prog) 13 5 11 (by decide) (by decide) (by decide) (fun i => match i with
              | 0 => .pointer (some ⟨b, 0, none⟩)
              | 1 => .agg (bv q).toArray
              | 2 => .agg (bv n1).toArray
              | 3 => .pointer (some ⟨V, 2, none⟩)
              | 4 => .int .i64 x2
              | 5 => .int .i64 C
              | 6 => .pointer (some ⟨m, 0, none⟩)
              | 7 => .agg (bv q).toArray
              | 8 => .agg (bv n1).toArray
              | 9 => .pointer (some ⟨V, 2, none⟩)
              | 10 => .int .i64 x2
              | 11 => .int .i64 C
              | 12 => .bool false
              | _ => undef) (fun x y w' => Mid b m gp gr V a2 n1 q x0 x1 x2 w1 (cond x (addT a2 t q n1 x2).2 t) (cond y (addT a2 t q n1 x2).2 t) w') (by kernel_rfl) (by kernel_rfl) (HMid.out.below (Below.refl _ _).drew) ?pb ?steps ?fin
            case pb => exact fun x y a b h hb => h.below hb
            case steps =>
              intro vals
              simp only [List.take_succ_cons, List.take_zero, freeStepsD, Act.put, List.setIfInBounds_toArray, List.set_cons_zero, List.set_cons_succ, Nat.reduceAdd, Nat.reduceEqDiff, reduceIte]
              refine ⟨fun x y w8 hG hW => ?_, fun x y w8 hG hW => ?_, fun x y w8 hG hW => ?_, fun x y w8 hG hW => ?_, fun x y w8 hG hW => ?_, fun y w8 hG hW => ?_, fun x y w8 hG hW => ?_, fun x y w8 hG hW => ?_, fun x y w8 hG hW => ?_, fun x y w8 hG hW => ?_, fun x y w8 hG hW => ?_, fun x w8 hG hW => ?_, fun x y w8 hG hW => ?_, trivial⟩
              · clear hW
                refine stepAt_value rfl rfl rfl (.pointer (some ⟨b, 0, none⟩)) w8 ?_ ⟨rfl, Below.refl _ _⟩
                go_simp
              · clear hW
                refine stepAt_load_run rfl rfl rfl _ _ rfl _ _ rfl (run_load_root HQL.out hG.hR.rootAll) ⟨rfl, Below.refl _ _⟩
              · clear hW
                refine stepAt_load_run rfl rfl rfl _ _ rfl _ _ rfl (run_load_root HL1p.out hG.hP.rootAll) ⟨rfl, Below.refl _ _⟩
              · clear hW
                refine stepAt_value rfl rfl rfl (.pointer (some ⟨V, 2, none⟩)) w8 ?_ ⟨rfl, Below.refl _ _⟩
                go_simp
              · have q3 := hW 3 (by decide)
                simp only at q3
                rw [q3]
                clear hW
                refine stepAt_value rfl rfl rfl (.int .i64 x2) w8 ?_ ⟨rfl, Below.refl _ _⟩
                have hh := hG.hV.cell 2
                go_simp
              · have q0 := hW 0 (by decide)
                simp only at q0
                have q1 := hW 1 (by decide)
                simp only at q1
                have q2 := hW 2 (by decide)
                simp only at q2
                have q4 := hW 4 (by decide)
                simp only at q4
                rw [q0, q1, q2, q4]
                clear hW
                refine stepAt_call rfl rfl rfl 10 #[.pointer (some ⟨b, 0, none⟩), .agg (bv q).toArray, .agg (bv n1).toArray, .int .i64 x2] (by go_simp) ((hG.add HQL.out HL1p.out).mono fun e w' ⟨h1, h2⟩ => ⟨_, h1, congrArg (Value.int .i64) HC.out, h2⟩)
              · clear hW
                refine stepAt_value rfl rfl rfl (.pointer (some ⟨m, 0, none⟩)) w8 ?_ ⟨rfl, Below.refl _ _⟩
                go_simp
              · clear hW
                refine stepAt_load_run rfl rfl rfl _ _ rfl _ _ rfl (run_load_root HQL.out hG.hR.rootAll) ⟨rfl, Below.refl _ _⟩
              · clear hW
                refine stepAt_load_run rfl rfl rfl _ _ rfl _ _ rfl (run_load_root HL1p.out hG.hP.rootAll) ⟨rfl, Below.refl _ _⟩
              · clear hW
                refine stepAt_value rfl rfl rfl (.pointer (some ⟨V, 2, none⟩)) w8 ?_ ⟨rfl, Below.refl _ _⟩
                go_simp
              · have q9 := hW 9 (by decide)
                simp only at q9
                rw [q9]
                clear hW
                refine stepAt_value rfl rfl rfl (.int .i64 x2) w8 ?_ ⟨rfl, Below.refl _ _⟩
                have hh := hG.hV.cell 2
                go_simp
              · have q6 := hW 6 (by decide)
                simp only at q6
                have q7 := hW 7 (by decide)
                simp only at q7
                have q8 := hW 8 (by decide)
                simp only at q8
                have q10 := hW 10 (by decide)
                simp only at q10
                rw [q6, q7, q8, q10]
                clear hW
                refine stepAt_call rfl rfl rfl 21 #[.pointer (some ⟨m, 0, none⟩), .agg (bv q).toArray, .agg (bv n1).toArray, .int .i64 x2] (by go_simp) ((hG.refadd HQL.out HL1p.out).mono fun e w' ⟨h1, h2⟩ => ⟨_, h1, congrArg (Value.int .i64) HC.out, h2⟩)
              · have q5 := hW 5 (by decide)
                simp only at q5
                have q11 := hW 11 (by decide)
                simp only at q11
                rw [q5, q11]
                clear hW
                refine stepAt_value rfl rfl rfl (.bool false) w8 ?_ ⟨rfl, Below.refl _ _⟩
                go_simp
            case fin =>
              intro vals w20 hV hMid
              have q12 := hV 12 (by omega)
              simp only at q12
              simp only [List.take_succ_cons, List.take_zero, List.drop_succ_cons, List.drop_zero, putAll, Act.put, List.setIfInBounds_toArray, List.set_cons_zero, List.set_cons_succ, Nat.reduceAdd]
              rw [q12]
              clear hV q12 HMid hcc HC
              have HBO2 := Lib.hid hMid.both
              have HB2 := Lib.hid hMid.hb
              clear hMid
              generalize vals 0 = z0
              generalize vals 1 = z1
              generalize vals 2 = z2
              generalize vals 3 = z3
              generalize vals 4 = z4
              generalize vals 5 = z5
              generalize vals 6 = z6
              generalize vals 7 = z7
              generalize vals 8 = z8
              generalize vals 9 = z9
              generalize vals 10 = z10
              generalize vals 11 = z11
              go_wp2_with fail
              refine ⟨⟨k + 1, by omega, by go_num, HBO2, HB2⟩, ?_⟩
              first | exact meas len k ((k : Int) + 1) (by omega) hlt | exact meas len k (wrap64 ((k : Int) + 1)) (by rw [HWR.out]; omega) hlt
        · cases B5
          · have HXc := Lib.hid (HX1.out.below (HB.out.trans (HBc.out.mono HB.out.size)) HX1.out.lt)
            have HP3 := Lib.hid (HP2.out.setRow (bv r))
            have HR3 := Lib.hid (HR2.out.setRow_other (bv r).toArray HNN.out.symm)
            replace HBc := Lib.hid (below_row HBc.out HGE.out.1 (bv r).toArray)
            go_upto_region 20 with (first
              | ((with_reducible refine wpList_load_name (.tmp 5) ?_ ?_ X 0 r ?_ HRL.out HXc.out.rootAll ?_); rfl; rfl; rfl)
              | ((with_reducible refine wpList_store_name (.tmp 18) (.tmp 111) ?_ ?_ gp n1 r ?_ ?_ HP2.out HL1p.out HRL.out ?_); rfl; rfl; rfl; rfl))
            clear HP2 HR2 HXc HVc c1
            generalize w11.setRow gp (bv r).toArray = w12 at HP3 HR3 HBc ⊢
            have HVc := Lib.hid (HV.out.below HBc.out HV.out.lt)
            have c1 := HVc.out.cell 1
            go_upto_region 22 with fail
            have HMid := Lib.hid (show Mid b m gp gr V a2 r n0 x0 x1 x2 w1 t t w12 from ⟨⟨F, G, HT.out.below HBc.out, HM.out.below HBc.out, HF.out, HG.out, HAW.out, fun x hx hxf => by
                have h1 := HTL.out.1 x hxf
                have h2 := HV.out.lt
                have h3 := HGE.out
                simp only [List.mem_cons, List.not_mem_nil, or_false] at hx
                rcases hx with e | e | e <;> omega, fun x hx hxf => by
                have h1 := HTL.out.2 x hxf
                have h2 := HV.out.lt
                have h3 := HGE.out
                simp only [List.mem_cons, List.not_mem_nil, or_false] at hx
                rcases hx with e | e | e <;> omega⟩, HB.out.trans (HBc.out.mono HB.out.size), HP3.out, HR3.out, HV.out.below HBc.out HV.out.lt⟩)
            clear HP3 HR3 HBc HVc c1 HB HT HM HF HG HAW HTL HGE HNN HV
            obtain ⟨C, hC⟩ : ∃ C, (addT a2 t n0 r x2).1 = C := ⟨_, rfl⟩
            have HC := Lib.hid hC
            have hcc : (C == C) = true := beq_self_eq_true C
            clear hC
            refine wp_region_freeD (P := Try.prog) 13 5 11 (by decide) (by decide) (by decide) (fun i => match i with
              | 0 => .pointer (some ⟨b, 0, none⟩)
              | 1 => .agg (bv n0).toArray
              | 2 => .agg (bv r).toArray
              | 3 => .pointer (some ⟨V, 2, none⟩)
              | 4 => .int .i64 x2
              | 5 => .int .i64 C
              | 6 => .pointer (some ⟨m, 0, none⟩)
              | 7 => .agg (bv n0).toArray
              | 8 => .agg (bv r).toArray
              | 9 => .pointer (some ⟨V, 2, none⟩)
              | 10 => .int .i64 x2
              | 11 => .int .i64 C
              | 12 => .bool false
              | _ => undef) (fun x y w' => Mid b m gp gr V a2 r n0 x0 x1 x2 w1 (cond x (addT a2 t n0 r x2).2 t) (cond y (addT a2 t n0 r x2).2 t) w') (by kernel_rfl) (by kernel_rfl) (HMid.out.below (Below.refl _ _).drew) ?pb ?steps ?fin
            case pb => exact fun x y a b h hb => h.below hb
            case steps =>
              intro vals
              simp only [List.take_succ_cons, List.take_zero, freeStepsD, Act.put, List.setIfInBounds_toArray, List.set_cons_zero, List.set_cons_succ, Nat.reduceAdd, Nat.reduceEqDiff, reduceIte]
              refine ⟨fun x y w8 hG hW => ?_, fun x y w8 hG hW => ?_, fun x y w8 hG hW => ?_, fun x y w8 hG hW => ?_, fun x y w8 hG hW => ?_, fun y w8 hG hW => ?_, fun x y w8 hG hW => ?_, fun x y w8 hG hW => ?_, fun x y w8 hG hW => ?_, fun x y w8 hG hW => ?_, fun x y w8 hG hW => ?_, fun x w8 hG hW => ?_, fun x y w8 hG hW => ?_, trivial⟩
              · clear hW
                refine stepAt_value rfl rfl rfl (.pointer (some ⟨b, 0, none⟩)) w8 ?_ ⟨rfl, Below.refl _ _⟩
                go_simp
              · clear hW
                refine stepAt_load_run rfl rfl rfl _ _ rfl _ _ rfl (run_load_root HL0r.out hG.hR.rootAll) ⟨rfl, Below.refl _ _⟩
              · clear hW
                refine stepAt_load_run rfl rfl rfl _ _ rfl _ _ rfl (run_load_root HRL.out hG.hP.rootAll) ⟨rfl, Below.refl _ _⟩
              · clear hW
                refine stepAt_value rfl rfl rfl (.pointer (some ⟨V, 2, none⟩)) w8 ?_ ⟨rfl, Below.refl _ _⟩
                go_simp
              · have q3 := hW 3 (by decide)
                simp only at q3
                rw [q3]
                clear hW
                refine stepAt_value rfl rfl rfl (.int .i64 x2) w8 ?_ ⟨rfl, Below.refl _ _⟩
                have hh := hG.hV.cell 2
                go_simp
              · have q0 := hW 0 (by decide)
                simp only at q0
                have q1 := hW 1 (by decide)
                simp only at q1
                have q2 := hW 2 (by decide)
                simp only at q2
                have q4 := hW 4 (by decide)
                simp only at q4
                rw [q0, q1, q2, q4]
                clear hW
                refine stepAt_call rfl rfl rfl 10 #[.pointer (some ⟨b, 0, none⟩), .agg (bv n0).toArray, .agg (bv r).toArray, .int .i64 x2] (by go_simp) ((hG.add HL0r.out HRL.out).mono fun e w' ⟨h1, h2⟩ => ⟨_, h1, congrArg (Value.int .i64) HC.out, h2⟩)
              · clear hW
                refine stepAt_value rfl rfl rfl (.pointer (some ⟨m, 0, none⟩)) w8 ?_ ⟨rfl, Below.refl _ _⟩
                go_simp
              · clear hW
                refine stepAt_load_run rfl rfl rfl _ _ rfl _ _ rfl (run_load_root HL0r.out hG.hR.rootAll) ⟨rfl, Below.refl _ _⟩
              · clear hW
                refine stepAt_load_run rfl rfl rfl _ _ rfl _ _ rfl (run_load_root HRL.out hG.hP.rootAll) ⟨rfl, Below.refl _ _⟩
              · clear hW
                refine stepAt_value rfl rfl rfl (.pointer (some ⟨V, 2, none⟩)) w8 ?_ ⟨rfl, Below.refl _ _⟩
                go_simp
              · have q9 := hW 9 (by decide)
                simp only at q9
                rw [q9]
                clear hW
                refine stepAt_value rfl rfl rfl (.int .i64 x2) w8 ?_ ⟨rfl, Below.refl _ _⟩
                have hh := hG.hV.cell 2
                go_simp
              · have q6 := hW 6 (by decide)
                simp only at q6
                have q7 := hW 7 (by decide)
                simp only at q7
                have q8 := hW 8 (by decide)
                simp only at q8
                have q10 := hW 10 (by decide)
                simp only at q10
                rw [q6, q7, q8, q10]
                clear hW
                refine stepAt_call rfl rfl rfl 21 #[.pointer (some ⟨m, 0, none⟩), .agg (bv n0).toArray, .agg (bv r).toArray, .int .i64 x2] (by go_simp) ((hG.refadd HL0r.out HRL.out).mono fun e w' ⟨h1, h2⟩ => ⟨_, h1, congrArg (Value.int .i64) HC.out, h2⟩)
              · have q5 := hW 5 (by decide)
                simp only at q5
                have q11 := hW 11 (by decide)
                simp only at q11
                rw [q5, q11]
                clear hW
                refine stepAt_value rfl rfl rfl (.bool false) w8 ?_ ⟨rfl, Below.refl _ _⟩
                go_simp
            case fin =>
              intro vals w20 hV hMid
              have q12 := hV 12 (by omega)
              simp only at q12
              simp only [List.take_succ_cons, List.take_zero, List.drop_succ_cons, List.drop_zero, putAll, Act.put, List.setIfInBounds_toArray, List.set_cons_zero, List.set_cons_succ, Nat.reduceAdd]
              rw [q12]
              clear hV q12 HMid hcc HC
              have HBO2 := Lib.hid hMid.both
              have HB2 := Lib.hid hMid.hb
              clear hMid
              generalize vals 0 = z0
              generalize vals 1 = z1
              generalize vals 2 = z2
              generalize vals 3 = z3
              generalize vals 4 = z4
              generalize vals 5 = z5
              generalize vals 6 = z6
              generalize vals 7 = z7
              generalize vals 8 = z8
              generalize vals 9 = z9
              generalize vals 10 = z10
              generalize vals 11 = z11
              go_wp2_with fail
              refine ⟨⟨k + 1, by omega, by go_num, HBO2, HB2⟩, ?_⟩
              first | exact meas len k ((k : Int) + 1) (by omega) hlt | exact meas len k (wrap64 ((k : Int) + 1)) (by rw [HWR.out]; omega) hlt
          · have HXc := Lib.hid (HX1.out.below (HB.out.trans (HBc.out.mono HB.out.size)) HX1.out.lt)
            have HP3 := Lib.hid (HP2.out.setRow (bv r))
            have HR3 := Lib.hid (HR2.out.setRow_other (bv r).toArray HNN.out.symm)
            replace HBc := Lib.hid (below_row HBc.out HGE.out.1 (bv r).toArray)
            go_upto_region 20 with (first
              | ((with_reducible refine wpList_load_name (.tmp 5) ?_ ?_ X 0 r ?_ HRL.out HXc.out.rootAll ?_); rfl; rfl; rfl)
              | ((with_reducible refine wpList_store_name (.tmp 18) (.tmp 111) ?_ ?_ gp n1 r ?_ ?_ HP2.out HL1p.out HRL.out ?_); rfl; rfl; rfl; rfl))
            clear HP2 HR2 HXc HVc c1
            generalize w11.setRow gp (bv r).toArray = w12 at HP3 HR3 HBc ⊢
            have HVc := Lib.hid (HV.out.below HBc.out HV.out.lt)
            have c1 := HVc.out.cell 1
            have HYc := Lib.hid (HY1.out.below (HB.out.trans (HBc.out.mono HB.out.size)) HY1.out.lt)
            have HR4 := Lib.hid (HR3.out.setRow (bv q))
            have HP4 := Lib.hid (HP3.out.setRow_other (bv q).toArray HNN.out)
            replace HBc := Lib.hid (below_row HBc.out HGE.out.2 (bv q).toArray)
            go_upto_region 22 with (first
              | ((with_reducible refine wpList_load_name (.tmp 9) ?_ ?_ Y 0 q ?_ HQL.out HYc.out.rootAll ?_); rfl; rfl; rfl)
              | ((with_reducible refine wpList_store_name (.tmp 19) (.tmp 114) ?_ ?_ gr n0 q ?_ ?_ HR3.out HL0r.out HQL.out ?_); rfl; rfl; rfl; rfl))
            clear HP3 HR3 HYc
            generalize w12.setRow gr (bv q).toArray = w13 at HP4 HR4 HBc ⊢
            have HMid := Lib.hid (show Mid b m gp gr V a2 r q x0 x1 x2 w1 t t w13 from ⟨⟨F, G, HT.out.below HBc.out, HM.out.below HBc.out, HF.out, HG.out, HAW.out, fun x hx hxf => by
                have h1 := HTL.out.1 x hxf
                have h2 := HV.out.lt
                have h3 := HGE.out
                simp only [List.mem_cons, List.not_mem_nil, or_false] at hx
                rcases hx with e | e | e <;> omega, fun x hx hxf => by
                have h1 := HTL.out.2 x hxf
                have h2 := HV.out.lt
                have h3 := HGE.out
                simp only [List.mem_cons, List.not_mem_nil, or_false] at hx
                rcases hx with e | e | e <;> omega⟩, HB.out.trans (HBc.out.mono HB.out.size), HP4.out, HR4.out, HV.out.below HBc.out HV.out.lt⟩)
            clear HP4 HR4 HBc HVc c1 HB HT HM HF HG HAW HTL HGE HNN HV
            obtain ⟨C, hC⟩ : ∃ C, (addT a2 t q r x2).1 = C := ⟨_, rfl⟩
            have HC := Lib.hid hC
            have hcc : (C == C) = true := beq_self_eq_true C
            clear hC
            refine wp_region_freeD (P := Try.prog) 13 5 11 (by decide) (by decide) (by decide) (fun i => match i with
              | 0 => .pointer (some ⟨b, 0, none⟩)
              | 1 => .agg (bv q).toArray
              | 2 => .agg (bv r).toArray
              | 3 => .pointer (some ⟨V, 2, none⟩)
              | 4 => .int .i64 x2
              | 5 => .int .i64 C
              | 6 => .pointer (some ⟨m, 0, none⟩)
              | 7 => .agg (bv q).toArray
              | 8 => .agg (bv r).toArray
              | 9 => .pointer (some ⟨V, 2, none⟩)
              | 10 => .int .i64 x2
              | 11 => .int .i64 C
              | 12 => .bool false
              | _ => undef) (fun x y w' => Mid b m gp gr V a2 r q x0 x1 x2 w1 (cond x (addT a2 t q r x2).2 t) (cond y (addT a2 t q r x2).2 t) w') (by kernel_rfl) (by kernel_rfl) (HMid.out.below (Below.refl _ _).drew) ?pb ?steps ?fin
            case pb => exact fun x y a b h hb => h.below hb
            case steps =>
              intro vals
              simp only [List.take_succ_cons, List.take_zero, freeStepsD, Act.put, List.setIfInBounds_toArray, List.set_cons_zero, List.set_cons_succ, Nat.reduceAdd, Nat.reduceEqDiff, reduceIte]
              refine ⟨fun x y w8 hG hW => ?_, fun x y w8 hG hW => ?_, fun x y w8 hG hW => ?_, fun x y w8 hG hW => ?_, fun x y w8 hG hW => ?_, fun y w8 hG hW => ?_, fun x y w8 hG hW => ?_, fun x y w8 hG hW => ?_, fun x y w8 hG hW => ?_, fun x y w8 hG hW => ?_, fun x y w8 hG hW => ?_, fun x w8 hG hW => ?_, fun x y w8 hG hW => ?_, trivial⟩
              · clear hW
                refine stepAt_value rfl rfl rfl (.pointer (some ⟨b, 0, none⟩)) w8 ?_ ⟨rfl, Below.refl _ _⟩
                go_simp
              · clear hW
                refine stepAt_load_run rfl rfl rfl _ _ rfl _ _ rfl (run_load_root HQL.out hG.hR.rootAll) ⟨rfl, Below.refl _ _⟩
              · clear hW
                refine stepAt_load_run rfl rfl rfl _ _ rfl _ _ rfl (run_load_root HRL.out hG.hP.rootAll) ⟨rfl, Below.refl _ _⟩
              · clear hW
                refine stepAt_value rfl rfl rfl (.pointer (some ⟨V, 2, none⟩)) w8 ?_ ⟨rfl, Below.refl _ _⟩
                go_simp
              · have q3 := hW 3 (by decide)
                simp only at q3
                rw [q3]
                clear hW
                refine stepAt_value rfl rfl rfl (.int .i64 x2) w8 ?_ ⟨rfl, Below.refl _ _⟩
                have hh := hG.hV.cell 2
                go_simp
              · have q0 := hW 0 (by decide)
                simp only at q0
                have q1 := hW 1 (by decide)
                simp only at q1
                have q2 := hW 2 (by decide)
                simp only at q2
                have q4 := hW 4 (by decide)
                simp only at q4
                rw [q0, q1, q2, q4]
                clear hW
                refine stepAt_call rfl rfl rfl 10 #[.pointer (some ⟨b, 0, none⟩), .agg (bv q).toArray, .agg (bv r).toArray, .int .i64 x2] (by go_simp) ((hG.add HQL.out HRL.out).mono fun e w' ⟨h1, h2⟩ => ⟨_, h1, congrArg (Value.int .i64) HC.out, h2⟩)
              · clear hW
                refine stepAt_value rfl rfl rfl (.pointer (some ⟨m, 0, none⟩)) w8 ?_ ⟨rfl, Below.refl _ _⟩
                go_simp
              · clear hW
                refine stepAt_load_run rfl rfl rfl _ _ rfl _ _ rfl (run_load_root HQL.out hG.hR.rootAll) ⟨rfl, Below.refl _ _⟩
              · clear hW
                refine stepAt_load_run rfl rfl rfl _ _ rfl _ _ rfl (run_load_root HRL.out hG.hP.rootAll) ⟨rfl, Below.refl _ _⟩
              · clear hW
                refine stepAt_value rfl rfl rfl (.pointer (some ⟨V, 2, none⟩)) w8 ?_ ⟨rfl, Below.refl _ _⟩
                go_simp
              · have q9 := hW 9 (by decide)
                simp only at q9
                rw [q9]
                clear hW
                refine stepAt_value rfl rfl rfl (.int .i64 x2) w8 ?_ ⟨rfl, Below.refl _ _⟩
                have hh := hG.hV.cell 2
                go_simp
              · have q6 := hW 6 (by decide)
                simp only at q6
                have q7 := hW 7 (by decide)
                simp only at q7
                have q8 := hW 8 (by decide)
                simp only at q8
                have q10 := hW 10 (by decide)
                simp only at q10
                rw [q6, q7, q8, q10]
                clear hW
                refine stepAt_call rfl rfl rfl 21 #[.pointer (some ⟨m, 0, none⟩), .agg (bv q).toArray, .agg (bv r).toArray, .int .i64 x2] (by go_simp) ((hG.refadd HQL.out HRL.out).mono fun e w' ⟨h1, h2⟩ => ⟨_, h1, congrArg (Value.int .i64) HC.out, h2⟩)
              · have q5 := hW 5 (by decide)
                simp only at q5
                have q11 := hW 11 (by decide)
                simp only at q11
                rw [q5, q11]
                clear hW
                refine stepAt_value rfl rfl rfl (.bool false) w8 ?_ ⟨rfl, Below.refl _ _⟩
                go_simp
            case fin =>
              intro vals w20 hV hMid
              have q12 := hV 12 (by omega)
              simp only at q12
              simp only [List.take_succ_cons, List.take_zero, List.drop_succ_cons, List.drop_zero, putAll, Act.put, List.setIfInBounds_toArray, List.set_cons_zero, List.set_cons_succ, Nat.reduceAdd]
              rw [q12]
              clear hV q12 HMid hcc HC
              have HBO2 := Lib.hid hMid.both
              have HB2 := Lib.hid hMid.hb
              clear hMid
              generalize vals 0 = z0
              generalize vals 1 = z1
              generalize vals 2 = z2
              generalize vals 3 = z3
              generalize vals 4 = z4
              generalize vals 5 = z5
              generalize vals 6 = z6
              generalize vals 7 = z7
              generalize vals 8 = z8
              generalize vals 9 = z9
              generalize vals 10 = z10
              generalize vals 11 = z11
              go_wp2_with fail
              refine ⟨⟨k + 1, by omega, by go_num, HBO2, HB2⟩, ?_⟩
              first | exact meas len k ((k : Int) + 1) (by omega) hlt | exact meas len k (wrap64 ((k : Int) + 1)) (by rw [HWR.out]; omega) hlt
    · have hge : ¬ (k : Int) < (len : Int) := by omega
      obtain ⟨t, F, G, hT, hM, hF, hG, hAW⟩ := HBO.out
      go_wp2_with fail
      refine (same_any wr F G b m t a2 hT hM).mono ?_
      rintro e wz ⟨rfl, hbc⟩
      replace HB := Lib.hid (HB.out.trans (hbc.mono HB.out.size))
      go_wp2_with fail
      go_ret
      exact ⟨rfl, HB0.out.trans (HB.out.mono HB0.out.size)⟩
end Go.Proofs.Ytmchjmcdlapegaa
