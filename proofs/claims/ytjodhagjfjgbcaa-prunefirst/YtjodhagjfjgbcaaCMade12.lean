/-
  The texts Made12, one behind the other.
-/
import Derived.Test.YtjodhagjfjgbcaaCBk12
import Derived.Test.YtjodhagjfjgbcaaFirstM15
import Derived.Test.YtjodhagjfjgbcaaFirstM12
import Derived.Test.YtjodhagjfjgbcaaFirstM16
import Derived.Test.YtjodhagjfjgbcaaFirstM13
/-
  made: a tree, its weights, and the document's of both, of blocks.
-/
namespace Go.Proofs.Ytjodhagjfjgbcaa
open Go Go.RowKit
set_option maxRecDepth 10000

/-- A tree, the document's, and two slices of deltas, none of whose blocks is another's. -/
structure MdM (w0 : World) (tb mb : Nat) (t : List Nd) (u v : Value) (ds es : List Dl) (G M : List Nat) (wx : World) : Prop where
  tre : Tre wx G tb t 100
  ref : Ref wx M mb t 100
  hG : High w0.heap.size G
  hM : High w0.heap.size M
  aGM : Away G M
  wu : Wide 33 wx w0.heap.size u (dvs ds)
  wv : Wide 33 wx w0.heap.size v (dvs es)
  au : ∀ j, u.ownBlock = some j → j < wx.heap.size ∧ j ∉ G ∧ j ∉ M ∧ v.ownBlock ≠ some j
  av : ∀ j, v.ownBlock = some j → j < wx.heap.size ∧ j ∉ G ∧ j ∉ M
  bel : Below w0.heap.size w0 wx
section
variable {w0 wx w' : World} {tb mb : Nat} {t t' : List Nd} {u v : Value} {ds es : List Dl} {G M : List Nat}
theorem MdM.below (h : MdM w0 tb mb t u v ds es G M wx) (hb : Below wx.heap.size wx w') : MdM w0 tb mb t u v ds es G M w' :=
  { h with tre := h.tre.below hb, ref := h.ref.below hb, wu := h.wu.below hb, wv := h.wv.below hb, au := fun j hj => ⟨Nat.lt_of_lt_of_le (h.au j hj).1 hb.size, (h.au j hj).2⟩, av := fun j hj => ⟨Nat.lt_of_lt_of_le (h.av j hj).1 hb.size, (h.av j hj).2⟩, bel := h.bel.trans (hb.mono h.bel.size) }
/-- Both trees have grown. -/
structure MdH (w0 : World) (tb mb : Nat) (t t' : List Nd) (u v : Value) (ds es : List Dl) (G M : List Nat) (wx : World) : Prop where
  tre : Tre wx G tb t' 100
  ref : Ref wx M mb t 100
  hG : High w0.heap.size G
  hM : High w0.heap.size M
  aGM : Away G M
  wu : Wide 33 wx w0.heap.size u (dvs ds)
  wv : Wide 33 wx w0.heap.size v (dvs es)
  au : ∀ j, u.ownBlock = some j → j < wx.heap.size ∧ j ∉ G ∧ j ∉ M ∧ v.ownBlock ≠ some j
  av : ∀ j, v.ownBlock = some j → j < wx.heap.size ∧ j ∉ G ∧ j ∉ M
  bel : Below w0.heap.size w0 wx
theorem MdH.below (h : MdH w0 tb mb t t' u v ds es G M wx) (hb : Below wx.heap.size wx w') : MdH w0 tb mb t t' u v ds es G M w' :=
  { h with tre := h.tre.below hb, ref := h.ref.below hb, wu := h.wu.below hb, wv := h.wv.below hb, au := fun j hj => ⟨Nat.lt_of_lt_of_le (h.au j hj).1 hb.size, (h.au j hj).2⟩, av := fun j hj => ⟨Nat.lt_of_lt_of_le (h.av j hj).1 hb.size, (h.av j hj).2⟩, bel := h.bel.trans (hb.mono h.bel.size) }
theorem newF_not {w : World} {F F' : List Nat} (hn : NewF w F F') {j : Nat} (hj : j < w.heap.size) (h : j ∉ F) : j ∉ F' := fun hm => by
  rcases hn j hm with h1 | h1
  · exact h h1
  · omega
theorem MdM.grew (h : MdM w0 tb mb t u v ds es G M wx) {G' : List Nat} (ht : Tre w' G' tb t' 100) (hk : Kept G wx w') (hn : NewF wx G G') : MdH w0 tb mb t t' u v ds es G' M w' :=
  ⟨ht, h.ref.keep hk h.aGM.symm, h.hG.new hn h.bel.size, h.hM, h.aGM.new hn h.ref.low, h.wu.kept hk fun j hj => (h.au j hj).2.1, h.wv.kept hk fun j hj => (h.av j hj).2.1,
   fun j hj => ⟨Nat.lt_of_lt_of_le (h.au j hj).1 hk.size, newF_not hn (h.au j hj).1 (h.au j hj).2.1, (h.au j hj).2.2⟩, fun j hj => ⟨Nat.lt_of_lt_of_le (h.av j hj).1 hk.size, newF_not hn (h.av j hj).1 (h.av j hj).2.1, (h.av j hj).2.2⟩, h.bel.trans (hk.below h.bel.size h.hG)⟩
theorem MdH.grew (h : MdH w0 tb mb t t' u v ds es G M wx) {M' : List Nat} (ht : Ref w' M' mb t' 100) (hk : Kept M wx w') (hn : NewF wx M M') : MdM w0 tb mb t' u v ds es G M' w' :=
  ⟨h.tre.keep hk h.aGM, ht, h.hG, h.hM.new hn h.bel.size, h.aGM.new' hn h.tre.low, h.wu.kept hk fun j hj => (h.au j hj).2.2.1, h.wv.kept hk fun j hj => (h.av j hj).2.2,
   fun j hj => ⟨Nat.lt_of_lt_of_le (h.au j hj).1 hk.size, (h.au j hj).2.1, newF_not hn (h.au j hj).1 (h.au j hj).2.2.1, (h.au j hj).2.2.2⟩, fun j hj => ⟨Nat.lt_of_lt_of_le (h.av j hj).1 hk.size, (h.av j hj).2.1, newF_not hn (h.av j hj).1 (h.av j hj).2.2⟩, h.bel.trans (hk.below h.bel.size h.hM)⟩
theorem MdM.growU (h : MdM w0 tb mb t u v ds es G M wx) {u' : Value} {ds' : List Dl} (hw : Wide 33 w' w0.heap.size u' (dvs ds')) (h0 : 0 < (dvs ds').length) (hg : Grew wx u w' u') : MdM w0 tb mb t u' v ds' es G M w' := by
  have hk : Kept (ownL u) wx w' := Kept.of_grown _ hg.grown fun j hj => mem_ownL.2 hj
  have hown : ∀ j, u'.ownBlock = some j → j ∉ G ∧ j ∉ M ∧ v.ownBlock ≠ some j := fun j hj => by
    rcases hg.own with h1 | ⟨q, h1, h2⟩
    · exact (h.au j (h1.symm.trans hj)).2
    · rw [h1] at hj
      cases hj
      refine ⟨fun hm => ?_, fun hm => ?_, fun e => ?_⟩
      · have := h.tre.low _ hm; omega
      · have := h.ref.low _ hm; omega
      · have := (h.av _ e).1; omega
  refine ⟨h.tre.keep hk fun j hj hm => (h.au j (mem_ownL.1 hm)).2.1 hj, h.ref.keep hk fun j hj hm => (h.au j (mem_ownL.1 hm)).2.2.1 hj, h.hG, h.hM, h.aGM, hw, h.wv.kept hk fun j hj hm => (h.au j (mem_ownL.1 hm)).2.2.2 hj, fun j hj => ⟨hw.ownLt h0 j hj, hown j hj⟩, fun j hj => ⟨Nat.lt_of_lt_of_le (h.av j hj).1 hk.size, (h.av j hj).2⟩, h.bel.trans (hg.belowW h.wu h.bel.size)⟩
theorem MdM.growV (h : MdM w0 tb mb t u v ds es G M wx) {v' : Value} {es' : List Dl} (hw : Wide 33 w' w0.heap.size v' (dvs es')) (h0 : 0 < (dvs es').length) (hg : Grew wx v w' v') : MdM w0 tb mb t u v' ds es' G M w' := by
  have hk : Kept (ownL v) wx w' := Kept.of_grown _ hg.grown fun j hj => mem_ownL.2 hj
  have hown : ∀ j, v'.ownBlock = some j → j ∉ G ∧ j ∉ M ∧ u.ownBlock ≠ some j := fun j hj => by
    rcases hg.own with h1 | ⟨q, h1, h2⟩
    · have h3 := h1.symm.trans hj
      exact ⟨(h.av j h3).2.1, (h.av j h3).2.2, fun e => (h.au j e).2.2.2 h3⟩
    · rw [h1] at hj
      cases hj
      refine ⟨fun hm => ?_, fun hm => ?_, fun e => ?_⟩
      · have := h.tre.low _ hm; omega
      · have := h.ref.low _ hm; omega
      · have := (h.au _ e).1; omega
  refine ⟨h.tre.keep hk fun j hj hm => (h.av j (mem_ownL.1 hm)).2.1 hj, h.ref.keep hk fun j hj hm => (h.av j (mem_ownL.1 hm)).2.2 hj, h.hG, h.hM, h.aGM, h.wu.kept hk fun j hj hm => (h.au j hj).2.2.2 (mem_ownL.1 hm), hw, fun j hj => ⟨Nat.lt_of_lt_of_le (h.au j hj).1 hk.size, (h.au j hj).2.1, (h.au j hj).2.2.1, fun e => (hown j e).2.2 hj⟩, fun j hj => ⟨hw.ownLt h0 j hj, (hown j hj).1, (hown j hj).2.1⟩, h.bel.trans (hg.belowW h.wv h.bel.size)⟩
end
def MdS (w0 : World) (tb mb : Nat) (x : List Nd × List Dl) (u v : Value) (wx : World) : Prop := ∃ G M, MdM w0 tb mb x.1 u v x.2 x.2 G M wx
/-- What made hands out. -/
structure Obj12 (w0 : World) (tb wb rb : Nat) (t : List Nd) (own : List Int) (w : World) : Prop where
  body : ∃ G F M R mb, Tre w G tb t 100 ∧ WgtG w F wb tb t own ∧ DW w M mb t R rb own 100
  bel : Below w0.heap.size w0 w

set_option maxHeartbeats 16000000 in
theorem made_any (w : World) (ao : Option Addr) (len cap g off : Nat) (l : List Bk) (hl : l.length = len) (h : Lies w w.heap.size ao g off (bks l)) :
    Calls Try.prog 9 #[.slice ao len cap] w fun e w' => (play l = false ∧ e = .returned (.tuple #[.pointer none, .pointer none, .pointer none, .bool false]) ∧ Below w.heap.size w w') ∨ (∃ tb wb rb, play l = true ∧ e = .returned (.tuple #[.pointer (some ⟨tb, 0, none⟩), .pointer (some ⟨wb, 0, none⟩), .pointer (some ⟨rb, 0, none⟩), .bool true]) ∧ Obj12 w tb wb rb (mkT l) (mkO l) w') := by
  obtain ⟨i1, hi1, hz1, hs1, hb1⟩ := info_parts Try.infoDl
  obtain ⟨i2, hi2, hz2, hs2, hb2⟩ := info_parts Try.infoDlR
  have HL0 := Lib.hid h
  have HN := Lib.hid hl
  have HB := Lib.hid (Below.refl w.heap.size w)
  clear h hl
  go_enter Try.func9, Try.ntmps9
  by_cases h1 : (60 : Int) < (len : Int)
  · have HNP := Lib.hid (show play l = false by unfold play; rw [decide_eq_false (by rw [HN.out]; omega)]; rfl)
    go_wp2_with fail
    ((try simp only [Exit.inBlock, Exit.then]); refine bodyPost_ret (results_tmp4 rfl _ _ _) rfl ?_)
    exact .inl ⟨HNP.out, rfl, HB.out⟩
  have HLIM := Lib.hid (show len ≤ 60 by omega)
  go_wp2_with fail
  refine (name_any w 0).mono ?_
  rintro e w1 ⟨rfl, hbc⟩
  replace HB := Lib.hid (HB.out.trans (hbc.mono HB.out.size))
  clear hbc
  go_wp2_with fail
  refine (new_ok w1 (nmN 0) 0 100 (nmN_len 0) (by decide) (by decide) (by decide) (by decide)).mono ?_
  rintro e w2 ⟨G, tb, rfl, ht, hg, hbc⟩
  have HT := Lib.hid ht
  have HG := Lib.hid (hg.mono HB.out.size)
  replace HB := Lib.hid (HB.out.trans (hbc.mono HB.out.size))
  clear ht hg hbc
  go_wp2_with fail
  refine (name_any w2 0).mono ?_
  rintro e w3 ⟨rfl, hbc⟩
  replace HT := Lib.hid (HT.out.below hbc)
  replace HB := Lib.hid (HB.out.trans (hbc.mono HB.out.size))
  clear hbc
  go_wp2_with fail
  refine (refnew_ok w3 (nmN 0) 0 100 (nmN_len 0) (by decide) (by decide) (by decide) (by decide)).mono ?_
  rintro e w4 ⟨M, mb, rfl, hm, hg, hbc⟩
  have HM := Lib.hid (show MdS w tb mb (mkAll (l.take 0)) (.slice none 0 0) (.slice none 0 0) w4 from ⟨G, M, HT.out.below hbc, hm, HG.out, hg.mono HB.out.size, Away.high HT.out.low hg, wide_nil0 33 _ _, wide_nil0 33 _ _, fun j hj => by simp [Value.ownBlock] at hj, fun j hj => by simp [Value.ownBlock] at hj, HB.out.trans (hbc.mono HB.out.size)⟩)
  clear hm hg hbc HT HG HB
  go_wp2_with fail
  go_loopw [10, 11, 31] (fun u v i wx => ∃ k : Nat, k ≤ len ∧ i = .int .i64 k ∧ Hid ((l.take k).all okB = true) ∧ Hid (MdS w tb mb (mkAll (l.take k)) u v wx)) (fun _ _ i _ => len - (intOf i).toNat)
  case atStart => exact ⟨0, Nat.zero_le _, rfl, Lib.hid rfl, HM⟩
  case round =>
    clear HM
    obtain ⟨k, hk, rfl, HOK, HMS⟩ := hrel
    obtain ⟨wx, rfl⟩ : ∃ x, x = wr := ⟨_, rfl⟩
    obtain ⟨G, M, hm⟩ := HMS.out
    have HM := Lib.hid hm
    clear hm HMS
    by_cases hlt : k < len
    · obtain ⟨a, ha⟩ : ∃ a, l[k]? = some a := ⟨_, List.getElem?_eq_getElem (by rw [HN.out]; exact hlt)⟩
      obtain ⟨hao, hca⟩ := (HL0.out.below HM.out.bel).bk ha
      subst hao
      have HCA := Lib.hid hca
      have HNX := Lib.hid (mkAll_next ha)
      have HAK := Lib.hid (show (l.take (k + 1)).all okB = okB a by rw [List.take_add_one, ha, Option.toList_some, List.all_append, HOK.out]; simp)
      have HAM := Lib.hid (List.mem_of_getElem? ha)
      have HLT := Lib.hid hlt
      have hlt' : (k : Int) < (len : Int) := by omega
      have HWK := Lib.hid (show wrap64 ((k : Int) + 1) = ((k + 1 : Nat) : Int) by have := HLIM.out; have := HLT.out; unfold wrap64; omega)
      obtain ⟨x, hx⟩ : ∃ x, mkAll (l.take k) = x := ⟨_, rfl⟩
      have HDS := Lib.hid (show (∀ d ∈ x.2, d.1.length = 32) ∧ x.2.length ≤ k by
        have h1 := mkAll_good (l.take k)
        rw [hx] at h1
        exact ⟨h1.2.2.1, Nat.le_trans h1.2.2.2 (by rw [List.length_take]; exact Nat.min_le_left _ _)⟩)
      rw [hx] at HM HNX
      clear ha hca hx hk hlt
      have HV0 := Lib.hid (show Blk (wx.alloc (.cells #[.int .i64 0, .int .i64 0, .int .i64 0, .int .i64 0] 64)) wx.heap.size 64 (bkv bk0) from Blk.new wx 64 (bkv bk0).toArray)
      have hbx : Below wx.heap.size wx ((wx.alloc (.cells #[.int .i64 0, .int .i64 0, .int .i64 0, .int .i64 0] 64)).setRow wx.heap.size (bkv a).toArray) := below_row ((Below.refl _ wx).alloc (Nat.le_refl _) _) (Nat.le_refl _) _
      have HV := Lib.hid (HV0.out.setRow (bkv a))
      have HVL := Lib.hid (show wx.heap.size ≤ wx.heap.size from Nat.le_refl _)
      have HLG := Lib.hid HM.out.tre.low
      have HLM := Lib.hid HM.out.ref.low
      have HAU := Lib.hid HM.out.au
      have HAV := Lib.hid HM.out.av
      replace HM := Lib.hid (HM.out.below hbx)
      go_upto_region 10 with (first
        | ((with_reducible refine wpList_load_bk (.tmp 33) ?_ ?_ g (off + k * 4) a ?_ HCA.out ?_); rfl; rfl; rfl)
        | ((with_reducible refine wpList_store_bk (.tmp 13) (.tmp 34) ?_ ?_ wx.heap.size bk0 a ?_ ?_ HV0.out ?_); rfl; rfl; rfl; rfl))
      try simp only [Act.put]
      obtain ⟨V, hV⟩ : ∃ V, V = wx.heap.size := ⟨_, rfl⟩
      have HVG := Lib.hid (show V ∉ G from fun hm => by have := HLG.out V hm; omega)
      have HVU := Lib.hid (show ∀ j, u10.ownBlock = some j → j ≠ V from fun j hj e => by have := (HAU.out j hj).1; omega)
      have HVM := Lib.hid (show V ∉ M from fun hm => by have := HLM.out V hm; omega)
      rw [← hV] at HV HM ⊢
      generalize (wx.alloc (.cells #[.int .i64 0, .int .i64 0, .int .i64 0, .int .i64 0] 64)).setRow V (bkv a).toArray = w5 at HV HM ⊢
      clear hV HV0 HVL HCA hbx HLG HLM HAU HAV
      refine wp_region_free (P := Try.prog) 9 (fun w' => Below w5.heap.size w5 w') (fun oq v w' => match oq with
          | 0 => v = .pointer (some ⟨tb, 0, none⟩)
          | 1 => v = .pointer (some ⟨V, 0, none⟩)
          | 2 => v = .int .i64 a.r
          | 3 => v = .agg (bv (nmN a.r)).toArray
          | 4 => v = .pointer (some ⟨V, 1, none⟩)
          | 5 => v = .int .i64 a.p
          | 6 => v = .agg (bv (nmN a.p)).toArray
          | 7 => v = .pointer (some ⟨V, 2, none⟩)
          | 8 => v = .int .i64 a.s
          | _ => True) (by kernel_rfl) (by kernel_rfl) (Below.refl _ _).drew ?gb ?vb ?steps ?fin
      case gb => exact fun a b h1 h2 => h1.trans (h2.mono h1.size)
      case vb =>
        intro oq v a b h hb
        match oq with
        | 0 => exact h
        | 1 => exact h
        | 2 => exact h
        | 3 => exact h
        | 4 => exact h
        | 5 => exact h
        | 6 => exact h
        | 7 => exact h
        | 8 => exact h
        | _ + 9 => trivial
      case steps =>
        intro vals
        simp only [List.take_succ_cons, List.take_zero, freeSteps, Act.put, List.setIfInBounds_toArray, List.set_cons_zero, List.set_cons_succ, Nat.reduceAdd]
        refine ⟨fun w8 hG hW => ?_, fun w8 hG hW => ?_, fun w8 hG hW => ?_, fun w8 hG hW => ?_, fun w8 hG hW => ?_, fun w8 hG hW => ?_, fun w8 hG hW => ?_, fun w8 hG hW => ?_, fun w8 hG hW => ?_, trivial⟩
        · clear hW
          refine stepAt_value rfl rfl rfl (.pointer (some ⟨tb, 0, none⟩)) w8 ?_ ⟨rfl, Below.refl _ _⟩
          go_simp
        · clear hW
          refine stepAt_value rfl rfl rfl (.pointer (some ⟨V, 0, none⟩)) w8 ?_ ⟨rfl, Below.refl _ _⟩
          go_simp
        · have q1 := hW 1 (by decide)
          simp only at q1
          rw [q1]
          clear hW
          refine stepAt_value rfl rfl rfl (.int .i64 a.r) w8 ?_ ⟨rfl, Below.refl _ _⟩
          have c := (HV.out.below hG HV.out.lt).cell 0
          simp only [bkv, List.getElem?_cons_zero] at c
          go_simp
        · have q2 := hW 2 (by decide)
          simp only at q2
          rw [q2]
          clear hW
          refine stepAt_call rfl rfl rfl 12 #[.int .i64 a.r] (by go_simp) ((name_any w8 a.r).mono fun e w' ⟨h1, h2⟩ => ⟨_, h1, rfl, h2⟩)
        · clear hW
          refine stepAt_value rfl rfl rfl (.pointer (some ⟨V, 1, none⟩)) w8 ?_ ⟨rfl, Below.refl _ _⟩
          go_simp
        · have q4 := hW 4 (by decide)
          simp only at q4
          rw [q4]
          clear hW
          refine stepAt_value rfl rfl rfl (.int .i64 a.p) w8 ?_ ⟨rfl, Below.refl _ _⟩
          have c := (HV.out.below hG HV.out.lt).cell 1
          simp only [bkv, List.getElem?_cons_succ, List.getElem?_cons_zero] at c
          go_simp
        · have q5 := hW 5 (by decide)
          simp only at q5
          rw [q5]
          clear hW
          refine stepAt_call rfl rfl rfl 12 #[.int .i64 a.p] (by go_simp) ((name_any w8 a.p).mono fun e w' ⟨h1, h2⟩ => ⟨_, h1, rfl, h2⟩)
        · clear hW
          refine stepAt_value rfl rfl rfl (.pointer (some ⟨V, 2, none⟩)) w8 ?_ ⟨rfl, Below.refl _ _⟩
          go_simp
        · have q7 := hW 7 (by decide)
          simp only at q7
          rw [q7]
          clear hW
          refine stepAt_value rfl rfl rfl (.int .i64 a.s) w8 ?_ ⟨rfl, Below.refl _ _⟩
          have c := (HV.out.below hG HV.out.lt).cell 2
          simp only [bkv, List.getElem?_cons_succ, List.getElem?_cons_zero] at c
          go_simp
      case fin =>
        intro vals w6 hG hV
        have q0 := hV 0 (by omega)
        have q3 := hV 3 (by omega)
        have q6 := hV 6 (by omega)
        have q8 := hV 8 (by omega)
        simp only at q0 q3 q6 q8
        simp only [List.take_succ_cons, List.take_zero, List.drop_succ_cons, List.drop_zero, putAll, Act.put, List.setIfInBounds_toArray, List.set_cons_zero, List.set_cons_succ, Nat.reduceAdd]
        rw [q0, q3, q6, q8]
        clear hV q0 q3 q6 q8
        generalize vals 1 = y1
        generalize vals 2 = y2
        generalize vals 4 = y4
        generalize vals 5 = y5
        generalize vals 7 = y7
        replace HM := Lib.hid (HM.out.below hG)
        replace HV := Lib.hid (HV.out.below hG HV.out.lt)
        clear hG
        go_wp2_with fail
        refine (add_any w6 G tb x.1 100 (nmN a.r) (nmN a.p) a.s HM.out.tre (nmN_len _) (nmN_len _)).mono ?_
        rintro e w7 ⟨rfl, G2, ht, hk, hn⟩
        have HH := Lib.hid (HM.out.grew ht hk hn)
        have hvl := HV.out.lt
        replace HV := Lib.hid (HV.out.kept hk HVG.out)
        replace HVG := Lib.hid (newF_not hn hvl HVG.out)
        clear ht hk hn HM hvl
        go_upto_region 11 with fail
        refine wp_region_free (P := Try.prog) 9 (fun w' => Below w7.heap.size w7 w') (fun oq v w' => match oq with
            | 0 => v = .pointer (some ⟨mb, 0, none⟩)
            | 1 => v = .pointer (some ⟨V, 0, none⟩)
            | 2 => v = .int .i64 a.r
            | 3 => v = .agg (bv (nmN a.r)).toArray
            | 4 => v = .pointer (some ⟨V, 1, none⟩)
            | 5 => v = .int .i64 a.p
            | 6 => v = .agg (bv (nmN a.p)).toArray
            | 7 => v = .pointer (some ⟨V, 2, none⟩)
            | 8 => v = .int .i64 a.s
            | _ => True) (by kernel_rfl) (by kernel_rfl) (Below.refl _ _).drew ?gb ?vb ?steps ?fin
        case gb => exact fun a b h1 h2 => h1.trans (h2.mono h1.size)
        case vb =>
          intro oq v a b h hb
          match oq with
          | 0 => exact h
          | 1 => exact h
          | 2 => exact h
          | 3 => exact h
          | 4 => exact h
          | 5 => exact h
          | 6 => exact h
          | 7 => exact h
          | 8 => exact h
          | _ + 9 => trivial
        case steps =>
          intro vals
          simp only [List.take_succ_cons, List.take_zero, freeSteps, Act.put, List.setIfInBounds_toArray, List.set_cons_zero, List.set_cons_succ, Nat.reduceAdd]
          refine ⟨fun w8 hG hW => ?_, fun w8 hG hW => ?_, fun w8 hG hW => ?_, fun w8 hG hW => ?_, fun w8 hG hW => ?_, fun w8 hG hW => ?_, fun w8 hG hW => ?_, fun w8 hG hW => ?_, fun w8 hG hW => ?_, trivial⟩
          · clear hW
            refine stepAt_value rfl rfl rfl (.pointer (some ⟨mb, 0, none⟩)) w8 ?_ ⟨rfl, Below.refl _ _⟩
            go_simp
          · clear hW
            refine stepAt_value rfl rfl rfl (.pointer (some ⟨V, 0, none⟩)) w8 ?_ ⟨rfl, Below.refl _ _⟩
            go_simp
          · have q1 := hW 1 (by decide)
            simp only at q1
            rw [q1]
            clear hW
            refine stepAt_value rfl rfl rfl (.int .i64 a.r) w8 ?_ ⟨rfl, Below.refl _ _⟩
            have c := (HV.out.below hG HV.out.lt).cell 0
            simp only [bkv, List.getElem?_cons_zero] at c
            go_simp
          · have q2 := hW 2 (by decide)
            simp only at q2
            rw [q2]
            clear hW
            refine stepAt_call rfl rfl rfl 12 #[.int .i64 a.r] (by go_simp) ((name_any w8 a.r).mono fun e w' ⟨h1, h2⟩ => ⟨_, h1, rfl, h2⟩)
          · clear hW
            refine stepAt_value rfl rfl rfl (.pointer (some ⟨V, 1, none⟩)) w8 ?_ ⟨rfl, Below.refl _ _⟩
            go_simp
          · have q4 := hW 4 (by decide)
            simp only at q4
            rw [q4]
            clear hW
            refine stepAt_value rfl rfl rfl (.int .i64 a.p) w8 ?_ ⟨rfl, Below.refl _ _⟩
            have c := (HV.out.below hG HV.out.lt).cell 1
            simp only [bkv, List.getElem?_cons_succ, List.getElem?_cons_zero] at c
            go_simp
          · have q5 := hW 5 (by decide)
            simp only at q5
            rw [q5]
            clear hW
            refine stepAt_call rfl rfl rfl 12 #[.int .i64 a.p] (by go_simp) ((name_any w8 a.p).mono fun e w' ⟨h1, h2⟩ => ⟨_, h1, rfl, h2⟩)
          · clear hW
            refine stepAt_value rfl rfl rfl (.pointer (some ⟨V, 2, none⟩)) w8 ?_ ⟨rfl, Below.refl _ _⟩
            go_simp
          · have q7 := hW 7 (by decide)
            simp only at q7
            rw [q7]
            clear hW
            refine stepAt_value rfl rfl rfl (.int .i64 a.s) w8 ?_ ⟨rfl, Below.refl _ _⟩
            have c := (HV.out.below hG HV.out.lt).cell 2
            simp only [bkv, List.getElem?_cons_succ, List.getElem?_cons_zero] at c
            go_simp
        case fin =>
          intro vals w8x hG hV
          have q0 := hV 0 (by omega)
          have q3 := hV 3 (by omega)
          have q6 := hV 6 (by omega)
          have q8 := hV 8 (by omega)
          simp only at q0 q3 q6 q8
          simp only [List.take_succ_cons, List.take_zero, List.drop_succ_cons, List.drop_zero, putAll, Act.put, List.setIfInBounds_toArray, List.set_cons_zero, List.set_cons_succ, Nat.reduceAdd]
          rw [q0, q3, q6, q8]
          clear hV q0 q3 q6 q8
          generalize vals 1 = y1
          generalize vals 2 = y2
          generalize vals 4 = y4
          generalize vals 5 = y5
          generalize vals 7 = y7
          replace HH := Lib.hid (HH.out.below hG)
          replace HV := Lib.hid (HV.out.below hG HV.out.lt)
          clear hG
          go_wp2_with fail
          refine (refadd_any w8x M mb x.1 100 (nmN a.r) (nmN a.p) a.s HH.out.ref (nmN_len _) (nmN_len _)).mono ?_
          rintro e w9 ⟨rfl, M2, ht, hk, hn⟩
          have HM := Lib.hid (HH.out.grew ht hk hn)
          have hvl := HV.out.lt
          replace HV := Lib.hid (HV.out.kept hk HVM.out)
          replace HVM := Lib.hid (newF_not hn hvl HVM.out)
          clear ht hk hn HH hvl
          obtain ⟨t', ht'⟩ : ∃ t', (addT 100 x.1 (nmN a.r) (nmN a.p) a.s).2 = t' := ⟨_, rfl⟩
          have HTE := Lib.hid ht'
          rw [ht'] at HM
          generalize (addT 100 x.1 (nmN a.r) (nmN a.p) a.s).1 = er
          clear ht'
          have k3 : w9.cell? ⟨V, 3, none⟩ = some (.int .i64 a.n) := by rw [HV.out.cell 3]; rfl
          by_cases hn1 : a.n < 0
          · have HNP := Lib.hid (show play l = false by
              unfold play
              rw [Bool.and_eq_false_iff]
              right
              rw [List.all_eq_false]
              exact ⟨a, HAM.out, by unfold okB; rw [decide_eq_false (by omega)]; simp⟩)
            go_wp2_with fail
            ((try simp only [Exit.inBlock, Exit.then]); refine bodyPost_ret (results_tmp4 rfl _ _ _) rfl ?_)
            exact .inl ⟨HNP.out, rfl, HM.out.bel⟩
          by_cases hn2 : 1099511627776 < a.n
          · have HNP := Lib.hid (show play l = false by
              unfold play
              rw [Bool.and_eq_false_iff]
              right
              rw [List.all_eq_false]
              exact ⟨a, HAM.out, by unfold okB; rw [decide_eq_false (p := a.n ≤ 1099511627776) (by omega)]; simp⟩)
            go_wp2_with fail
            ((try simp only [Exit.inBlock, Exit.then]); refine bodyPost_ret (results_tmp4 rfl _ _ _) rfl ?_)
            exact .inl ⟨HNP.out, rfl, HM.out.bel⟩
          have HOKN := Lib.hid (show (l.take (k + 1)).all okB = true by rw [HAK.out]; unfold okB; rw [decide_eq_true (by omega), decide_eq_true (by omega)]; rfl)
          have k0 : w9.cell? ⟨V, 0, none⟩ = some (.int .i64 a.r) := by rw [HV.out.cell 0]; rfl
          go_wp2_with fail
          clear k3 k0 hn1 hn2
          refine (name_any w9 a.r).mono ?_
          rintro e w10 ⟨rfl, hbc⟩
          replace HM := Lib.hid (HM.out.below hbc)
          replace HV := Lib.hid (HV.out.below hbc HV.out.lt)
          clear hbc
          go_wp2_with fail
          refine (refplace_any w10 M2 mb t' 100 (nmN a.r) HM.out.ref (nmN_len _)).mono ?_
          rintro e w11 ⟨rfl, hbc⟩
          replace HM := Lib.hid (HM.out.below hbc)
          replace HV := Lib.hid (HV.out.below hbc HV.out.lt)
          clear hbc
          by_cases hp : 0 ≤ plc t' (nmN a.r)
          · have HNE := Lib.hid (show mkAll (l.take (k + 1)) = (t', x.2 ++ [(nmN a.r, a.n)]) by rw [HNX.out, mk1, HTE.out, if_pos hp])
            have HLD := Lib.hid (dvs_length x.2 HDS.out.1)
            have HKK := Lib.hid (show x.2.length ≤ 60 by have := HDS.out.2; have := HLIM.out; have := HLT.out; omega)
            generalize plc t' (nmN a.r) = pz at hp ⊢
            obtain ⟨u1, u2, u3, _, _, e1, _, _⟩ := HM.out.wu.lies
            obtain ⟨v1, v2, v3, _, _, e2, _, _⟩ := HM.out.wv.lies
            subst e1
            subst e2
            go_upto_region 15 with fail
            clear hp
            have HWU := Lib.hid HM.out.wu
            have HBL := Lib.hid HM.out.bel
            refine wp_region_free (P := Try.prog) 8 (fun w' => Below w11.heap.size w11 w') (fun oq v w' => match oq with
                | 0 => v = .slice u1 u2 u3
                | 1 => v = .pointer (some ⟨V, 0, none⟩)
                | 2 => v = .int .i64 a.r
                | 3 => v = .agg (bv (nmN a.r)).toArray
                | 4 => v = .pointer (some ⟨V, 3, none⟩)
                | 5 => v = .int .i64 a.n
                | 6 => v = .agg (dlv ((nmN a.r), a.n)).toArray
                | 7 => ∃ g, v = .slice (some ⟨g, 0, none⟩) 1 1 ∧ Lies w' w'.heap.size (some ⟨g, 0, none⟩) g 0 (dlv ((nmN a.r), a.n))
                | _ => True) (by kernel_rfl) (by kernel_rfl) (Below.refl _ _).drew ?gb ?vb ?steps ?fin
            case gb => exact fun a b h1 h2 => h1.trans (h2.mono h1.size)
            case vb =>
              intro oq v a b h hb
              match oq with
              | 0 => exact h
              | 1 => exact h
              | 2 => exact h
              | 3 => exact h
              | 4 => exact h
              | 5 => exact h
              | 6 => exact h
              | 7 => (obtain ⟨g, h1, h2⟩ := h; exact ⟨g, h1, h2.below hb⟩)
              | _ + 8 => trivial
            case steps =>
              intro vals
              simp only [List.take_succ_cons, List.take_zero, freeSteps, Act.put, List.setIfInBounds_toArray, List.set_cons_zero, List.set_cons_succ, Nat.reduceAdd]
              refine ⟨fun w8 hG hW => ?_, fun w8 hG hW => ?_, fun w8 hG hW => ?_, fun w8 hG hW => ?_, fun w8 hG hW => ?_, fun w8 hG hW => ?_, fun w8 hG hW => ?_, fun w8 hG hW => ?_, trivial⟩
              · clear hW
                refine stepAt_value rfl rfl rfl (.slice u1 u2 u3) w8 ?_ ⟨rfl, Below.refl _ _⟩
                go_simp
              · clear hW
                refine stepAt_value rfl rfl rfl (.pointer (some ⟨V, 0, none⟩)) w8 ?_ ⟨rfl, Below.refl _ _⟩
                go_simp
              · have q1 := hW 1 (by decide)
                simp only at q1
                rw [q1]
                clear hW
                refine stepAt_value rfl rfl rfl (.int .i64 a.r) w8 ?_ ⟨rfl, Below.refl _ _⟩
                have c := (HV.out.below hG HV.out.lt).cell 0
                simp only [bkv, List.getElem?_cons_zero] at c
                go_simp
              · have q2 := hW 2 (by decide)
                simp only at q2
                rw [q2]
                clear hW
                refine stepAt_call rfl rfl rfl 12 #[.int .i64 a.r] (by go_simp) ((name_any w8 a.r).mono fun e w' ⟨h1, h2⟩ => ⟨_, h1, rfl, h2⟩)
              · clear hW
                refine stepAt_value rfl rfl rfl (.pointer (some ⟨V, 3, none⟩)) w8 ?_ ⟨rfl, Below.refl _ _⟩
                go_simp
              · have q4 := hW 4 (by decide)
                simp only at q4
                rw [q4]
                clear hW
                refine stepAt_value rfl rfl rfl (.int .i64 a.n) w8 ?_ ⟨rfl, Below.refl _ _⟩
                have c := (HV.out.below hG HV.out.lt).cell 3
                simp only [bkv, List.getElem?_cons_succ, List.getElem?_cons_zero] at c
                go_simp
              · have q3 := hW 3 (by decide)
                simp only at q3
                have q5 := hW 5 (by decide)
                simp only at q5
                rw [q3, q5]
                clear hW
                refine stepAt_build rfl rfl rfl 73 _ rfl (dlv ((nmN a.r), a.n)).toArray ?_ ⟨rfl, Below.refl _ _⟩
                simp only [List.map_toArray, List.map_cons, List.map_nil]
                exact built_dl (nmN a.r) a.n (nmN_len a.r)
              · have q6 := hW 6 (by decide)
                simp only at q6
                rw [q6]
                clear hW
                refine stepAt_build_rows rfl rfl rfl 68 73 1 _ rfl i1 (.agg (dlv dl0).toArray) (s := 33) (by omega) [dlv ((nmN a.r), a.n)] (fun rr hrr => by simp at hrr; rw [hrr]; exact dlv_length (nmN_len a.r)) Try.underlying68 hi1 hz1 hs1 rfl (by omega) (by omega) rfl ⟨⟨w8.heap.size, rfl, ?_⟩, (Below.refl _ _).alloc (Nat.le_refl _) _⟩
                rw [show ([dlv ((nmN a.r), a.n)] : List (List Value)).flatten = dlv ((nmN a.r), a.n) by simp]
                exact ⟨fun _ => rfl, fun _ => by simp, fun j u hj => by rw [Nat.zero_add]; exact ((Blk.new w8 73 (dlv ((nmN a.r), a.n)).toArray).cell j).trans hj⟩
            case fin =>
              intro vals w9 hG hV
              have q0 := hV 0 (by omega)
              simp only at q0
              obtain ⟨gd, qd, hld⟩ := hV 7 (by omega)
              simp only [List.take_succ_cons, List.take_zero, List.drop_succ_cons, List.drop_zero, putAll, Act.put, List.setIfInBounds_toArray, List.set_cons_zero, List.set_cons_succ, Nat.reduceAdd]
              rw [q0, qd]
              clear hV q0 qd
              generalize vals 1 = y1
              generalize vals 2 = y2
              generalize vals 3 = y3
              generalize vals 4 = y4
              generalize vals 5 = y5
              generalize vals 6 = y6
              have HW9 := Lib.hid (HWU.out.below hG)
              have HB9 := Lib.hid (HBL.out.trans (hG.mono HBL.out.size))
              have HSRC := Lib.hid (hld.src (P := Try.prog) (n := 1) (k := 33) 1 68 73 Try.underlying68 (by rw [dlv_length (d := ((nmN a.r), a.n)) (nmN_len a.r)]) (dlv_one _) (by decide))
              have HMM := Lib.hid (HM.out.below hG)
              replace HV := Lib.hid (HV.out.below hG HV.out.lt)
              have hkk := HKK.out
              have HM1 := Lib.hid (show (dvs x.2).length + 1 ≤ maxLen by rw [HLD.out]; unfold maxLen; omega)
              have HM2 := Lib.hid (show ((dvs x.2).length + 1) * 40 ≤ 140737488355328 by rw [HLD.out]; omega)
              have HSK := Lib.hid (show w.heap.size ≤ w9.heap.size from HB9.out.size)
              clear hld hG
              go_wp2_with (at_builtin; refine wpList_append_wide rfl _ _ 68 68 rfl rfl HW9.out (by decide) 73 i1 (.agg (dlv dl0).toArray) 40 Try.underlying68 hi1 hz1 hs1 hb1 rfl _ rfl 1 (dlv ((nmN a.r), a.n)) HSRC.out HM1.out HM2.out HSK.out ?_)
              intro v' w13 hv hg
              have HBN := Lib.hid (HB9.out.trans (hg.belowW HW9.out HSK.out))
              rw [← dvs_sole, ← dvs_append] at hv
              have HM3 := Lib.hid (HMM.out.growU hv (by rw [dvs_append, dvs_sole, List.length_append, dlv_length (d := (nmN a.r, a.n)) (nmN_len _)]; omega) hg)
              replace HV := Lib.hid (HV.out.kept (Kept.of_grown (ownL (.slice u1 u2 u3)) hg.grown fun j hj => mem_ownL.2 hj) (fun hm => HVU.out V (mem_ownL.1 hm) rfl))
              clear hg hv HM1 HM2 HSRC HSK HW9 HB9 HM HMM HBN HWU HBL hkk
              obtain ⟨HM, _⟩ : ∃ _ : Hid (MdM w tb mb t' v' (.slice v1 v2 v3) (x.2 ++ [(nmN a.r, a.n)]) x.2 G2 M2 w13), True := ⟨HM3, trivial⟩
              clear HM3
              go_upto_region 16 with fail
              have HWU := Lib.hid HM.out.wv
              have HBL := Lib.hid HM.out.bel
              refine wp_region_free (P := Try.prog) 8 (fun w' => Below w13.heap.size w13 w') (fun oq v w' => match oq with
                  | 0 => v = .slice v1 v2 v3
                  | 1 => v = .pointer (some ⟨V, 0, none⟩)
                  | 2 => v = .int .i64 a.r
                  | 3 => v = .agg (bv (nmN a.r)).toArray
                  | 4 => v = .pointer (some ⟨V, 3, none⟩)
                  | 5 => v = .int .i64 a.n
                  | 6 => v = .agg (dlv ((nmN a.r), a.n)).toArray
                  | 7 => ∃ g, v = .slice (some ⟨g, 0, none⟩) 1 1 ∧ Lies w' w'.heap.size (some ⟨g, 0, none⟩) g 0 (dlv ((nmN a.r), a.n))
                  | _ => True) (by kernel_rfl) (by kernel_rfl) (Below.refl _ _).drew ?gb ?vb ?steps ?fin
              case gb => exact fun a b h1 h2 => h1.trans (h2.mono h1.size)
              case vb =>
                intro oq v a b h hb
                match oq with
                | 0 => exact h
                | 1 => exact h
                | 2 => exact h
                | 3 => exact h
                | 4 => exact h
                | 5 => exact h
                | 6 => exact h
                | 7 => (obtain ⟨g, h1, h2⟩ := h; exact ⟨g, h1, h2.below hb⟩)
                | _ + 8 => trivial
              case steps =>
                intro vals
                simp only [List.take_succ_cons, List.take_zero, freeSteps, Act.put, List.setIfInBounds_toArray, List.set_cons_zero, List.set_cons_succ, Nat.reduceAdd]
                refine ⟨fun w8 hG hW => ?_, fun w8 hG hW => ?_, fun w8 hG hW => ?_, fun w8 hG hW => ?_, fun w8 hG hW => ?_, fun w8 hG hW => ?_, fun w8 hG hW => ?_, fun w8 hG hW => ?_, trivial⟩
                · clear hW
                  refine stepAt_value rfl rfl rfl (.slice v1 v2 v3) w8 ?_ ⟨rfl, Below.refl _ _⟩
                  go_simp
                · clear hW
                  refine stepAt_value rfl rfl rfl (.pointer (some ⟨V, 0, none⟩)) w8 ?_ ⟨rfl, Below.refl _ _⟩
                  go_simp
                · have q1 := hW 1 (by decide)
                  simp only at q1
                  rw [q1]
                  clear hW
                  refine stepAt_value rfl rfl rfl (.int .i64 a.r) w8 ?_ ⟨rfl, Below.refl _ _⟩
                  have c := (HV.out.below hG HV.out.lt).cell 0
                  simp only [bkv, List.getElem?_cons_zero] at c
                  go_simp
                · have q2 := hW 2 (by decide)
                  simp only at q2
                  rw [q2]
                  clear hW
                  refine stepAt_call rfl rfl rfl 12 #[.int .i64 a.r] (by go_simp) ((name_any w8 a.r).mono fun e w' ⟨h1, h2⟩ => ⟨_, h1, rfl, h2⟩)
                · clear hW
                  refine stepAt_value rfl rfl rfl (.pointer (some ⟨V, 3, none⟩)) w8 ?_ ⟨rfl, Below.refl _ _⟩
                  go_simp
                · have q4 := hW 4 (by decide)
                  simp only at q4
                  rw [q4]
                  clear hW
                  refine stepAt_value rfl rfl rfl (.int .i64 a.n) w8 ?_ ⟨rfl, Below.refl _ _⟩
                  have c := (HV.out.below hG HV.out.lt).cell 3
                  simp only [bkv, List.getElem?_cons_succ, List.getElem?_cons_zero] at c
                  go_simp
                · have q3 := hW 3 (by decide)
                  simp only at q3
                  have q5 := hW 5 (by decide)
                  simp only at q5
                  rw [q3, q5]
                  clear hW
                  refine stepAt_build rfl rfl rfl 74 _ rfl (dlv ((nmN a.r), a.n)).toArray ?_ ⟨rfl, Below.refl _ _⟩
                  simp only [List.map_toArray, List.map_cons, List.map_nil]
                  exact built_dlR (nmN a.r) a.n (nmN_len a.r)
                · have q6 := hW 6 (by decide)
                  simp only at q6
                  rw [q6]
                  clear hW
                  refine stepAt_build_rows rfl rfl rfl 69 74 1 _ rfl i2 (.agg (dlv dl0).toArray) (s := 33) (by omega) [dlv ((nmN a.r), a.n)] (fun rr hrr => by simp at hrr; rw [hrr]; exact dlv_length (nmN_len a.r)) Try.underlying69 hi2 hz2 hs2 rfl (by omega) (by omega) rfl ⟨⟨w8.heap.size, rfl, ?_⟩, (Below.refl _ _).alloc (Nat.le_refl _) _⟩
                  rw [show ([dlv ((nmN a.r), a.n)] : List (List Value)).flatten = dlv ((nmN a.r), a.n) by simp]
                  exact ⟨fun _ => rfl, fun _ => by simp, fun j u hj => by rw [Nat.zero_add]; exact ((Blk.new w8 74 (dlv ((nmN a.r), a.n)).toArray).cell j).trans hj⟩
              case fin =>
                intro vals w9 hG hV
                have q0 := hV 0 (by omega)
                simp only at q0
                obtain ⟨gd, qd, hld⟩ := hV 7 (by omega)
                simp only [List.take_succ_cons, List.take_zero, List.drop_succ_cons, List.drop_zero, putAll, Act.put, List.setIfInBounds_toArray, List.set_cons_zero, List.set_cons_succ, Nat.reduceAdd]
                rw [q0, qd]
                clear hV q0 qd
                generalize vals 1 = y1
                generalize vals 2 = y2
                generalize vals 3 = y3
                generalize vals 4 = y4
                generalize vals 5 = y5
                generalize vals 6 = y6
                have HW9 := Lib.hid (HWU.out.below hG)
                have HB9 := Lib.hid (HBL.out.trans (hG.mono HBL.out.size))
                have HSRC := Lib.hid (hld.src (P := Try.prog) (n := 1) (k := 33) 1 69 74 Try.underlying69 (by rw [dlv_length (d := ((nmN a.r), a.n)) (nmN_len a.r)]) (dlv_one _) (by decide))
                have HMM := Lib.hid (HM.out.below hG)
                have hkk := HKK.out
                have HM1 := Lib.hid (show (dvs x.2).length + 1 ≤ maxLen by rw [HLD.out]; unfold maxLen; omega)
                have HM2 := Lib.hid (show ((dvs x.2).length + 1) * 40 ≤ 140737488355328 by rw [HLD.out]; omega)
                have HSK := Lib.hid (show w.heap.size ≤ w9.heap.size from HB9.out.size)
                clear hld hG
                go_wp2_with (at_builtin; refine wpList_append_wide rfl _ _ 69 69 rfl rfl HW9.out (by decide) 74 i2 (.agg (dlv dl0).toArray) 40 Try.underlying69 hi2 hz2 hs2 hb2 rfl _ rfl 1 (dlv ((nmN a.r), a.n)) HSRC.out HM1.out HM2.out HSK.out ?_)
                intro v' w14 hv hg
                have HBN := Lib.hid (HB9.out.trans (hg.belowW HW9.out HSK.out))
                rw [← dvs_sole, ← dvs_append] at hv
                have HM3 := Lib.hid (HMM.out.growV hv (by rw [dvs_append, dvs_sole, List.length_append, dlv_length (d := (nmN a.r, a.n)) (nmN_len _)]; omega) hg)
                have HRN := Lib.hid (show MdS w tb mb (mkAll (l.take (k + 1))) _ _ w14 by rw [HNE.out]; exact ⟨G2, M2, HM3.out⟩)
                clear hg hv HM1 HM2 HSRC HSK HW9 HB9 HM HMM HBN HWU HBL hkk HM3 HV
                have hlk := HLT.out
                go_wp2_with fail
                go_roundw
                case rel => exact ⟨k + 1, by omega, by first | rw [HWK.out] | rw [Int.natCast_succ], HOKN, HRN⟩
                case measure => first | exact measK len k 1 ((k : Int) + 1) (by omega) hlk Nat.zero_lt_one | exact measK len k 1 (wrap64 ((k : Int) + 1)) HWK.out hlk Nat.zero_lt_one
          · have HNE := Lib.hid (show mkAll (l.take (k + 1)) = (t', x.2) by rw [HNX.out, mk1, HTE.out, if_neg hp])
            have HRN := Lib.hid (show MdS w tb mb (mkAll (l.take (k + 1))) _ _ w11 by rw [HNE.out]; exact ⟨G2, M2, HM.out⟩)
            generalize plc t' (nmN a.r) = pz at hp ⊢
            go_wp2_with fail
            clear HM HV
            have hlk := HLT.out
            go_roundw
            case rel => exact ⟨k + 1, by omega, by first | rw [HWK.out] | rw [Int.natCast_succ], HOKN, HRN⟩
            case measure => first | exact measK len k 1 ((k : Int) + 1) (by omega) hlk Nat.zero_lt_one | exact measK len k 1 (wrap64 ((k : Int) + 1)) HWK.out hlk Nat.zero_lt_one
    · obtain rfl : k = len := by omega
      have HE := Lib.hid (show l.take k = l from List.take_of_length_le (by rw [HN.out]; exact Nat.le_refl _))
      rw [HE.out] at HOK HM
      have HPL := Lib.hid (show play l = true by unfold play; rw [decide_eq_true (by rw [HN.out]; exact HLIM.out), HOK.out]; rfl)
      have HDS := Lib.hid (mkAll_good l)
      have HDL := Lib.hid (show (mkAll l).2.length ≤ 1000 by have := HDS.out.2.2.2; have := HN.out; have := HLIM.out; omega)
      obtain ⟨ua, uc, ug, uo, rfl, hul, hub⟩ := wide_dls HM.out.wu HDS.out.2.2.1
      obtain ⟨va, vc, vg, vo, rfl, hvl, hvb⟩ := wide_dls HM.out.wv HDS.out.2.2.1
      have HUL := Lib.hid hul
      have HVL := Lib.hid hvl
      have HUG := Lib.hid (show 0 < (mkAll l).2.length → ug < wx.heap.size from fun h0 => hul.lt (by rw [dvs_length _ HDS.out.2.2.1]; omega))
      have HVG := Lib.hid (show 0 < (mkAll l).2.length → vg < wx.heap.size from fun h0 => hvl.lt (by rw [dvs_length _ HDS.out.2.2.1]; omega))
      clear hlt hul hvl hub hvb
      go_wp2_with fail
      refine (wnew_any wx G tb (mkT l) 100 HM.out.tre).mono ?_
      rintro e w1x ⟨F, wb, rfl, hw, hg, hbc⟩
      have HAGF := Lib.hid (Away.high HM.out.tre.low hg)
      have HFU := Lib.hid (show 0 < (mkAll l).2.length → ug ∉ F from fun h0 hm => by have := HUG.out h0; have := hg ug hm; omega)
      have HFV := Lib.hid (show 0 < (mkAll l).2.length → vg ∉ F from fun h0 hm => by have := HVG.out h0; have := hg vg hm; omega)
      have HAMF := Lib.hid (Away.high HM.out.ref.low hg)
      have HF := Lib.hid hw
      have HHF := Lib.hid (hg.mono HM.out.bel.size)
      replace HM := Lib.hid (HM.out.below hbc)
      replace HUL := Lib.hid (HUL.out.below hbc)
      replace HVL := Lib.hid (HVL.out.below hbc)
      replace HVG := Lib.hid (show 0 < (mkAll l).2.length → vg < w1x.heap.size from fun h0 => Nat.lt_of_lt_of_le (HVG.out h0) hbc.size)
      clear hw hg hbc HUG
      go_wp2_with fail
      refine (rwnew_any w1x M mb (mkT l) 100 HM.out.ref).mono ?_
      rintro e w2x ⟨R, rb, rfl, hw, hg, hbc⟩
      have HAMR := Lib.hid (Away.high HM.out.ref.low hg)
      have HAGR := Lib.hid (Away.high HM.out.tre.low hg)
      have HAFR := Lib.hid (Away.high HF.out.low hg)
      have HRV := Lib.hid (show 0 < (mkAll l).2.length → vg ∉ R from fun h0 hm => by have := HVG.out h0; have := hg vg hm; omega)
      have HR := Lib.hid hw
      have HHR := Lib.hid (hg.mono HM.out.bel.size)
      replace HM := Lib.hid (HM.out.below hbc)
      replace HF := Lib.hid (HF.out.below hbc)
      replace HUL := Lib.hid (HUL.out.below hbc)
      replace HVL := Lib.hid (HVL.out.below hbc)
      clear hw hg hbc
      go_wp2_with fail
      have hrl : (List.replicate (mkT l).length (0 : Int)).length = (mkT l).length := List.length_replicate
      have HRL := Lib.hid hrl
      refine (apply_any w2x G tb (mkT l) 100 F wb (List.replicate (mkT l).length 0) _ _ (mkAll l).2 ua uc ug uo HM.out.tre HF.out.2.2.2 HAGF.out (Nat.le_of_eq hrl) (OwnG.zerosN _) HDS.out.2.2.1 HDL.out HUL.out HFU.out).mono ?_
      rintro e w3x ⟨rfl, F2, hf, hk, hn⟩
      have HF2 := Lib.hid (show WgtG w3x F2 wb tb (mkT l) (mkO l) from hf)
      have HT3 := Lib.hid (HM.out.tre.keep hk HAGF.out)
      have HR3 := Lib.hid (HM.out.ref.keep hk HAMF.out)
      have HRW3 := Lib.hid (HR.out.keep hk HAFR.out.symm)
      have HVL3 := Lib.hid (show Lies w3x w3x.heap.size va vg vo (dvs (mkAll l).2) from ⟨HVL.out.addr, fun h0 => Nat.lt_of_lt_of_le (HVL.out.lt h0) hk.size, fun j u hj => (World.cell?_of_block (a := ⟨vg, vo + j, none⟩) (hk.block vg (HVL.out.lt (by have := (List.getElem?_eq_some_iff.1 hj).1; omega)) (HFV.out (by have h5 := (List.getElem?_eq_some_iff.1 hj).1; rw [dvs_length _ HDS.out.2.2.1] at h5; omega)))).trans (HVL.out.cells j u hj)⟩)
      have HB3 := Lib.hid (HM.out.bel.trans (hk.below HM.out.bel.size HHF.out))
      have HAF2R := Lib.hid (HAFR.out.new hn HR.out.low)
      have HAM3 := Lib.hid HM.out.ref.low
      clear hf hk hn HM HF HUL HVL HR hrl
      go_wp2_with fail
      refine (rapply_any w3x M mb (mkT l) 100 R rb (List.replicate (mkT l).length 0) (mkAll l).2 va vc vg vo HR3.out (by rw [HRL.out]; exact HRW3.out) HAMR.out (Nat.le_of_eq HRL.out) (OwnG.zerosN _) HDS.out.2.2.1 HDL.out HVL3.out HRV.out).mono ?_
      rintro e w4x ⟨rfl, R2, hf, hk, hn⟩
      have HRF := Lib.hid (show RWk w4x R2 rb mb (mkO l) (mkO l).length from hf)
      have HFIN := Lib.hid (show Obj12 w tb wb rb (mkT l) (mkO l) w4x from ⟨⟨G, F2, M, R2, mb, HT3.out.keep hk HAGR.out, HF2.out.keep hk HAF2R.out, HR3.out.keep hk HAMR.out, HRF.out, by rw [mkO_length]; exact Nat.le_refl _, mkO_own l⟩, HB3.out.trans (hk.below HB3.out.size HHR.out)⟩)
      clear hf hk hn
      go_wp2_with fail
      ((try simp only [Exit.inBlock, Exit.then]); refine bodyPost_ret (results_tmp4 rfl _ _ _) rfl ?_)
      exact .inr ⟨tb, wb, rb, HPL.out, rfl, HFIN.out⟩
end Go.Proofs.Ytjodhagjfjgbcaa
