/-
  The texts DoesWalk11, one behind the other.
-/
import Derived.Test.YtpamifdcbnkcdaaCRWHead
import Derived.Test.YtpamifdcbnkcdaaDoesM2
import Derived.Test.YtpamifdcbnkcdaaDoesM10
/-
  The walk of WeighDoes.
-/
namespace Go.Proofs.Ytpamifdcbnkcdaa
open Go Go.RowKit
set_option maxRecDepth 10000

theorem PSX.dw {B : Nat} {K : List Nat} {w : World} {tb wb mb rb : Nat} {tx ty : List Nd} {ox oy : List Int} (h : PSX B K w tb wb mb rb tx ty ox oy) : ∃ M R, DW w M mb ty R rb oy := by
  obtain ⟨⟨G, F, M, R, h⟩, _, _⟩ := h
  exact ⟨M, R, h.ref, h.rw, h.ol, h.og⟩
section
variable {B : Nat} {K : List Nat} {w : World} {tb wb mb rb : Nat} {t : List Nd} {o : List Int}
theorem PSX.rhead (h : PSX B K w tb wb mb rb t t o o) :
    Calls Try.prog 18 #[.pointer (some ⟨rb, 0, none⟩)] w fun e w' => e = .returned (.agg (bv (pnm t (hdW t o : Int))).toArray) ∧ Below w.heap.size w w' := by
  have h0 := h.ownG.2.2
  obtain ⟨M, R, h⟩ := h.dw
  exact rhead_any w M mb t R rb o h h0
theorem PSX.rown (h : PSX B K w tb wb mb rb t t o o) (r : List UInt8) (hr : r.length = 32) :
    Calls Try.prog 20 #[.pointer (some ⟨rb, 0, none⟩), .agg (bv r).toArray] w fun e w' => e = .returned (.int .i64 (tellZ t o.length r 0 (owZ o))) ∧ Below w.heap.size w w' := by
  obtain ⟨M, R, h⟩ := h.dw
  exact rown_any w M mb t R rb o r h hr
theorem PSX.rweight (h : PSX B K w tb wb mb rb t t o o) (r : List UInt8) (hr : r.length = 32) :
    Calls Try.prog 21 #[.pointer (some ⟨rb, 0, none⟩), .agg (bv r).toArray] w fun e w' => e = .returned (.int .i64 (tellZ t o.length r 0 (wtW t o))) ∧ Below w.heap.size w w' := by
  obtain ⟨M, R, h⟩ := h.dw
  exact rweight_any w M mb t R rb o r h hr
theorem PSX.rbest (h : PSX B K w tb wb mb rb t t o o) (r : List UInt8) (hr : r.length = 32) :
    Calls Try.prog 19 #[.pointer (some ⟨rb, 0, none⟩), .agg (bv r).toArray] w fun e w' => e = .returned (.tuple #[.agg (bv (pnm t (bstZ t o r))).toArray, .bool (decide (0 ≤ bstZ t o r))]) ∧ Below w.heap.size w w' := by
  obtain ⟨M, R, h⟩ := h.dw
  exact rbest_any w M mb t R rb o r h hr
theorem PSX.rcells (h : PSX B K w tb wb mb rb t t o o) : w.cell? ⟨rb, 0, none⟩ = some (.pointer (some ⟨mb, 0, none⟩)) ∧ ∃ ba bc bg bo, w.cell? ⟨mb, 0, none⟩ = some (.slice ba t.length bc) ∧ Lies w w.heap.size ba bg bo (rv (rs t)) := by
  obtain ⟨M, R, h⟩ := h.dw
  obtain ⟨a1, c1, g1, o1, hs⟩ := h.rw.open
  obtain ⟨ba1, ba2, ba3, bc1, bc2, bc3, bg1, bg2, bg3, bo1, bo2, bo3, ht⟩ := h.ref.open
  exact ⟨hs.cell0, ba1, bc1, bg1, bo1, ht.cell0, ht.l1⟩
end
theorem do_good {B : Nat} {K : List Nat} {w : World} {tb wb mb rb : Nat} {x : List Nd × List Int} (h : PSX B K w tb wb mb rb x.1 x.1 x.2 x.2) (a : Ac) : Good (doP x a).1 256 := by
  unfold doP
  split
  · exact addT_good h.good _ (nmN_len _)
  · exact h.good

set_option maxRecDepth 100000 in
set_option maxHeartbeats 16000000 in
theorem does_any (w : World) (ao : Option Addr) (len cap g off : Nat) (l : List Ac) (r : List UInt8) (hl : l.length = len) (hr : r.length = 32) (h : Lies w w.heap.size ao g off (acvs l)) :
    Calls Try.prog 3 #[.slice ao len cap, .agg (bv r).toArray] w fun e w' => e = .returned (.bool true) ∧ Below w.heap.size w w' := by
  have HL0 := Lib.hid h
  have HN := Lib.hid hl
  have HRL := Lib.hid hr
  have HZL := Lib.hid zero32_len
  have hb1 : Below w.heap.size w (w.alloc (.cells (bv r).toArray 24)) := (Below.refl _ w).alloc (Nat.le_refl _) _
  have HO := Lib.hid (Blk.new w 24 (bv r).toArray)
  have HB := Lib.hid hb1
  clear h hl hr hb1
  go_enter Try.func3, Try.ntmps3
  go_upto_region 1 with fail
  obtain ⟨O, hO⟩ : ∃ O, O = w.heap.size := ⟨_, rfl⟩
  rw [← hO] at HO ⊢
  generalize w.alloc (.cells (bv r).toArray 24) = w0 at HO HB ⊢
  clear hO
  go_wp2_with fail
  refine (alive_any w0).mono ?_
  rintro e w1 ⟨rfl, hbc⟩
  replace HO := Lib.hid (HO.out.below hbc HO.out.lt)
  replace HB := Lib.hid (HB.out.trans (hbc.mono HB.out.size))
  clear hbc
  by_cases h1 : (60 : Int) < (len : Int)
  · go_wp2_with fail
    go_ret
    exact ⟨rfl, HB.out⟩
  have HLIM := Lib.hid (show len ≤ 60 by omega)
  go_wp2_with ((with_reducible refine wpList_load_name (.tmp 3) ?_ ?_ O 0 r ?_ HRL.out HO.out.rootAll ?_); rfl; rfl; rfl)
  refine (best_nil w1 r HRL.out).mono ?_
  rintro e w2 ⟨rfl, hbc⟩
  clear h1
  replace HO := Lib.hid (HO.out.below hbc HO.out.lt)
  replace HB := Lib.hid (HB.out.trans (hbc.mono HB.out.size))
  clear hbc
  have HA0 := Lib.hid (blk_zeroR w2)
  have hbx : Below w2.heap.size w2 ((w2.alloc (.cells #[.int .u8 0, .int .u8 0, .int .u8 0, .int .u8 0, .int .u8 0, .int .u8 0, .int .u8 0, .int .u8 0, .int .u8 0, .int .u8 0, .int .u8 0, .int .u8 0, .int .u8 0, .int .u8 0, .int .u8 0, .int .u8 0, .int .u8 0, .int .u8 0, .int .u8 0, .int .u8 0, .int .u8 0, .int .u8 0, .int .u8 0, .int .u8 0, .int .u8 0, .int .u8 0, .int .u8 0, .int .u8 0, .int .u8 0, .int .u8 0, .int .u8 0, .int .u8 0] 24)).setRow w2.heap.size (bv zero32).toArray) := below_row ((Below.refl _ w2).alloc (Nat.le_refl _) _) (Nat.le_refl _) _
  replace HO := Lib.hid (HO.out.below hbx HO.out.lt)
  replace HB := Lib.hid (HB.out.trans (hbx.mono HB.out.size))
  clear hbx
  go_upto_region 7 with ((with_reducible refine wpList_store_name (.tmp 6) (.tmp 26) ?_ ?_ w2.heap.size zero32 zero32 ?_ ?_ HA0.out HZL.out HZL.out ?_); rfl; rfl; rfl; rfl)
  try simp only [Act.put]
  obtain ⟨N0, hN0⟩ : ∃ N0, N0 = w2.heap.size := ⟨_, rfl⟩
  rw [← hN0] at HO HB ⊢
  generalize (w2.alloc (.cells #[.int .u8 0, .int .u8 0, .int .u8 0, .int .u8 0, .int .u8 0, .int .u8 0, .int .u8 0, .int .u8 0, .int .u8 0, .int .u8 0, .int .u8 0, .int .u8 0, .int .u8 0, .int .u8 0, .int .u8 0, .int .u8 0, .int .u8 0, .int .u8 0, .int .u8 0, .int .u8 0, .int .u8 0, .int .u8 0, .int .u8 0, .int .u8 0, .int .u8 0, .int .u8 0, .int .u8 0, .int .u8 0, .int .u8 0, .int .u8 0, .int .u8 0, .int .u8 0] 24)).setRow N0 (bv zero32).toArray = w3 at HO HB ⊢
  clear hN0 HA0
  go_wp2_with fail
  refine (wnew_nil w3).mono ?_
  rintro e w4 ⟨rfl, rfl⟩
  go_wp2_with fail
  refine (apply_nil w4 (.slice none 0 0)).mono ?_
  rintro e w5 ⟨rfl, rfl⟩
  go_wp2_with ((with_reducible refine wpList_load_name (.tmp 3) ?_ ?_ O 0 r ?_ HRL.out HO.out.rootAll ?_); rfl; rfl; rfl)
  refine (own_nil w5 r HRL.out).mono ?_
  rintro e w6 ⟨rfl, hbc⟩
  replace HO := Lib.hid (HO.out.below hbc HO.out.lt)
  replace HB := Lib.hid (HB.out.trans (hbc.mono HB.out.size))
  clear hbc
  go_wp2_with ((with_reducible refine wpList_load_name (.tmp 3) ?_ ?_ O 0 r ?_ HRL.out HO.out.rootAll ?_); rfl; rfl; rfl)
  refine (wt_nil w6 r HRL.out).mono ?_
  rintro e w7 ⟨rfl, hbc⟩
  replace HO := Lib.hid (HO.out.below hbc HO.out.lt)
  replace HB := Lib.hid (HB.out.trans (hbc.mono HB.out.size))
  clear hbc
  go_wp2_with fail
  refine (head_nil w7).mono ?_
  rintro e w8 ⟨rfl, hbc⟩
  replace HO := Lib.hid (HO.out.below hbc HO.out.lt)
  replace HB := Lib.hid (HB.out.trans (hbc.mono HB.out.size))
  clear hbc
  have he := root_eqW w8 zero32 zero32 HZL.out HZL.out
  rw [show (zero32 == zero32) = true from beq_self_eq_true _, ← zroot_lit] at he
  rw [← zroot_lit]
  go_wp2_with fail
  clear he
  refine (begun_any w8).mono ?_
  rintro e w9 ⟨tb, wb, mb, rb, rfl, hp, hbc⟩
  have HB1 := Lib.hid HB.out.size
  have HOB0 := Lib.hid HO.out.lt
  obtain ⟨B, hBB⟩ : ∃ B, B = w8.heap.size := ⟨_, rfl⟩
  rw [← hBB] at hp HB1 HOB0
  have HOB := Lib.hid (show O < B from HOB0.out)
  have HP0 := Lib.hid hp
  replace HO := Lib.hid (HO.out.below hbc HO.out.lt)
  replace HB := Lib.hid (HB.out.trans (hbc.mono HB.out.size))
  clear hbc hp hBB HOB0
  have HX0 := Lib.hid (show Blk (w9.alloc (.cells #[.pointer none, .pointer none, .pointer none] 37)) w9.heap.size 37 [.pointer none, .pointer none, .pointer none] from Blk.new w9 37 #[.pointer none, .pointer none, .pointer none])
  have hbx : Below w9.heap.size w9 ((w9.alloc (.cells #[.pointer none, .pointer none, .pointer none] 37)).setRow w9.heap.size (prv tb wb rb).toArray) := below_row ((Below.refl _ w9).alloc (Nat.le_refl _) _) (Nat.le_refl _) _
  have HX := Lib.hid (HX0.out.setRow (prv tb wb rb))
  obtain ⟨X, hX⟩ : ∃ X, X = w9.heap.size := ⟨_, rfl⟩
  have HP := Lib.hid (HP0.out.more hbx (K' := [X]) (fun k hk => by simp at hk; omega) (fun k hk => by simp at hk; rw [hk, hX]; exact HX.out.lt))
  replace HO := Lib.hid (HO.out.below hbx HO.out.lt)
  replace HB := Lib.hid (HB.out.trans (hbx.mono HB.out.size))
  clear hbx HP0
  go_upto_region 10 with ((with_reducible refine wpList_store_pair (.tmp 8) (.tmp 56) ?_ ?_ w9.heap.size tb wb rb ?_ ?_ HX0.out ?_); rfl; rfl; rfl; rfl)
  try simp only [Act.put]
  rw [← hX] at HX HB HO ⊢
  rw [← hX] at HP
  generalize (w9.alloc (.cells #[.pointer none, .pointer none, .pointer none] 37)).setRow X (prv tb wb rb).toArray = w10 at HX HP HB HO ⊢
  clear hX HX0
  rw [List.append_nil] at HP
  have HX2 := Lib.hid (show Blk w10 X 37 (prv tb wb rb) from HX.out)
  clear HX
  have HX := HX2
  clear HX2
  go_wp2_with fail
  go_loopw [59] (fun i wr => ∃ k : Nat, k ≤ len ∧ i = .int .i64 k ∧ Hid (PSX B [X] wr tb wb mb rb (doAll (root11, [0]) (l.take k)).1 (doAll (root11, [0]) (l.take k)).1 (doAll (root11, [0]) (l.take k)).2 (doAll (root11, [0]) (l.take k)).2) ∧ Hid (Blk wr X 37 (prv tb wb rb)) ∧ Hid (Blk wr O 24 (bv r)) ∧ Hid (Below w.heap.size w wr)) (fun i _ => len - (intOf i).toNat)
  case atStart => exact ⟨0, Nat.zero_le _, rfl, HP, HX, HO, HB⟩
  case round =>
    clear HP HX HO HB
    obtain ⟨k, hk, rfl, HP, HX, HO, HB⟩ := hrel
    by_cases hlt : k < len
    · obtain ⟨a, ha⟩ : ∃ a, l[k]? = some a := ⟨_, List.getElem?_eq_getElem (by rw [HN.out]; exact hlt)⟩
      obtain ⟨hao, hca⟩ := (HL0.out.keep HB.out).act ha
      subst hao
      have HCA := Lib.hid hca
      have HNX := Lib.hid (doAll_next (x := (root11, [0])) ha)
      have HLT := Lib.hid hlt
      have hlt' : (k : Int) < (len : Int) := by omega
      have HWR := Lib.hid (show wrap64 ((k : Int) + 1) = ((k + 1 : Nat) : Int) by have := HLIM.out; unfold wrap64; omega)
      clear ha hca hlt hk
      obtain ⟨V, hV⟩ : ∃ V, V = wr.heap.size := ⟨_, rfl⟩
      have HV0 := Lib.hid (show Blk (wr.alloc (.cells #[.int .i64 0, .int .i64 0, .int .i64 0, .int .i64 0, .int .i64 0, .int .i64 0] 40)) wr.heap.size 40 (acv ac0) from Blk.new wr 40 (acv ac0).toArray)
      have hbx : Below wr.heap.size wr ((wr.alloc (.cells #[.int .i64 0, .int .i64 0, .int .i64 0, .int .i64 0, .int .i64 0, .int .i64 0] 40)).setRow wr.heap.size (acv a).toArray) := below_row ((Below.refl _ wr).alloc (Nat.le_refl _) _) (Nat.le_refl _) _
      have HV := Lib.hid (HV0.out.setRow (acv a))
      replace HP := Lib.hid (HP.out.more hbx (K' := [wr.heap.size]) (fun k hk => by simp at hk; omega) (fun k hk => by simp at hk; rw [hk]; exact HV.out.lt))
      replace HX := Lib.hid (HX.out.below hbx HX.out.lt)
      replace HO := Lib.hid (HO.out.below hbx HO.out.lt)
      replace HB := Lib.hid (HB.out.trans (hbx.mono HB.out.size))
      clear hbx
      go_upto_region 13 with (first
        | ((with_reducible refine wpList_load_act (.tmp 61) ?_ ?_ g (off + k * 6) a ?_ HCA.out ?_); rfl; rfl; rfl)
        | ((with_reducible refine wpList_store_act (.tmp 10) (.tmp 62) ?_ ?_ wr.heap.size ac0 a ?_ ?_ HV0.out ?_); rfl; rfl; rfl; rfl))
      try simp only [Act.put]
      rw [← hV] at HV HP HX HO HB ⊢
      generalize (wr.alloc (.cells #[.int .i64 0, .int .i64 0, .int .i64 0, .int .i64 0, .int .i64 0, .int .i64 0] 40)).setRow V (acv a).toArray = w5 at HV HP HX HO HB ⊢
      clear hV HV0 HCA
      obtain ⟨t2, ht2⟩ : ∃ t2, t2 = (doAll (root11, [0]) (l.take (k + 1))).1 := ⟨_, rfl⟩
      obtain ⟨o2, ho2⟩ : ∃ o2, o2 = (doAll (root11, [0]) (l.take (k + 1))).2 := ⟨_, rfl⟩
      have HT2 := Lib.hid ht2
      have HO2 := Lib.hid ho2
      have HDT := Lib.hid (show (doP (doAll (root11, [0]) (l.take k)) a).1 = t2 by rw [ht2, HNX.out])
      have HDO := Lib.hid (show (doP (doAll (root11, [0]) (l.take k)) a).2 = o2 by rw [ho2, HNX.out])
      clear ht2 ho2 HNX
      obtain ⟨hd, hhd⟩ : ∃ hd, pnm t2 (hdW t2 o2 : Int) = hd := ⟨_, rfl⟩
      have HHD := Lib.hid hhd
      have HHL := Lib.hid (show hd.length = 32 by
        have hh := do_good HP.out a
        rw [HDT.out] at hh
        rw [← hhd]
        exact hh.pnm_len _)
      clear hhd
      refine wp_region_freeL (P := Try.prog) 13 2 (by decide) w5 (fun oq => match oq with
          | 0 => .agg (prv tb wb rb).toArray
          | 1 => .agg (acv a).toArray
          | 2 => .bool true
          | 3 => .bool false
          | 4 => .bool false
          | 5 => .pointer (some ⟨X, 1, none⟩)
          | 6 => .pointer (some ⟨wb, 0, none⟩)
          | 7 => .agg (bv hd).toArray
          | 8 => .pointer (some ⟨X, 2, none⟩)
          | 9 => .pointer (some ⟨rb, 0, none⟩)
          | 10 => .agg (bv hd).toArray
          | 11 => .bool false
          | 12 => .bool false
          | _ => undef) (fun w' => PSX B ([V] ++ [X]) w' tb wb mb rb t2 t2 o2 o2 ∧ Blk w' X 37 (prv tb wb rb) ∧ Blk w' O 24 (bv r) ∧ Below w.heap.size w w' ∧ Blk w' V 40 (acv a)) (fun oq => decide (3 ≤ oq)) (by kernel_rfl) (by kernel_rfl) ?bl ?pb ?steps ?fin
      case bl => exact (Below.refl _ _).drew
      case pb => exact fun a' b' ⟨h1, h2, h3, h4, h5⟩ hb => ⟨h1.below hb, h2.below hb h2.lt, h3.below hb h3.lt, h4.trans (hb.mono h4.size), h5.below hb h5.lt⟩
      case steps =>
        intro vals
        simp only [List.take_succ_cons, List.take_zero, freeStepsL, Act.put, List.setIfInBounds_toArray, List.set_cons_zero, List.set_cons_succ, Nat.reduceAdd, Nat.reduceEqDiff, Nat.reduceLeDiff, decide_eq_true_eq, reduceIte]
        refine ⟨fun w8 hG hW => ?_, fun w8 hG hW => ?_, fun w8 hG hW => ?_, ?_, ?_, ?_, ?_, ?_, ?_, ?_, ?_, ?_, ?_, trivial⟩
        · clear hW
          exact stepAt_load_run rfl rfl rfl _ _ rfl _ _ rfl (run_load_pair (hG.elim (fun hb => HX.out.below hb HX.out.lt) (fun hb => hb.2.1))) ⟨rfl, Below.refl _ _⟩
        · clear hW
          exact stepAt_load_run rfl rfl rfl _ _ rfl _ _ rfl (run_loadAt_agg (g := V) (off := 0) (cs := acv a) (fun j' v' hj' => by rw [Nat.zero_add, (show Blk w8 V 40 (acv a) from hG.elim (fun hb => HV.out.below hb HV.out.lt) (fun hb => hb.2.2.2.2)).cell]; exact hj') 40 Try.aggAct Try.sizeAct) ⟨rfl, Below.refl _ _⟩
        · have q0 := hW 0 (by decide)
          simp only at q0
          have q1 := hW 1 (by decide)
          simp only at q1
          rw [q0, q1]
          clear hW
          refine stepAt_call rfl rfl rfl 17 #[.agg (prv tb wb rb).toArray, .agg (acv a).toArray] (by go_simp) ((do_any w8 B ([V] ++ [X]) tb wb mb rb _ _ a (HP.out.below hG)).mono fun e w' ⟨h1, h2, h3, h4⟩ => ⟨_, h1, rfl, ?_⟩)
          rw [HDT.out, HDO.out] at h2
          exact ⟨h2, h4.blk (HX.out.below hG HX.out.lt) (by simp), (HO.out.below hG HO.out.lt).below h3 HOB.out, (HB.out.trans (hG.mono HB.out.size)).trans (h3.mono HB1.out), h4.blk (HV.out.below hG HV.out.lt) (by simp)⟩
        · refine ⟨⟨2, by decide, by decide⟩, fun w8 hG hW => ?_⟩
          have q2 := hW 2 (by decide)
          simp only at q2
          rw [q2]
          clear hW
          refine stepAt_value rfl rfl rfl (.bool false) w8 ?_ ⟨rfl, Below.refl _ _⟩
          go_simp
        · refine ⟨⟨3, by decide, by decide⟩, fun w8 hG hW => ?_⟩
          have q3 := hW 3 (by decide)
          simp only at q3
          rw [q3]
          clear hW
          refine stepAt_value rfl rfl rfl (.bool false) w8 ?_ ⟨rfl, Below.refl _ _⟩
          go_simp
        · refine ⟨⟨4, by decide, by decide⟩, fun w8 hG hW => ?_⟩
          have q4 := hW 4 (by decide)
          simp only at q4
          rw [q4]
          clear hW
          refine stepAt_value rfl rfl rfl (.pointer (some ⟨X, 1, none⟩)) w8 ?_ ⟨rfl, Below.refl _ _⟩
          go_simp
        · refine ⟨⟨4, by decide, by decide⟩, fun w8 hG hW => ?_⟩
          have q4 := hW 4 (by decide)
          simp only at q4
          have q5 := hW 5 (by decide)
          simp only at q5
          rw [q4, q5]
          clear hW
          refine stepAt_value rfl rfl rfl (.pointer (some ⟨wb, 0, none⟩)) w8 ?_ ⟨rfl, Below.refl _ _⟩
          have hh := hG.2.1.cell 1
          simp only [prv, List.getElem?_cons_succ, List.getElem?_cons_zero] at hh
          go_simp
        · refine ⟨⟨4, by decide, by decide⟩, fun w8 hG hW => ?_⟩
          have q4 := hW 4 (by decide)
          simp only at q4
          have q6 := hW 6 (by decide)
          simp only at q6
          rw [q4, q6]
          clear hW
          refine stepAt_call rfl rfl rfl 15 #[.pointer (some ⟨wb, 0, none⟩)] (by go_simp) (hG.1.head.mono fun e w' ⟨h1, h2⟩ => ⟨_, h1, by rw [HHD.out], h2⟩)
        · refine ⟨⟨4, by decide, by decide⟩, fun w8 hG hW => ?_⟩
          have q4 := hW 4 (by decide)
          simp only at q4
          rw [q4]
          clear hW
          refine stepAt_value rfl rfl rfl (.pointer (some ⟨X, 2, none⟩)) w8 ?_ ⟨rfl, Below.refl _ _⟩
          go_simp
        · refine ⟨⟨4, by decide, by decide⟩, fun w8 hG hW => ?_⟩
          have q4 := hW 4 (by decide)
          simp only at q4
          have q8 := hW 8 (by decide)
          simp only at q8
          rw [q4, q8]
          clear hW
          refine stepAt_value rfl rfl rfl (.pointer (some ⟨rb, 0, none⟩)) w8 ?_ ⟨rfl, Below.refl _ _⟩
          have hh := hG.2.1.cell 2
          simp only [prv, List.getElem?_cons_succ, List.getElem?_cons_zero] at hh
          go_simp
        · refine ⟨⟨4, by decide, by decide⟩, fun w8 hG hW => ?_⟩
          have q4 := hW 4 (by decide)
          simp only at q4
          have q9 := hW 9 (by decide)
          simp only at q9
          rw [q4, q9]
          clear hW
          refine stepAt_call rfl rfl rfl 18 #[.pointer (some ⟨rb, 0, none⟩)] (by go_simp) (hG.1.rhead.mono fun e w' ⟨h1, h2⟩ => ⟨_, h1, by rw [HHD.out], h2⟩)
        · refine ⟨⟨4, by decide, by decide⟩, fun w8 hG hW => ?_⟩
          have q4 := hW 4 (by decide)
          simp only at q4
          have q7 := hW 7 (by decide)
          simp only at q7
          have q10 := hW 10 (by decide)
          simp only at q10
          rw [q4, q7, q10]
          clear hW
          refine stepAt_value rfl rfl rfl (.bool false) w8 ?_ ⟨rfl, Below.refl _ _⟩
          have he := root_eqW w8 hd hd HHL.out HHL.out
          rw [show (hd == hd) = true from beq_self_eq_true _] at he
          go_simp
        · refine ⟨⟨4, by decide, by decide⟩, fun w8 hG hW => ?_⟩
          have q4 := hW 4 (by decide)
          simp only at q4
          have q11 := hW 11 (by decide)
          simp only at q11
          rw [q4, q11]
          clear hW
          refine stepAt_value rfl rfl rfl (.bool false) w8 ?_ ⟨rfl, Below.refl _ _⟩
          go_simp
      case fin =>
        intro vals wq hV hG
        have q12 := hV 12 (by omega)
        simp only at q12
        simp only [List.take_succ_cons, List.take_zero, List.drop_succ_cons, List.drop_zero, putAll, Act.put, List.setIfInBounds_toArray, List.set_cons_zero, List.set_cons_succ, Nat.reduceAdd]
        rw [q12]
        clear hV q12
        generalize vals 0 = y0
        generalize vals 1 = y1
        generalize vals 2 = y2
        generalize vals 3 = y3
        generalize vals 4 = y4
        generalize vals 5 = y5
        generalize vals 6 = y6
        generalize vals 7 = y7
        generalize vals 8 = y8
        generalize vals 9 = y9
        generalize vals 10 = y10
        generalize vals 11 = y11

        have HP2 := Lib.hid (show PSX B [X] wq tb wb mb rb (doAll (root11, [0]) (l.take (k + 1))).1 (doAll (root11, [0]) (l.take (k + 1))).1 (doAll (root11, [0]) (l.take (k + 1))).2 (doAll (root11, [0]) (l.take (k + 1))).2 by rw [← HT2.out, ← HO2.out]; exact PSX.drop [V] hG.1)
        have HX2 := Lib.hid hG.2.1
        have HOQ := Lib.hid hG.2.2.1
        have HB2 := Lib.hid hG.2.2.2.1
        clear hG HP HX HO HB HV
        go_wp2_with fail
        have hlk := HLT.out
        go_roundw
        case rel => exact ⟨k + 1, by omega, by first | rw [HWR.out] | rw [Int.natCast_succ], HP2, HX2, HOQ, HB2⟩
        case measure => first | exact measK len k 1 ((k : Int) + 1) (by omega) hlk Nat.zero_lt_one | exact measK len k 1 (wrap64 ((k : Int) + 1)) HWR.out hlk Nat.zero_lt_one
    · have hge : ¬ (k : Int) < (len : Int) := by omega
      generalize doAll (root11, [0]) (l.take k) = x at HP
      obtain ⟨t, own⟩ := x
      simp only at HP
      have HGD := Lib.hid HP.out.good
      have HM256 := Lib.hid (show t.length ≤ 256 ∧ 1 ≤ t.length by have := HGD.out.room; have := HGD.out.most256; have := HGD.out.pos; omega)
      clear hlt hk
      go_wp2_with fail
      go_loopw [11] (fun i wx => ∃ (k : Nat), k ≤ t.length + 1 ∧ i = .int .i64 k ∧ Hid (PSX B [X] wx tb wb mb rb t t own own) ∧ Hid (Blk wx X 37 (prv tb wb rb)) ∧ Hid (Blk wx O 24 (bv r)) ∧ Hid (Below w.heap.size w wx)) (fun i _ => t.length + 1 - (intOf i).toNat)
      case atStart => exact ⟨0, Nat.zero_le _, rfl, HP, HX, HO, HB⟩
      case round =>
        clear HP HX HO HB hge
        obtain ⟨k, hk, rfl, HP, HX, HO, HB⟩ := hrel
        obtain ⟨wx, rfl⟩ : ∃ x, x = wr := ⟨_, rfl⟩
        obtain ⟨kr0, ba, bc, bg, bo, km0, hbl⟩ := HP.out.rcells
        have kx2 := HX.out.cell 2
        simp only [prv, List.getElem?_cons_succ, List.getElem?_cons_zero] at kx2
        by_cases hle : k ≤ t.length
        · have hle' : (k : Int) ≤ (t.length : Int) := by omega
          have HLE := Lib.hid hle
          have HWK := Lib.hid (show wrap64 ((k : Int) + 1) = ((k + 1 : Nat) : Int) by have := HM256.out; unfold wrap64; omega)
          have HXD := Lib.hid (show X < wx.heap.size from HX.out.lt)
          have HOD := Lib.hid (show O < wx.heap.size from HO.out.lt)
          have HDB := Lib.hid (show w.heap.size ≤ wx.heap.size from HB.out.size)
          have hr := HRL.out
          clear hle hk hbl
          have HO0 := Lib.hid HO.out
          have HO1 := Lib.hid (show Blk (wx.alloc (.cells #[.int .u8 0, .int .u8 0, .int .u8 0, .int .u8 0, .int .u8 0, .int .u8 0, .int .u8 0, .int .u8 0, .int .u8 0, .int .u8 0, .int .u8 0, .int .u8 0, .int .u8 0, .int .u8 0, .int .u8 0, .int .u8 0, .int .u8 0, .int .u8 0, .int .u8 0, .int .u8 0, .int .u8 0, .int .u8 0, .int .u8 0, .int .u8 0, .int .u8 0, .int .u8 0, .int .u8 0, .int .u8 0, .int .u8 0, .int .u8 0, .int .u8 0, .int .u8 0] 24)) O 24 (bv r) from HO.out.alloc _)
          have HZ := Lib.hid (blk_zeroR wx)
          have HZL := Lib.hid zero32_len
          have HD := Lib.hid (HZ.out.setRow (bv r))
          have hbx : Below wx.heap.size wx ((wx.alloc (.cells #[.int .u8 0, .int .u8 0, .int .u8 0, .int .u8 0, .int .u8 0, .int .u8 0, .int .u8 0, .int .u8 0, .int .u8 0, .int .u8 0, .int .u8 0, .int .u8 0, .int .u8 0, .int .u8 0, .int .u8 0, .int .u8 0, .int .u8 0, .int .u8 0, .int .u8 0, .int .u8 0, .int .u8 0, .int .u8 0, .int .u8 0, .int .u8 0, .int .u8 0, .int .u8 0, .int .u8 0, .int .u8 0, .int .u8 0, .int .u8 0, .int .u8 0, .int .u8 0] 24)).setRow wx.heap.size (bv r).toArray) := below_row ((Below.refl _ wx).alloc (Nat.le_refl _) _) (Nat.le_refl _) _
          replace HP := Lib.hid (HP.out.more hbx (K' := [wx.heap.size]) (fun k hk => by simp at hk; omega) (fun k hk => by simp at hk; rw [hk]; exact HD.out.lt))
          replace HX := Lib.hid (HX.out.below hbx HX.out.lt)
          replace HO := Lib.hid (HO.out.below hbx HO.out.lt)
          replace HB := Lib.hid (HB.out.trans (hbx.mono HB.out.size))
          clear hbx
          obtain ⟨D, hRR⟩ : ∃ D, D = wx.heap.size := ⟨_, rfl⟩
          go_upto_region 20 with (first | ((with_reducible refine wpList_load_name (.tmp 3) ?_ ?_ O 0 r ?_ HRL.out HO1.out.rootAll ?_); rfl; rfl; rfl) | ((with_reducible refine wpList_load_name (.tmp 3) ?_ ?_ O 0 r ?_ HRL.out HO0.out.rootAll ?_); rfl; rfl; rfl) | ((with_reducible refine wpList_store_name (.tmp 12) (.tmp 90) ?_ ?_ wx.heap.size zero32 r ?_ ?_ HZ.out HZL.out HRL.out ?_); rfl; rfl; rfl; rfl))
          try simp only [Act.put]
          rw [← hRR] at HD HP HX HO HB HXD HOD HDB ⊢
          generalize (wx.alloc (.cells #[.int .u8 0, .int .u8 0, .int .u8 0, .int .u8 0, .int .u8 0, .int .u8 0, .int .u8 0, .int .u8 0, .int .u8 0, .int .u8 0, .int .u8 0, .int .u8 0, .int .u8 0, .int .u8 0, .int .u8 0, .int .u8 0, .int .u8 0, .int .u8 0, .int .u8 0, .int .u8 0, .int .u8 0, .int .u8 0, .int .u8 0, .int .u8 0, .int .u8 0, .int .u8 0, .int .u8 0, .int .u8 0, .int .u8 0, .int .u8 0, .int .u8 0, .int .u8 0] 24)).setRow D (bv r).toArray = w9 at HD HP HX HO HB HXD HOD HDB ⊢
          clear HZ HZL hRR

          clear HO0 HO1 kr0 km0 kx2 hle'
          obtain ⟨kr0, ba, bc, bg, bo, km0, hbl⟩ := HP.out.rcells
          have kx2 := HX.out.cell 2
          simp only [prv, List.getElem?_cons_succ, List.getElem?_cons_zero] at kx2
          have HBL := Lib.hid hbl
          clear hbl
          by_cases hlt : k < t.length
          · have hlt' : (k : Int) < (t.length : Int) := by omega
            obtain ⟨n, hn⟩ : ∃ n, t[k]? = some n := ⟨_, List.getElem?_eq_getElem hlt⟩
            have HNL := Lib.hid (show n.1.length = 32 from HGD.out.nds n (List.mem_of_getElem? hn))
            obtain ⟨hba, hcn⟩ := HBL.out.name HGD.out.rts (rs_at hn)
            subst hba
            have HCN := Lib.hid hcn
            clear hn hcn HBL hlt
            have HPD := Lib.hid (HP.out.row (k := D) (by simp) (bv n.1).toArray)
            have HXN := Lib.hid (HX.out.setRow_other (bv n.1).toArray (show X ≠ D by have := HXD.out; omega))
            have HON := Lib.hid (HO.out.setRow_other (bv n.1).toArray (show O ≠ D by have := HOD.out; omega))
            have HBD := Lib.hid (below_row HB.out HDB.out (bv n.1).toArray)
            have HDN := Lib.hid (HD.out.setRow (bv n.1))
            go_upto_region 22 with (first
              | ((with_reducible refine wpList_load_name (.tmp 111) ?_ ?_ bg (bo + k * 32) n.1 ?_ HNL.out HCN.out ?_); rfl; rfl; rfl)
              | ((with_reducible refine wpList_store_name (.tmp 12) (.tmp 112) ?_ ?_ D r n.1 ?_ ?_ HD.out HRL.out HNL.out ?_); rfl; rfl; rfl; rfl))
            try simp only [Act.put]
            clear hlt' kr0 km0 kx2 HP HX HO HB HD HCN
            generalize w9.setRow D (bv n.1).toArray = w9n at HPD HXN HON HBD HDN ⊢
            have HP := HPD
            have HX := HXN
            have HO := HON
            have HB := HBD
            have HD := HDN
            clear HPD HXN HON HBD HDN
            obtain ⟨bn, hbn⟩ : ∃ bn, pnm t (bstZ t own n.1) = bn := ⟨_, rfl⟩
            obtain ⟨bq, hbq⟩ : ∃ bq, decide (0 ≤ bstZ t own n.1) = bq := ⟨_, rfl⟩
            obtain ⟨yo, hyo⟩ : ∃ yo, tellZ t own.length n.1 0 (owZ own) = yo := ⟨_, rfl⟩
            obtain ⟨yw, hyw⟩ : ∃ yw, tellZ t own.length n.1 0 (wtW t own) = yw := ⟨_, rfl⟩
            have HBNL := Lib.hid (show bn.length = 32 by rw [← hbn]; exact HGD.out.pnm_len _)
            have HBN := Lib.hid hbn
            have HBQ := Lib.hid hbq
            have HYO := Lib.hid hyo
            have HYW := Lib.hid hyw
            clear hbn hbq hyo hyw
            have kp1 := HX.out.cell 1
            simp only [prv, List.getElem?_cons_succ, List.getElem?_cons_zero] at kp1
            go_wp2_with ((with_reducible refine wpList_load_name (.tmp 12) ?_ ?_ D 0 n.1 ?_ HNL.out HD.out.rootAll ?_); rfl; rfl; rfl)
            refine (HP.out.best n.1 HNL.out).mono ?_
            rintro e wa ⟨rfl, hbc⟩
            clear kp1
            replace HP := Lib.hid (HP.out.below hbc)
            replace HX := Lib.hid (HX.out.below hbc HX.out.lt)
            replace HO := Lib.hid (HO.out.below hbc HO.out.lt)
            replace HB := Lib.hid (HB.out.trans (hbc.mono HB.out.size))
            replace HD := Lib.hid (HD.out.below hbc HD.out.lt)
            clear hbc
            rw [HBN.out, HBQ.out]
            have HZ := Lib.hid (blk_zeroR wa)
            have HZL := Lib.hid zero32_len
            have HE := Lib.hid (HZ.out.setRow (bv bn))
            have hbx : Below wa.heap.size wa ((wa.alloc (.cells #[.int .u8 0, .int .u8 0, .int .u8 0, .int .u8 0, .int .u8 0, .int .u8 0, .int .u8 0, .int .u8 0, .int .u8 0, .int .u8 0, .int .u8 0, .int .u8 0, .int .u8 0, .int .u8 0, .int .u8 0, .int .u8 0, .int .u8 0, .int .u8 0, .int .u8 0, .int .u8 0, .int .u8 0, .int .u8 0, .int .u8 0, .int .u8 0, .int .u8 0, .int .u8 0, .int .u8 0, .int .u8 0, .int .u8 0, .int .u8 0, .int .u8 0, .int .u8 0] 24)).setRow wa.heap.size (bv bn).toArray) := below_row ((Below.refl _ wa).alloc (Nat.le_refl _) _) (Nat.le_refl _) _
            replace HP := Lib.hid (HP.out.below hbx)
            replace HX := Lib.hid (HX.out.below hbx HX.out.lt)
            replace HO := Lib.hid (HO.out.below hbx HO.out.lt)
            replace HB := Lib.hid (HB.out.trans (hbx.mono HB.out.size))
            replace HD := Lib.hid (HD.out.below hbx HD.out.lt)
            clear hbx
            obtain ⟨E, hRR⟩ : ∃ E, E = wa.heap.size := ⟨_, rfl⟩
            go_upto_region 23 with (first | ((with_reducible refine wpList_load_name (.tmp 118) ?_ ?_ wa.heap.size 0 bn ?_ HBNL.out HBNL.out ?_); rfl; rfl; rfl) | ((with_reducible refine wpList_store_name (.tmp 13) (.tmp 118) ?_ ?_ wa.heap.size zero32 bn ?_ ?_ HZ.out HZL.out HBNL.out ?_); rfl; rfl; rfl; rfl))
            try simp only [Act.put]
            rw [← hRR] at HE HP HX HO HB HD ⊢
            generalize (wa.alloc (.cells #[.int .u8 0, .int .u8 0, .int .u8 0, .int .u8 0, .int .u8 0, .int .u8 0, .int .u8 0, .int .u8 0, .int .u8 0, .int .u8 0, .int .u8 0, .int .u8 0, .int .u8 0, .int .u8 0, .int .u8 0, .int .u8 0, .int .u8 0, .int .u8 0, .int .u8 0, .int .u8 0, .int .u8 0, .int .u8 0, .int .u8 0, .int .u8 0, .int .u8 0, .int .u8 0, .int .u8 0, .int .u8 0, .int .u8 0, .int .u8 0, .int .u8 0, .int .u8 0] 24)).setRow E (bv bn).toArray = wb2 at HE HP HX HO HB HD ⊢
            clear HZ HZL hRR

            have kp2 := HX.out.cell 2
            simp only [prv, List.getElem?_cons_succ, List.getElem?_cons_zero] at kp2
            go_wp2_with ((with_reducible refine wpList_load_name (.tmp 12) ?_ ?_ D 0 n.1 ?_ HNL.out HD.out.rootAll ?_); rfl; rfl; rfl)
            refine (HP.out.rbest n.1 HNL.out).mono ?_
            rintro e wc2 ⟨rfl, hbc⟩
            clear kp2
            replace HP := Lib.hid (HP.out.below hbc)
            replace HX := Lib.hid (HX.out.below hbc HX.out.lt)
            replace HO := Lib.hid (HO.out.below hbc HO.out.lt)
            replace HB := Lib.hid (HB.out.trans (hbc.mono HB.out.size))
            replace HD := Lib.hid (HD.out.below hbc HD.out.lt)
            replace HE := Lib.hid (HE.out.below hbc HE.out.lt)
            clear hbc
            rw [HBN.out, HBQ.out]
            have HZ := Lib.hid (blk_zeroR wc2)
            have HZL := Lib.hid zero32_len
            have HF := Lib.hid (HZ.out.setRow (bv bn))
            have hbx : Below wc2.heap.size wc2 ((wc2.alloc (.cells #[.int .u8 0, .int .u8 0, .int .u8 0, .int .u8 0, .int .u8 0, .int .u8 0, .int .u8 0, .int .u8 0, .int .u8 0, .int .u8 0, .int .u8 0, .int .u8 0, .int .u8 0, .int .u8 0, .int .u8 0, .int .u8 0, .int .u8 0, .int .u8 0, .int .u8 0, .int .u8 0, .int .u8 0, .int .u8 0, .int .u8 0, .int .u8 0, .int .u8 0, .int .u8 0, .int .u8 0, .int .u8 0, .int .u8 0, .int .u8 0, .int .u8 0, .int .u8 0] 24)).setRow wc2.heap.size (bv bn).toArray) := below_row ((Below.refl _ wc2).alloc (Nat.le_refl _) _) (Nat.le_refl _) _
            replace HP := Lib.hid (HP.out.below hbx)
            replace HX := Lib.hid (HX.out.below hbx HX.out.lt)
            replace HO := Lib.hid (HO.out.below hbx HO.out.lt)
            replace HB := Lib.hid (HB.out.trans (hbx.mono HB.out.size))
            replace HD := Lib.hid (HD.out.below hbx HD.out.lt)
            replace HE := Lib.hid (HE.out.below hbx HE.out.lt)
            clear hbx
            obtain ⟨F, hRR⟩ : ∃ F, F = wc2.heap.size := ⟨_, rfl⟩
            go_upto_region 24 with (first | ((with_reducible refine wpList_load_name (.tmp 125) ?_ ?_ wc2.heap.size 0 bn ?_ HBNL.out HBNL.out ?_); rfl; rfl; rfl) | ((with_reducible refine wpList_store_name (.tmp 15) (.tmp 125) ?_ ?_ wc2.heap.size zero32 bn ?_ ?_ HZ.out HZL.out HBNL.out ?_); rfl; rfl; rfl; rfl))
            try simp only [Act.put]
            rw [← hRR] at HF HP HX HO HB HD HE ⊢
            generalize (wc2.alloc (.cells #[.int .u8 0, .int .u8 0, .int .u8 0, .int .u8 0, .int .u8 0, .int .u8 0, .int .u8 0, .int .u8 0, .int .u8 0, .int .u8 0, .int .u8 0, .int .u8 0, .int .u8 0, .int .u8 0, .int .u8 0, .int .u8 0, .int .u8 0, .int .u8 0, .int .u8 0, .int .u8 0, .int .u8 0, .int .u8 0, .int .u8 0, .int .u8 0, .int .u8 0, .int .u8 0, .int .u8 0, .int .u8 0, .int .u8 0, .int .u8 0, .int .u8 0, .int .u8 0] 24)).setRow F (bv bn).toArray = wd2 at HF HP HX HO HB HD HE ⊢
            clear HZ HZL hRR

            refine wp_region_free (P := Try.prog) 30 (fun w' => Below wd2.heap.size wd2 w') (fun oq v w' => match oq with
                | 0 => v = .pointer (some ⟨X, 1, none⟩)
                | 1 => v = .pointer (some ⟨wb, 0, none⟩)
                | 2 => v = .agg (bv n.1).toArray
                | 3 => v = .int .i64 yo
                | 4 => v = .pointer (some ⟨X, 2, none⟩)
                | 5 => v = .pointer (some ⟨rb, 0, none⟩)
                | 6 => v = .agg (bv n.1).toArray
                | 7 => v = .int .i64 yo
                | 8 => v = .bool false
                | 9 => v = .bool false
                | 10 => v = .pointer (some ⟨X, 1, none⟩)
                | 11 => v = .pointer (some ⟨wb, 0, none⟩)
                | 12 => v = .agg (bv n.1).toArray
                | 13 => v = .int .i64 yw
                | 14 => v = .pointer (some ⟨X, 2, none⟩)
                | 15 => v = .pointer (some ⟨rb, 0, none⟩)
                | 16 => v = .agg (bv n.1).toArray
                | 17 => v = .int .i64 yw
                | 18 => v = .bool false
                | 19 => v = .bool false
                | 20 => v = .bool false
                | 21 => v = .agg (bv bn).toArray
                | 22 => v = .agg (bv bn).toArray
                | 23 => v = .bool false
                | 24 => v = .bool false
                | 25 => v = .bool false
                | 26 => v = .bool bq
                | 27 => v = .bool bq
                | 28 => v = .bool false
                | 29 => v = .bool false
                | _ => True) (by kernel_rfl) (by kernel_rfl) (Below.refl _ _).drew ?gb ?vb ?steps ?fin
            case gb => exact fun a b h1 h2 => h1.trans (h2.mono h1.size)
            case vb =>
              intro oq v a b h hb
              match oq with
              | 0 => exact h
              | 1 => exact h
              | 2 => exact h
              | 3 => exact h
              | 4 => exact h
              | 5 => exact h
              | 6 => exact h
              | 7 => exact h
              | 8 => exact h
              | 9 => exact h
              | 10 => exact h
              | 11 => exact h
              | 12 => exact h
              | 13 => exact h
              | 14 => exact h
              | 15 => exact h
              | 16 => exact h
              | 17 => exact h
              | 18 => exact h
              | 19 => exact h
              | 20 => exact h
              | 21 => exact h
              | 22 => exact h
              | 23 => exact h
              | 24 => exact h
              | 25 => exact h
              | 26 => exact h
              | 27 => exact h
              | 28 => exact h
              | 29 => exact h
              | _ + 30 => trivial
            case steps =>
              intro vals
              simp only [List.take_succ_cons, List.take_zero, freeSteps, Act.put, List.setIfInBounds_toArray, List.set_cons_zero, List.set_cons_succ, Nat.reduceAdd]
              refine ⟨fun w8 hG hW => ?_, fun w8 hG hW => ?_, fun w8 hG hW => ?_, fun w8 hG hW => ?_, fun w8 hG hW => ?_, fun w8 hG hW => ?_, fun w8 hG hW => ?_, fun w8 hG hW => ?_, fun w8 hG hW => ?_, fun w8 hG hW => ?_, fun w8 hG hW => ?_, fun w8 hG hW => ?_, fun w8 hG hW => ?_, fun w8 hG hW => ?_, fun w8 hG hW => ?_, fun w8 hG hW => ?_, fun w8 hG hW => ?_, fun w8 hG hW => ?_, fun w8 hG hW => ?_, fun w8 hG hW => ?_, fun w8 hG hW => ?_, fun w8 hG hW => ?_, fun w8 hG hW => ?_, fun w8 hG hW => ?_, fun w8 hG hW => ?_, fun w8 hG hW => ?_, fun w8 hG hW => ?_, fun w8 hG hW => ?_, fun w8 hG hW => ?_, fun w8 hG hW => ?_, trivial⟩
              · clear hW
                refine stepAt_value rfl rfl rfl (.pointer (some ⟨X, 1, none⟩)) w8 ?_ ⟨rfl, Below.refl _ _⟩
                go_simp
              · have q0 := hW 0 (by decide)
                simp only at q0
                rw [q0]
                clear hW
                refine stepAt_value rfl rfl rfl (.pointer (some ⟨wb, 0, none⟩)) w8 ?_ ⟨rfl, Below.refl _ _⟩
                have hh := (HX.out.below hG HX.out.lt).cell 1
                simp only [prv, List.getElem?_cons_succ, List.getElem?_cons_zero] at hh
                go_simp
              · clear hW
                exact stepAt_load_run rfl rfl rfl _ _ rfl _ _ rfl (run_load_root HNL.out (HD.out.below hG HD.out.lt).rootAll) ⟨rfl, Below.refl _ _⟩
              · have q1 := hW 1 (by decide)
                simp only at q1
                have q2 := hW 2 (by decide)
                simp only at q2
                rw [q1, q2]
                clear hW
                refine stepAt_call rfl rfl rfl 13 #[.pointer (some ⟨wb, 0, none⟩), .agg (bv n.1).toArray] (by go_simp) (((HP.out.below hG).own n.1 HNL.out).mono fun e w' ⟨h1, h2⟩ => ⟨_, h1, by rw [HYO.out], h2⟩)
              · clear hW
                refine stepAt_value rfl rfl rfl (.pointer (some ⟨X, 2, none⟩)) w8 ?_ ⟨rfl, Below.refl _ _⟩
                go_simp
              · have q4 := hW 4 (by decide)
                simp only at q4
                rw [q4]
                clear hW
                refine stepAt_value rfl rfl rfl (.pointer (some ⟨rb, 0, none⟩)) w8 ?_ ⟨rfl, Below.refl _ _⟩
                have hh := (HX.out.below hG HX.out.lt).cell 2
                simp only [prv, List.getElem?_cons_succ, List.getElem?_cons_zero] at hh
                go_simp
              · clear hW
                exact stepAt_load_run rfl rfl rfl _ _ rfl _ _ rfl (run_load_root HNL.out (HD.out.below hG HD.out.lt).rootAll) ⟨rfl, Below.refl _ _⟩
              · have q5 := hW 5 (by decide)
                simp only at q5
                have q6 := hW 6 (by decide)
                simp only at q6
                rw [q5, q6]
                clear hW
                refine stepAt_call rfl rfl rfl 20 #[.pointer (some ⟨rb, 0, none⟩), .agg (bv n.1).toArray] (by go_simp) (((HP.out.below hG).rown n.1 HNL.out).mono fun e w' ⟨h1, h2⟩ => ⟨_, h1, by rw [HYO.out], h2⟩)
              · have q3 := hW 3 (by decide)
                simp only at q3
                have q7 := hW 7 (by decide)
                simp only at q7
                rw [q3, q7]
                clear hW
                refine stepAt_value rfl rfl rfl (.bool false) w8 ?_ ⟨rfl, Below.refl _ _⟩
                have hyy : (yo != yo) = false := bne_self_eq_false _
                go_simp
              · have q8 := hW 8 (by decide)
                simp only at q8
                rw [q8]
                clear hW
                refine stepAt_value rfl rfl rfl (.bool false) w8 ?_ ⟨rfl, Below.refl _ _⟩
                go_simp
              · have q9 := hW 9 (by decide)
                simp only at q9
                rw [q9]
                clear hW
                refine stepAt_value rfl rfl rfl (.pointer (some ⟨X, 1, none⟩)) w8 ?_ ⟨rfl, Below.refl _ _⟩
                go_simp
              · have q9 := hW 9 (by decide)
                simp only at q9
                have q10 := hW 10 (by decide)
                simp only at q10
                rw [q9, q10]
                clear hW
                refine stepAt_value rfl rfl rfl (.pointer (some ⟨wb, 0, none⟩)) w8 ?_ ⟨rfl, Below.refl _ _⟩
                have hh := (HX.out.below hG HX.out.lt).cell 1
                simp only [prv, List.getElem?_cons_succ, List.getElem?_cons_zero] at hh
                go_simp
              · have q9 := hW 9 (by decide)
                simp only at q9
                rw [q9]
                clear hW
                exact stepAt_load_run rfl rfl rfl _ _ rfl _ _ rfl (run_load_root HNL.out (HD.out.below hG HD.out.lt).rootAll) ⟨rfl, Below.refl _ _⟩
              · have q9 := hW 9 (by decide)
                simp only at q9
                have q11 := hW 11 (by decide)
                simp only at q11
                have q12 := hW 12 (by decide)
                simp only at q12
                rw [q9, q11, q12]
                clear hW
                refine stepAt_call rfl rfl rfl 14 #[.pointer (some ⟨wb, 0, none⟩), .agg (bv n.1).toArray] (by go_simp) (((HP.out.below hG).weight n.1 HNL.out).mono fun e w' ⟨h1, h2⟩ => ⟨_, h1, by rw [HYW.out], h2⟩)
              · have q9 := hW 9 (by decide)
                simp only at q9
                rw [q9]
                clear hW
                refine stepAt_value rfl rfl rfl (.pointer (some ⟨X, 2, none⟩)) w8 ?_ ⟨rfl, Below.refl _ _⟩
                go_simp
              · have q9 := hW 9 (by decide)
                simp only at q9
                have q14 := hW 14 (by decide)
                simp only at q14
                rw [q9, q14]
                clear hW
                refine stepAt_value rfl rfl rfl (.pointer (some ⟨rb, 0, none⟩)) w8 ?_ ⟨rfl, Below.refl _ _⟩
                have hh := (HX.out.below hG HX.out.lt).cell 2
                simp only [prv, List.getElem?_cons_succ, List.getElem?_cons_zero] at hh
                go_simp
              · have q9 := hW 9 (by decide)
                simp only at q9
                rw [q9]
                clear hW
                exact stepAt_load_run rfl rfl rfl _ _ rfl _ _ rfl (run_load_root HNL.out (HD.out.below hG HD.out.lt).rootAll) ⟨rfl, Below.refl _ _⟩
              · have q9 := hW 9 (by decide)
                simp only at q9
                have q15 := hW 15 (by decide)
                simp only at q15
                have q16 := hW 16 (by decide)
                simp only at q16
                rw [q9, q15, q16]
                clear hW
                refine stepAt_call rfl rfl rfl 21 #[.pointer (some ⟨rb, 0, none⟩), .agg (bv n.1).toArray] (by go_simp) (((HP.out.below hG).rweight n.1 HNL.out).mono fun e w' ⟨h1, h2⟩ => ⟨_, h1, by rw [HYW.out], h2⟩)
              · have q9 := hW 9 (by decide)
                simp only at q9
                have q13 := hW 13 (by decide)
                simp only at q13
                have q17 := hW 17 (by decide)
                simp only at q17
                rw [q9, q13, q17]
                clear hW
                refine stepAt_value rfl rfl rfl (.bool false) w8 ?_ ⟨rfl, Below.refl _ _⟩
                have hyy : (yw != yw) = false := bne_self_eq_false _
                go_simp
              · have q9 := hW 9 (by decide)
                simp only at q9
                have q18 := hW 18 (by decide)
                simp only at q18
                rw [q9, q18]
                clear hW
                refine stepAt_value rfl rfl rfl (.bool false) w8 ?_ ⟨rfl, Below.refl _ _⟩
                go_simp
              · have q19 := hW 19 (by decide)
                simp only at q19
                rw [q19]
                clear hW
                refine stepAt_value rfl rfl rfl (.bool false) w8 ?_ ⟨rfl, Below.refl _ _⟩
                go_simp
              · have q20 := hW 20 (by decide)
                simp only at q20
                rw [q20]
                clear hW
                exact stepAt_load_run rfl rfl rfl _ _ rfl _ _ rfl (run_load_root HBNL.out (HE.out.below hG HE.out.lt).rootAll) ⟨rfl, Below.refl _ _⟩
              · have q20 := hW 20 (by decide)
                simp only at q20
                rw [q20]
                clear hW
                exact stepAt_load_run rfl rfl rfl _ _ rfl _ _ rfl (run_load_root HBNL.out (HF.out.below hG HF.out.lt).rootAll) ⟨rfl, Below.refl _ _⟩
              · have q20 := hW 20 (by decide)
                simp only at q20
                have q21 := hW 21 (by decide)
                simp only at q21
                have q22 := hW 22 (by decide)
                simp only at q22
                rw [q20, q21, q22]
                clear hW
                refine stepAt_value rfl rfl rfl (.bool false) w8 ?_ ⟨rfl, Below.refl _ _⟩
                have he := root_eqW w8 bn bn HBNL.out HBNL.out
                rw [show (bn == bn) = true from beq_self_eq_true _] at he
                go_simp
              · have q20 := hW 20 (by decide)
                simp only at q20
                have q23 := hW 23 (by decide)
                simp only at q23
                rw [q20, q23]
                clear hW
                refine stepAt_value rfl rfl rfl (.bool false) w8 ?_ ⟨rfl, Below.refl _ _⟩
                go_simp
              · have q24 := hW 24 (by decide)
                simp only at q24
                rw [q24]
                clear hW
                refine stepAt_value rfl rfl rfl (.bool false) w8 ?_ ⟨rfl, Below.refl _ _⟩
                go_simp
              · have q25 := hW 25 (by decide)
                simp only at q25
                rw [q25]
                clear hW
                refine stepAt_value rfl rfl rfl (.bool bq) w8 ?_ ⟨rfl, Below.refl _ _⟩
                go_simp
              · have q25 := hW 25 (by decide)
                simp only at q25
                rw [q25]
                clear hW
                refine stepAt_value rfl rfl rfl (.bool bq) w8 ?_ ⟨rfl, Below.refl _ _⟩
                go_simp
              · have q25 := hW 25 (by decide)
                simp only at q25
                have q26 := hW 26 (by decide)
                simp only at q26
                have q27 := hW 27 (by decide)
                simp only at q27
                rw [q25, q26, q27]
                clear hW
                refine stepAt_value rfl rfl rfl (.bool false) w8 ?_ ⟨rfl, Below.refl _ _⟩
                have hyy : (bq != bq) = false := bne_self_eq_false _
                go_simp
              · have q25 := hW 25 (by decide)
                simp only at q25
                have q28 := hW 28 (by decide)
                simp only at q28
                rw [q25, q28]
                clear hW
                refine stepAt_value rfl rfl rfl (.bool false) w8 ?_ ⟨rfl, Below.refl _ _⟩
                go_simp
            case fin =>
              intro vals wq hG hV
              have q29 := hV 29 (by omega)
              simp only at q29
              simp only [List.take_succ_cons, List.take_zero, List.drop_succ_cons, List.drop_zero, putAll, Act.put, List.setIfInBounds_toArray, List.set_cons_zero, List.set_cons_succ, Nat.reduceAdd]
              rw [q29]
              clear hV q29
              generalize vals 0 = y0
              generalize vals 1 = y1
              generalize vals 2 = y2
              generalize vals 3 = y3
              generalize vals 4 = y4
              generalize vals 5 = y5
              generalize vals 6 = y6
              generalize vals 7 = y7
              generalize vals 8 = y8
              generalize vals 9 = y9
              generalize vals 10 = y10
              generalize vals 11 = y11
              generalize vals 12 = y12
              generalize vals 13 = y13
              generalize vals 14 = y14
              generalize vals 15 = y15
              generalize vals 16 = y16
              generalize vals 17 = y17
              generalize vals 18 = y18
              generalize vals 19 = y19
              generalize vals 20 = y20
              generalize vals 21 = y21
              generalize vals 22 = y22
              generalize vals 23 = y23
              generalize vals 24 = y24
              generalize vals 25 = y25
              generalize vals 26 = y26
              generalize vals 27 = y27
              generalize vals 28 = y28

              have HP2 := Lib.hid (PSX.drop [D] (HP.out.below hG))
              have HX2 := Lib.hid (HX.out.below hG HX.out.lt)
              have HOQ := Lib.hid (HO.out.below hG HO.out.lt)
              have HB2 := Lib.hid (HB.out.trans (hG.mono HB.out.size))
              clear hG HP HX HO HB HD HE HF
              go_wp2_with fail
              have hlk := HLE.out
              go_roundw
              case rel => exact ⟨k + 1, by omega, by first | rw [HWK.out] | rw [Int.natCast_succ], HP2, HX2, HOQ, HB2⟩
              case measure => first | exact measK (t.length + 1) k 1 ((k : Int) + 1) (by omega) (by omega) Nat.zero_lt_one | exact measK (t.length + 1) k 1 (wrap64 ((k : Int) + 1)) HWK.out (by omega) Nat.zero_lt_one
          · have hlt' : ¬ (k : Int) < (t.length : Int) := by omega
            clear HBL
            go_upto_region 22 with fail
            try simp only [Act.put]
            clear hlt' hlt kr0 km0 kx2
            obtain ⟨bn, hbn⟩ : ∃ bn, pnm t (bstZ t own r) = bn := ⟨_, rfl⟩
            obtain ⟨bq, hbq⟩ : ∃ bq, decide (0 ≤ bstZ t own r) = bq := ⟨_, rfl⟩
            obtain ⟨yo, hyo⟩ : ∃ yo, tellZ t own.length r 0 (owZ own) = yo := ⟨_, rfl⟩
            obtain ⟨yw, hyw⟩ : ∃ yw, tellZ t own.length r 0 (wtW t own) = yw := ⟨_, rfl⟩
            have HBNL := Lib.hid (show bn.length = 32 by rw [← hbn]; exact HGD.out.pnm_len _)
            have HBN := Lib.hid hbn
            have HBQ := Lib.hid hbq
            have HYO := Lib.hid hyo
            have HYW := Lib.hid hyw
            clear hbn hbq hyo hyw
            have kp1 := HX.out.cell 1
            simp only [prv, List.getElem?_cons_succ, List.getElem?_cons_zero] at kp1
            go_wp2_with ((with_reducible refine wpList_load_name (.tmp 12) ?_ ?_ D 0 r ?_ HRL.out HD.out.rootAll ?_); rfl; rfl; rfl)
            refine (HP.out.best r HRL.out).mono ?_
            rintro e wa ⟨rfl, hbc⟩
            clear kp1
            replace HP := Lib.hid (HP.out.below hbc)
            replace HX := Lib.hid (HX.out.below hbc HX.out.lt)
            replace HO := Lib.hid (HO.out.below hbc HO.out.lt)
            replace HB := Lib.hid (HB.out.trans (hbc.mono HB.out.size))
            replace HD := Lib.hid (HD.out.below hbc HD.out.lt)
            clear hbc
            rw [HBN.out, HBQ.out]
            have HZ := Lib.hid (blk_zeroR wa)
            have HZL := Lib.hid zero32_len
            have HE := Lib.hid (HZ.out.setRow (bv bn))
            have hbx : Below wa.heap.size wa ((wa.alloc (.cells #[.int .u8 0, .int .u8 0, .int .u8 0, .int .u8 0, .int .u8 0, .int .u8 0, .int .u8 0, .int .u8 0, .int .u8 0, .int .u8 0, .int .u8 0, .int .u8 0, .int .u8 0, .int .u8 0, .int .u8 0, .int .u8 0, .int .u8 0, .int .u8 0, .int .u8 0, .int .u8 0, .int .u8 0, .int .u8 0, .int .u8 0, .int .u8 0, .int .u8 0, .int .u8 0, .int .u8 0, .int .u8 0, .int .u8 0, .int .u8 0, .int .u8 0, .int .u8 0] 24)).setRow wa.heap.size (bv bn).toArray) := below_row ((Below.refl _ wa).alloc (Nat.le_refl _) _) (Nat.le_refl _) _
            replace HP := Lib.hid (HP.out.below hbx)
            replace HX := Lib.hid (HX.out.below hbx HX.out.lt)
            replace HO := Lib.hid (HO.out.below hbx HO.out.lt)
            replace HB := Lib.hid (HB.out.trans (hbx.mono HB.out.size))
            replace HD := Lib.hid (HD.out.below hbx HD.out.lt)
            clear hbx
            obtain ⟨E, hRR⟩ : ∃ E, E = wa.heap.size := ⟨_, rfl⟩
            go_upto_region 23 with (first | ((with_reducible refine wpList_load_name (.tmp 118) ?_ ?_ wa.heap.size 0 bn ?_ HBNL.out HBNL.out ?_); rfl; rfl; rfl) | ((with_reducible refine wpList_store_name (.tmp 13) (.tmp 118) ?_ ?_ wa.heap.size zero32 bn ?_ ?_ HZ.out HZL.out HBNL.out ?_); rfl; rfl; rfl; rfl))
            try simp only [Act.put]
            rw [← hRR] at HE HP HX HO HB HD ⊢
            generalize (wa.alloc (.cells #[.int .u8 0, .int .u8 0, .int .u8 0, .int .u8 0, .int .u8 0, .int .u8 0, .int .u8 0, .int .u8 0, .int .u8 0, .int .u8 0, .int .u8 0, .int .u8 0, .int .u8 0, .int .u8 0, .int .u8 0, .int .u8 0, .int .u8 0, .int .u8 0, .int .u8 0, .int .u8 0, .int .u8 0, .int .u8 0, .int .u8 0, .int .u8 0, .int .u8 0, .int .u8 0, .int .u8 0, .int .u8 0, .int .u8 0, .int .u8 0, .int .u8 0, .int .u8 0] 24)).setRow E (bv bn).toArray = wb2 at HE HP HX HO HB HD ⊢
            clear HZ HZL hRR

            have kp2 := HX.out.cell 2
            simp only [prv, List.getElem?_cons_succ, List.getElem?_cons_zero] at kp2
            go_wp2_with ((with_reducible refine wpList_load_name (.tmp 12) ?_ ?_ D 0 r ?_ HRL.out HD.out.rootAll ?_); rfl; rfl; rfl)
            refine (HP.out.rbest r HRL.out).mono ?_
            rintro e wc2 ⟨rfl, hbc⟩
            clear kp2
            replace HP := Lib.hid (HP.out.below hbc)
            replace HX := Lib.hid (HX.out.below hbc HX.out.lt)
            replace HO := Lib.hid (HO.out.below hbc HO.out.lt)
            replace HB := Lib.hid (HB.out.trans (hbc.mono HB.out.size))
            replace HD := Lib.hid (HD.out.below hbc HD.out.lt)
            replace HE := Lib.hid (HE.out.below hbc HE.out.lt)
            clear hbc
            rw [HBN.out, HBQ.out]
            have HZ := Lib.hid (blk_zeroR wc2)
            have HZL := Lib.hid zero32_len
            have HF := Lib.hid (HZ.out.setRow (bv bn))
            have hbx : Below wc2.heap.size wc2 ((wc2.alloc (.cells #[.int .u8 0, .int .u8 0, .int .u8 0, .int .u8 0, .int .u8 0, .int .u8 0, .int .u8 0, .int .u8 0, .int .u8 0, .int .u8 0, .int .u8 0, .int .u8 0, .int .u8 0, .int .u8 0, .int .u8 0, .int .u8 0, .int .u8 0, .int .u8 0, .int .u8 0, .int .u8 0, .int .u8 0, .int .u8 0, .int .u8 0, .int .u8 0, .int .u8 0, .int .u8 0, .int .u8 0, .int .u8 0, .int .u8 0, .int .u8 0, .int .u8 0, .int .u8 0] 24)).setRow wc2.heap.size (bv bn).toArray) := below_row ((Below.refl _ wc2).alloc (Nat.le_refl _) _) (Nat.le_refl _) _
            replace HP := Lib.hid (HP.out.below hbx)
            replace HX := Lib.hid (HX.out.below hbx HX.out.lt)
            replace HO := Lib.hid (HO.out.below hbx HO.out.lt)
            replace HB := Lib.hid (HB.out.trans (hbx.mono HB.out.size))
            replace HD := Lib.hid (HD.out.below hbx HD.out.lt)
            replace HE := Lib.hid (HE.out.below hbx HE.out.lt)
            clear hbx
            obtain ⟨F, hRR⟩ : ∃ F, F = wc2.heap.size := ⟨_, rfl⟩
            go_upto_region 24 with (first | ((with_reducible refine wpList_load_name (.tmp 125) ?_ ?_ wc2.heap.size 0 bn ?_ HBNL.out HBNL.out ?_); rfl; rfl; rfl) | ((with_reducible refine wpList_store_name (.tmp 15) (.tmp 125) ?_ ?_ wc2.heap.size zero32 bn ?_ ?_ HZ.out HZL.out HBNL.out ?_); rfl; rfl; rfl; rfl))
            try simp only [Act.put]
            rw [← hRR] at HF HP HX HO HB HD HE ⊢
            generalize (wc2.alloc (.cells #[.int .u8 0, .int .u8 0, .int .u8 0, .int .u8 0, .int .u8 0, .int .u8 0, .int .u8 0, .int .u8 0, .int .u8 0, .int .u8 0, .int .u8 0, .int .u8 0, .int .u8 0, .int .u8 0, .int .u8 0, .int .u8 0, .int .u8 0, .int .u8 0, .int .u8 0, .int .u8 0, .int .u8 0, .int .u8 0, .int .u8 0, .int .u8 0, .int .u8 0, .int .u8 0, .int .u8 0, .int .u8 0, .int .u8 0, .int .u8 0, .int .u8 0, .int .u8 0] 24)).setRow F (bv bn).toArray = wd2 at HF HP HX HO HB HD HE ⊢
            clear HZ HZL hRR

            refine wp_region_free (P := Try.prog) 30 (fun w' => Below wd2.heap.size wd2 w') (fun oq v w' => match oq with
                | 0 => v = .pointer (some ⟨X, 1, none⟩)
                | 1 => v = .pointer (some ⟨wb, 0, none⟩)
                | 2 => v = .agg (bv r).toArray
                | 3 => v = .int .i64 yo
                | 4 => v = .pointer (some ⟨X, 2, none⟩)
                | 5 => v = .pointer (some ⟨rb, 0, none⟩)
                | 6 => v = .agg (bv r).toArray
                | 7 => v = .int .i64 yo
                | 8 => v = .bool false
                | 9 => v = .bool false
                | 10 => v = .pointer (some ⟨X, 1, none⟩)
                | 11 => v = .pointer (some ⟨wb, 0, none⟩)
                | 12 => v = .agg (bv r).toArray
                | 13 => v = .int .i64 yw
                | 14 => v = .pointer (some ⟨X, 2, none⟩)
                | 15 => v = .pointer (some ⟨rb, 0, none⟩)
                | 16 => v = .agg (bv r).toArray
                | 17 => v = .int .i64 yw
                | 18 => v = .bool false
                | 19 => v = .bool false
                | 20 => v = .bool false
                | 21 => v = .agg (bv bn).toArray
                | 22 => v = .agg (bv bn).toArray
                | 23 => v = .bool false
                | 24 => v = .bool false
                | 25 => v = .bool false
                | 26 => v = .bool bq
                | 27 => v = .bool bq
                | 28 => v = .bool false
                | 29 => v = .bool false
                | _ => True) (by kernel_rfl) (by kernel_rfl) (Below.refl _ _).drew ?gb ?vb ?steps ?fin
            case gb => exact fun a b h1 h2 => h1.trans (h2.mono h1.size)
            case vb =>
              intro oq v a b h hb
              match oq with
              | 0 => exact h
              | 1 => exact h
              | 2 => exact h
              | 3 => exact h
              | 4 => exact h
              | 5 => exact h
              | 6 => exact h
              | 7 => exact h
              | 8 => exact h
              | 9 => exact h
              | 10 => exact h
              | 11 => exact h
              | 12 => exact h
              | 13 => exact h
              | 14 => exact h
              | 15 => exact h
              | 16 => exact h
              | 17 => exact h
              | 18 => exact h
              | 19 => exact h
              | 20 => exact h
              | 21 => exact h
              | 22 => exact h
              | 23 => exact h
              | 24 => exact h
              | 25 => exact h
              | 26 => exact h
              | 27 => exact h
              | 28 => exact h
              | 29 => exact h
              | _ + 30 => trivial
            case steps =>
              intro vals
              simp only [List.take_succ_cons, List.take_zero, freeSteps, Act.put, List.setIfInBounds_toArray, List.set_cons_zero, List.set_cons_succ, Nat.reduceAdd]
              refine ⟨fun w8 hG hW => ?_, fun w8 hG hW => ?_, fun w8 hG hW => ?_, fun w8 hG hW => ?_, fun w8 hG hW => ?_, fun w8 hG hW => ?_, fun w8 hG hW => ?_, fun w8 hG hW => ?_, fun w8 hG hW => ?_, fun w8 hG hW => ?_, fun w8 hG hW => ?_, fun w8 hG hW => ?_, fun w8 hG hW => ?_, fun w8 hG hW => ?_, fun w8 hG hW => ?_, fun w8 hG hW => ?_, fun w8 hG hW => ?_, fun w8 hG hW => ?_, fun w8 hG hW => ?_, fun w8 hG hW => ?_, fun w8 hG hW => ?_, fun w8 hG hW => ?_, fun w8 hG hW => ?_, fun w8 hG hW => ?_, fun w8 hG hW => ?_, fun w8 hG hW => ?_, fun w8 hG hW => ?_, fun w8 hG hW => ?_, fun w8 hG hW => ?_, fun w8 hG hW => ?_, trivial⟩
              · clear hW
                refine stepAt_value rfl rfl rfl (.pointer (some ⟨X, 1, none⟩)) w8 ?_ ⟨rfl, Below.refl _ _⟩
                go_simp
              · have q0 := hW 0 (by decide)
                simp only at q0
                rw [q0]
                clear hW
                refine stepAt_value rfl rfl rfl (.pointer (some ⟨wb, 0, none⟩)) w8 ?_ ⟨rfl, Below.refl _ _⟩
                have hh := (HX.out.below hG HX.out.lt).cell 1
                simp only [prv, List.getElem?_cons_succ, List.getElem?_cons_zero] at hh
                go_simp
              · clear hW
                exact stepAt_load_run rfl rfl rfl _ _ rfl _ _ rfl (run_load_root HRL.out (HD.out.below hG HD.out.lt).rootAll) ⟨rfl, Below.refl _ _⟩
              · have q1 := hW 1 (by decide)
                simp only at q1
                have q2 := hW 2 (by decide)
                simp only at q2
                rw [q1, q2]
                clear hW
                refine stepAt_call rfl rfl rfl 13 #[.pointer (some ⟨wb, 0, none⟩), .agg (bv r).toArray] (by go_simp) (((HP.out.below hG).own r HRL.out).mono fun e w' ⟨h1, h2⟩ => ⟨_, h1, by rw [HYO.out], h2⟩)
              · clear hW
                refine stepAt_value rfl rfl rfl (.pointer (some ⟨X, 2, none⟩)) w8 ?_ ⟨rfl, Below.refl _ _⟩
                go_simp
              · have q4 := hW 4 (by decide)
                simp only at q4
                rw [q4]
                clear hW
                refine stepAt_value rfl rfl rfl (.pointer (some ⟨rb, 0, none⟩)) w8 ?_ ⟨rfl, Below.refl _ _⟩
                have hh := (HX.out.below hG HX.out.lt).cell 2
                simp only [prv, List.getElem?_cons_succ, List.getElem?_cons_zero] at hh
                go_simp
              · clear hW
                exact stepAt_load_run rfl rfl rfl _ _ rfl _ _ rfl (run_load_root HRL.out (HD.out.below hG HD.out.lt).rootAll) ⟨rfl, Below.refl _ _⟩
              · have q5 := hW 5 (by decide)
                simp only at q5
                have q6 := hW 6 (by decide)
                simp only at q6
                rw [q5, q6]
                clear hW
                refine stepAt_call rfl rfl rfl 20 #[.pointer (some ⟨rb, 0, none⟩), .agg (bv r).toArray] (by go_simp) (((HP.out.below hG).rown r HRL.out).mono fun e w' ⟨h1, h2⟩ => ⟨_, h1, by rw [HYO.out], h2⟩)
              · have q3 := hW 3 (by decide)
                simp only at q3
                have q7 := hW 7 (by decide)
                simp only at q7
                rw [q3, q7]
                clear hW
                refine stepAt_value rfl rfl rfl (.bool false) w8 ?_ ⟨rfl, Below.refl _ _⟩
                have hyy : (yo != yo) = false := bne_self_eq_false _
                go_simp
              · have q8 := hW 8 (by decide)
                simp only at q8
                rw [q8]
                clear hW
                refine stepAt_value rfl rfl rfl (.bool false) w8 ?_ ⟨rfl, Below.refl _ _⟩
                go_simp
              · have q9 := hW 9 (by decide)
                simp only at q9
                rw [q9]
                clear hW
                refine stepAt_value rfl rfl rfl (.pointer (some ⟨X, 1, none⟩)) w8 ?_ ⟨rfl, Below.refl _ _⟩
                go_simp
              · have q9 := hW 9 (by decide)
                simp only at q9
                have q10 := hW 10 (by decide)
                simp only at q10
                rw [q9, q10]
                clear hW
                refine stepAt_value rfl rfl rfl (.pointer (some ⟨wb, 0, none⟩)) w8 ?_ ⟨rfl, Below.refl _ _⟩
                have hh := (HX.out.below hG HX.out.lt).cell 1
                simp only [prv, List.getElem?_cons_succ, List.getElem?_cons_zero] at hh
                go_simp
              · have q9 := hW 9 (by decide)
                simp only at q9
                rw [q9]
                clear hW
                exact stepAt_load_run rfl rfl rfl _ _ rfl _ _ rfl (run_load_root HRL.out (HD.out.below hG HD.out.lt).rootAll) ⟨rfl, Below.refl _ _⟩
              · have q9 := hW 9 (by decide)
                simp only at q9
                have q11 := hW 11 (by decide)
                simp only at q11
                have q12 := hW 12 (by decide)
                simp only at q12
                rw [q9, q11, q12]
                clear hW
                refine stepAt_call rfl rfl rfl 14 #[.pointer (some ⟨wb, 0, none⟩), .agg (bv r).toArray] (by go_simp) (((HP.out.below hG).weight r HRL.out).mono fun e w' ⟨h1, h2⟩ => ⟨_, h1, by rw [HYW.out], h2⟩)
              · have q9 := hW 9 (by decide)
                simp only at q9
                rw [q9]
                clear hW
                refine stepAt_value rfl rfl rfl (.pointer (some ⟨X, 2, none⟩)) w8 ?_ ⟨rfl, Below.refl _ _⟩
                go_simp
              · have q9 := hW 9 (by decide)
                simp only at q9
                have q14 := hW 14 (by decide)
                simp only at q14
                rw [q9, q14]
                clear hW
                refine stepAt_value rfl rfl rfl (.pointer (some ⟨rb, 0, none⟩)) w8 ?_ ⟨rfl, Below.refl _ _⟩
                have hh := (HX.out.below hG HX.out.lt).cell 2
                simp only [prv, List.getElem?_cons_succ, List.getElem?_cons_zero] at hh
                go_simp
              · have q9 := hW 9 (by decide)
                simp only at q9
                rw [q9]
                clear hW
                exact stepAt_load_run rfl rfl rfl _ _ rfl _ _ rfl (run_load_root HRL.out (HD.out.below hG HD.out.lt).rootAll) ⟨rfl, Below.refl _ _⟩
              · have q9 := hW 9 (by decide)
                simp only at q9
                have q15 := hW 15 (by decide)
                simp only at q15
                have q16 := hW 16 (by decide)
                simp only at q16
                rw [q9, q15, q16]
                clear hW
                refine stepAt_call rfl rfl rfl 21 #[.pointer (some ⟨rb, 0, none⟩), .agg (bv r).toArray] (by go_simp) (((HP.out.below hG).rweight r HRL.out).mono fun e w' ⟨h1, h2⟩ => ⟨_, h1, by rw [HYW.out], h2⟩)
              · have q9 := hW 9 (by decide)
                simp only at q9
                have q13 := hW 13 (by decide)
                simp only at q13
                have q17 := hW 17 (by decide)
                simp only at q17
                rw [q9, q13, q17]
                clear hW
                refine stepAt_value rfl rfl rfl (.bool false) w8 ?_ ⟨rfl, Below.refl _ _⟩
                have hyy : (yw != yw) = false := bne_self_eq_false _
                go_simp
              · have q9 := hW 9 (by decide)
                simp only at q9
                have q18 := hW 18 (by decide)
                simp only at q18
                rw [q9, q18]
                clear hW
                refine stepAt_value rfl rfl rfl (.bool false) w8 ?_ ⟨rfl, Below.refl _ _⟩
                go_simp
              · have q19 := hW 19 (by decide)
                simp only at q19
                rw [q19]
                clear hW
                refine stepAt_value rfl rfl rfl (.bool false) w8 ?_ ⟨rfl, Below.refl _ _⟩
                go_simp
              · have q20 := hW 20 (by decide)
                simp only at q20
                rw [q20]
                clear hW
                exact stepAt_load_run rfl rfl rfl _ _ rfl _ _ rfl (run_load_root HBNL.out (HE.out.below hG HE.out.lt).rootAll) ⟨rfl, Below.refl _ _⟩
              · have q20 := hW 20 (by decide)
                simp only at q20
                rw [q20]
                clear hW
                exact stepAt_load_run rfl rfl rfl _ _ rfl _ _ rfl (run_load_root HBNL.out (HF.out.below hG HF.out.lt).rootAll) ⟨rfl, Below.refl _ _⟩
              · have q20 := hW 20 (by decide)
                simp only at q20
                have q21 := hW 21 (by decide)
                simp only at q21
                have q22 := hW 22 (by decide)
                simp only at q22
                rw [q20, q21, q22]
                clear hW
                refine stepAt_value rfl rfl rfl (.bool false) w8 ?_ ⟨rfl, Below.refl _ _⟩
                have he := root_eqW w8 bn bn HBNL.out HBNL.out
                rw [show (bn == bn) = true from beq_self_eq_true _] at he
                go_simp
              · have q20 := hW 20 (by decide)
                simp only at q20
                have q23 := hW 23 (by decide)
                simp only at q23
                rw [q20, q23]
                clear hW
                refine stepAt_value rfl rfl rfl (.bool false) w8 ?_ ⟨rfl, Below.refl _ _⟩
                go_simp
              · have q24 := hW 24 (by decide)
                simp only at q24
                rw [q24]
                clear hW
                refine stepAt_value rfl rfl rfl (.bool false) w8 ?_ ⟨rfl, Below.refl _ _⟩
                go_simp
              · have q25 := hW 25 (by decide)
                simp only at q25
                rw [q25]
                clear hW
                refine stepAt_value rfl rfl rfl (.bool bq) w8 ?_ ⟨rfl, Below.refl _ _⟩
                go_simp
              · have q25 := hW 25 (by decide)
                simp only at q25
                rw [q25]
                clear hW
                refine stepAt_value rfl rfl rfl (.bool bq) w8 ?_ ⟨rfl, Below.refl _ _⟩
                go_simp
              · have q25 := hW 25 (by decide)
                simp only at q25
                have q26 := hW 26 (by decide)
                simp only at q26
                have q27 := hW 27 (by decide)
                simp only at q27
                rw [q25, q26, q27]
                clear hW
                refine stepAt_value rfl rfl rfl (.bool false) w8 ?_ ⟨rfl, Below.refl _ _⟩
                have hyy : (bq != bq) = false := bne_self_eq_false _
                go_simp
              · have q25 := hW 25 (by decide)
                simp only at q25
                have q28 := hW 28 (by decide)
                simp only at q28
                rw [q25, q28]
                clear hW
                refine stepAt_value rfl rfl rfl (.bool false) w8 ?_ ⟨rfl, Below.refl _ _⟩
                go_simp
            case fin =>
              intro vals wq hG hV
              have q29 := hV 29 (by omega)
              simp only at q29
              simp only [List.take_succ_cons, List.take_zero, List.drop_succ_cons, List.drop_zero, putAll, Act.put, List.setIfInBounds_toArray, List.set_cons_zero, List.set_cons_succ, Nat.reduceAdd]
              rw [q29]
              clear hV q29
              generalize vals 0 = y0
              generalize vals 1 = y1
              generalize vals 2 = y2
              generalize vals 3 = y3
              generalize vals 4 = y4
              generalize vals 5 = y5
              generalize vals 6 = y6
              generalize vals 7 = y7
              generalize vals 8 = y8
              generalize vals 9 = y9
              generalize vals 10 = y10
              generalize vals 11 = y11
              generalize vals 12 = y12
              generalize vals 13 = y13
              generalize vals 14 = y14
              generalize vals 15 = y15
              generalize vals 16 = y16
              generalize vals 17 = y17
              generalize vals 18 = y18
              generalize vals 19 = y19
              generalize vals 20 = y20
              generalize vals 21 = y21
              generalize vals 22 = y22
              generalize vals 23 = y23
              generalize vals 24 = y24
              generalize vals 25 = y25
              generalize vals 26 = y26
              generalize vals 27 = y27
              generalize vals 28 = y28

              have HP2 := Lib.hid (PSX.drop [D] (HP.out.below hG))
              have HX2 := Lib.hid (HX.out.below hG HX.out.lt)
              have HOQ := Lib.hid (HO.out.below hG HO.out.lt)
              have HB2 := Lib.hid (HB.out.trans (hG.mono HB.out.size))
              clear hG HP HX HO HB HD HE HF
              go_wp2_with fail
              have hlk := HLE.out
              go_roundw
              case rel => exact ⟨k + 1, by omega, by first | rw [HWK.out] | rw [Int.natCast_succ], HP2, HX2, HOQ, HB2⟩
              case measure => first | exact measK (t.length + 1) k 1 ((k : Int) + 1) (by omega) (by omega) Nat.zero_lt_one | exact measK (t.length + 1) k 1 (wrap64 ((k : Int) + 1)) HWK.out (by omega) Nat.zero_lt_one
        · have hle' : ¬ (k : Int) ≤ (t.length : Int) := by omega
          clear hbl
          go_wp2_with fail
          go_ret
          exact ⟨rfl, HB.out⟩
end Go.Proofs.Ytpamifdcbnkcdaa
