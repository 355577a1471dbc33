/-
  The texts Alive8, Vote2, Keys8, one behind the other.
-/
import Derived.Test.YtnbdpalbompjlaaDoorM21
import Derived.Test.YtnbdpalbompjlaaDoorM19
import Derived.Test.YtnbdpalbompjlaaDoorM13
/-
  What alive answers: true.
-/
namespace Go.Proofs.YtnbdpalbompjlaaDoor
open Go.RowKit
set_option maxRecDepth 100000

theorem comm_sole (s : Int) (h : 0 ≤ s ∧ s ≤ 1073741824) : comm s 1 1 = [0] := by
  have hl := comm_length s 1 1 h (by omega)
  have hm := comm_mem s 1 1
  match hc : comm s 1 1, hl with
  | [x], _ =>
    rw [hc] at hm
    have := hm x (by simp)
    have : x = 0 := by omega
    rw [this]
def alV : List (Int × ByteArray) := [(5, ⟨#[107]⟩)]
/-- The block, and the sum, that alive asks for. -/
def alB : Msg := startMsg 1 3
def alS : Msg := ⟨3, 3, List.replicate 32 0, 0, 0, [true], List.replicate 16 0⟩
theorem alS_fits : alS.Fits := ⟨by simp [alS], by simp [alS], by simp [alS]⟩
theorem alB_spk : spk [0] alB = some [0] := by decide +kernel
theorem alS_votes : votesM [0] alS = [(0, 3, List.replicate 32 0)] := by decide +kernel
theorem alB_tag : (sealT alV [0] alB == List.replicate 16 0) = false := by
  have e : sealT alV [0] alB = tag [107] (msgP alB) := sealT_sole (vs := alV) alB_spk (by decide)
  rw [e]
  decide +kernel

set_option maxHeartbeats 8000000 in
theorem alive_any (w : World) (hT : Tabs w) : Calls Tryd.prog 9 #[] w fun e w' => e = .returned (.bool true) ∧ Below w.heap.size w w' := by
  have HT := Lib.hid hT
  clear hT
  go_enter Tryd.func9, Tryd.ntmps9
  go_upto_region 2 with fail
  have hv0 := Blk.new w 59 #[.int .i64 5, .string ⟨#[107]⟩]
  have hb0 := (Below.refl w.heap.size w).alloc (Nat.le_refl _) (.cells #[.int .i64 5, .string ⟨#[107]⟩] 59)
  obtain ⟨cs, hcs⟩ : ∃ cs : List Value, cs = [.slice (some ⟨w.heap.size, 0, none⟩) 1 1, .int .i64 4, .int .i64 1, .int .i64 1, .int .i64 1, .int .i64 1, .int .i64 1, .int .i64 1, .int .i64 1, .int .i64 1, .int .i64 1, .int .i64 1] := ⟨_, rfl⟩
  rw [show (#[.slice (some ⟨w.heap.size, 0, none⟩) 1 1, .int .i64 4, .int .i64 1, .int .i64 1, .int .i64 1, .int .i64 1, .int .i64 1, .int .i64 1, .int .i64 1, .int .i64 1, .int .i64 1, .int .i64 1] : Array Value) = cs.toArray by rw [hcs]]
  have hk1 : Blk _ (w.heap.size + 1) 24 cs := Blk.newAt (w.alloc (.cells #[.int .i64 5, .string ⟨#[107]⟩] 59)) 24 cs.toArray (w.heap.size + 1) (by simp)
  have hv1 := hv0.alloc (.cells cs.toArray 24)
  have hb1 := hb0.alloc hb0.size (.cells cs.toArray 24)
  generalize (w.alloc (.cells #[.int .i64 5, .string ⟨#[107]⟩] 59)).alloc (.cells cs.toArray 24) = w1 at hk1 hv1 hb1 ⊢
  have HC1 := Lib.hid hk1
  have HB1 := Lib.hid hb1
  have HCF1 := Lib.hid (show CfgOk w1 cs 1 alV from ⟨some ⟨w.heap.size, 0, none⟩, 1, w.heap.size, 0, 4, 1, 1, 1, 1, 1, 1, 1, 1, 1, hcs, by decide, by decide, by decide, by decide, by decide, by decide, fun _ => rfl, fun _ => hv1.lt, fun j u hj => by rw [Nat.zero_add]; exact (hv1.cell j).trans hj⟩)
  have HT1 := Lib.hid (HT.out.below hb1 HT.out.size)
  clear hv0 hb0 hcs hk1 hv1 hb1 HT
  obtain ⟨D, hD⟩ : ∃ D, D = w.heap.size + 1 := ⟨_, rfl⟩
  rw [← hD] at HC1 ⊢
  clear hD
  have hcm := comm_sole 3 (by omega)
  have HSG := Lib.hid (sign_any w1 HT1.out HCF1.out alB (.slice none 0 0) (startMsg_fits 1 3) (BRow.nil _ _))
  rw [show comm alB.s alV.length 1 = [0] from hcm, alB_spk] at HSG
  obtain ⟨SM, hSM⟩ : ∃ SM, SM = signM alV [0] alB := ⟨_, rfl⟩
  rw [← hSM] at HSG
  have hSF : SM.Fits := by rw [hSM]; exact signM_fits (startMsg_fits 1 3)
  have HSF := Lib.hid hSF
  have hSY : SM = { alB with G := sealT alV [0] alB } := by rw [hSM]; exact signM_yes (by rw [alB_spk]; rfl)
  have HSC := Lib.hid (show sealC alV (comm SM.s alV.length 1) SM = true by
    have h := sealC_sign (vs := alV) (K := [0]) (M := alB) (by rw [alB_spk]; rfl)
    rw [← hSM] at h
    rw [show SM.s = 3 by rw [hSY]; rfl, show comm 3 alV.length 1 = [0] from hcm]
    exact h)
  have HSN := Lib.hid (show (SM.G == List.replicate 16 0) = false by rw [hSY]; exact alB_tag)
  clear hSM hSF hSY
  go_wp2_with (first
    | ((with_reducible refine wpList_load_cfg (.tmp 1) ?_ ?_ D cs ?_ HC1.out HCF1.out.len ?_); rfl; rfl; rfl)
    | ((with_reducible refine wpList_build_msg ?_ 32 #[(0, .const (.int .i64 1)), (1, .const (.int .i64 3))] ?_ (mc alB (.slice none 0 0)).toArray ?_ ?_); rfl; rfl; exact msg_built 1 3))
  refine HSG.out.mono ?_
  rintro e w2 ⟨su, rfl, hrow, hb2⟩
  have HC2 := Lib.hid (HC1.out.below hb2 HC1.out.lt)
  have HB2 := Lib.hid (HB1.out.trans (hb2.mono HB1.out.size))
  have HCF2 := Lib.hid (HCF1.out.below hb2)
  have HT2 := Lib.hid (HT1.out.below hb2 HT1.out.size)
  have HO := Lib.hid hrow.one
  have hb3 := below_setRow ((Below.refl w2.heap.size w2).alloc (Nat.le_refl _) (.cells zcells 32)) (Nat.le_refl w2.heap.size) (mc SM su).toArray
  have HZ := Lib.hid (zero_msg w2)
  have hm3 := HZ.out.setRow (mc SM su)
  have hr3 := hrow.bits hb3
  obtain ⟨w3, hw3⟩ : ∃ x, (w2.alloc (.cells zcells 32)).setRow w2.heap.size (mc SM su).toArray = x := ⟨_, rfl⟩
  rw [hw3] at hb3 hm3 hr3
  have HM3 := Lib.hid hm3
  have HR3 := Lib.hid hr3
  have HC3 := Lib.hid (HC2.out.below hb3 HC2.out.lt)
  have HB3 := Lib.hid (HB2.out.trans (hb3.mono HB2.out.size))
  have HCF3 := Lib.hid (HCF2.out.below hb3)
  have HT3 := Lib.hid (HT2.out.below hb3 HT2.out.size)
  have HW3 := Lib.hid hw3
  clear hrow hb2 hb3 hm3 hr3 hw3 HC1 HC2 HB1 HB2 HCF1 HCF2 HT1 HT2 HSG
  go_upto_region 3 with ((with_reducible refine wpList_store_msg (.tmp 2) (.tmp 12) ?_ ?_ w2.heap.size zeroMsg SM (.slice none 0 0) su ?_ ?_ ?_ zeroMsg_fits HSF.out ?_ ?_); rfl; rfl; rfl; rfl; exact HZ.out; exact HO.out)
  rw [zcells_lit, HW3.out]
  clear HZ HO HW3
  generalize w2.heap.size = G at HM3 ⊢
  have hb4 := (Below.refl w3.heap.size w3).alloc (Nat.le_refl _) (.cells #[.bool true] 4)
  have HBT := Lib.hid (show BRow (w3.alloc (.cells #[.bool true] 4)) (w3.alloc (.cells #[.bool true] 4)).heap.size (.slice (some ⟨w3.heap.size, 0, none⟩) 1 1) [true] from (held_new w3 4 (ov [true]) 1 rfl (by unfold maxLen; omega)).brow)
  have HVT := Lib.hid (votes_any (w3.alloc (.cells #[.bool true] 4)) (HT3.out.below hb4 HT3.out.size) (HCF3.out.below hb4) alS (.slice (some ⟨w3.heap.size, 0, none⟩) 1 1) alS_fits HBT.out)
  rw [show comm alS.s alV.length 1 = [0] from hcm, alS_votes] at HVT
  have HC4 := Lib.hid (HC3.out.alloc (.cells #[.bool true] 4))
  have HM4 := Lib.hid (HM3.out.alloc (.cells #[.bool true] 4))
  have HR4 := Lib.hid (HR3.out.bits hb4)
  have HB4 := Lib.hid (HB3.out.alloc HB3.out.size (.cells #[.bool true] 4))
  have HCF4 := Lib.hid (HCF3.out.below hb4)
  have HT4 := Lib.hid (HT3.out.below hb4 HT3.out.size)
  clear hb4 HBT hcm
  go_wp2_with (first
    | ((with_reducible refine wpList_load_cfg (.tmp 1) ?_ ?_ D cs ?_ HC3.out HCF3.out.len ?_); rfl; rfl; rfl)
    | ((with_reducible refine wpList_build_msg ?_ 32 #[(0, .const (.int .i64 3)), (1, .const (.int .i64 3)), (5, .tmp 15)] ?_ (mc alS (.slice (some ⟨w3.heap.size, 0, none⟩) 1 1)).toArray ?_ ?_); rfl; rfl; exact built_bits 3 3 (some ⟨w3.heap.size, 0, none⟩) 1 1 [true]))
  generalize w3.alloc (.cells #[.bool true] 4) = w4 at HVT HC4 HM4 HR4 HB4 HCF4 HT4 ⊢
  refine HVT.out.mono ?_
  rintro e w5 ⟨v, rfl, hwd, hb5⟩
  have HC5 := Lib.hid (HC4.out.below hb5 HC4.out.lt)
  have HM5 := Lib.hid (HM4.out.below hb5 HM4.out.lt)
  have HR5 := Lib.hid (HR4.out.bits hb5)
  have HB5 := Lib.hid (HB4.out.trans (hb5.mono HB4.out.size))
  have HCF5 := Lib.hid (HCF4.out.below hb5)
  have HT5 := Lib.hid (HT4.out.below hb5 HT4.out.size)
  obtain ⟨_, ao, cap, vb, vo, rfl, hls⟩ := hwd.vrow (by intro x hx; rw [List.mem_singleton] at hx; rw [hx]; simp)
  have ha := hls.addr (by simp [vv, vcell])
  subst ha
  have hc1 := hls.cells 1 (.int .i64 3) (by simp [vv, vcell])
  have HLS := Lib.hid hls
  clear hwd hb5 hc1 hls HC3 HM3 HR3 HB3 HCF3 HT3 HC4 HM4 HR4 HB4 HCF4 HT4 HVT
  rw [List.length_singleton]
  have HCK := Lib.hid (check_any w5 HT5.out HCF5.out SM su HSF.out HR5.out)
  rw [HSC.out] at HCK
  go_wp2_with (first
    | ((with_reducible refine wpList_load_msgG (.tmp 2) ?_ ?_ G SM su ?_ HM5.out HSF.out ?_); rfl; rfl; rfl)
    | ((with_reducible refine wpList_load_cfg (.tmp 1) ?_ ?_ D cs ?_ HC5.out HCF5.out.len ?_); rfl; rfl; rfl))
  refine HCK.out.mono ?_
  rintro e w6 ⟨rfl, hb6⟩
  have HM6 := Lib.hid (HM5.out.below hb6 HM5.out.lt)
  have HB6 := Lib.hid (HB5.out.trans (hb6.mono HB5.out.size))
  have HL6 := Lib.hid (HLS.out.below hb6)
  have HTM := Lib.hid (fun j v hj => (HM6.out.cell (37 + j)).trans (mc_G HSF.out su j v hj))
  have hte := tag_eq w6 SM.G (List.replicate 16 0) HSF.out.G zeros16
  rw [HSN.out, zero16] at hte
  have hc1 := HL6.out.cells 1 (.int .i64 3) (by simp [vv, vcell])
  clear hb6 HM5 HB5 HC5 HR5 HCF5 HT5 HCK
  go_wp2_with ((with_reducible refine wpList_load_tag (.tmp 25) ?_ ?_ G 37 SM.G ?_ HSF.out.G HTM.out ?_); rfl; rfl; rfl)
  go_ret
  exact ⟨rfl, HB6.out⟩
end Go.Proofs.YtnbdpalbompjlaaDoor

/-
  Votes in blocks of their own; votes that one of a sum's would have alone: plain mathematics and stores.
-/
namespace Go.Proofs.YtnbdpalbompjlaaDoor
open Go.RowKit
set_option maxRecDepth 10000

/-- An empty vote's cells, written out. -/
def vzcells : Array Value := #[.int .i64 0, .int .i64 0, .int .u8 0, .int .u8 0, .int .u8 0, .int .u8 0, .int .u8 0, .int .u8 0, .int .u8 0, .int .u8 0, .int .u8 0, .int .u8 0, .int .u8 0, .int .u8 0, .int .u8 0, .int .u8 0, .int .u8 0, .int .u8 0, .int .u8 0, .int .u8 0, .int .u8 0, .int .u8 0, .int .u8 0, .int .u8 0, .int .u8 0, .int .u8 0, .int .u8 0, .int .u8 0, .int .u8 0, .int .u8 0, .int .u8 0, .int .u8 0, .int .u8 0, .int .u8 0]
theorem vz_lit : (#[.int .i64 0, .int .i64 0, .int .u8 0, .int .u8 0, .int .u8 0, .int .u8 0, .int .u8 0, .int .u8 0, .int .u8 0, .int .u8 0, .int .u8 0, .int .u8 0, .int .u8 0, .int .u8 0, .int .u8 0, .int .u8 0, .int .u8 0, .int .u8 0, .int .u8 0, .int .u8 0, .int .u8 0, .int .u8 0, .int .u8 0, .int .u8 0, .int .u8 0, .int .u8 0, .int .u8 0, .int .u8 0, .int .u8 0, .int .u8 0, .int .u8 0, .int .u8 0, .int .u8 0, .int .u8 0] : Array Value) = vzcells := rfl
theorem vz_blk (w : World) : Blk (w.alloc (.cells vzcells 51)) w.heap.size 51 vzero := by
  have := Blk.new w 51 vzcells
  rwa [show vzcells.toList = vzero from rfl] at this
theorem vzero_length : vzero.length = 34 := by decide
/-- A vote into a block that holds an empty one. -/
theorem wpList_store_vote {ops : Array Oper} {rest : List Oper} {o : Oper} {a : Act} {w : World} {Q : Exit → Act → World → Prop} (x y : Operand) (ho : o.op = .store 51 x y) (hgd : o.guard = none)
    (g : Nat) (v : Nat × Int × List UInt8) (hx : a.eval x = .pointer (some ⟨g, 0, none⟩)) (hy : a.eval y = .agg (vcell v).toArray) (hg : Blk w g 51 vzero) (hv : v.2.2.length = 32)
    (h : wpList Tryd.prog ops Q rest (a.put o.dst undef) (w.setRow g (vcell v).toArray)) : wpList Tryd.prog ops Q (o :: rest) a w := by
  refine wpList_store_part hgd 51 x y ho g 0 (vcell v) hx hy 51 vzero hg (vote_size hv) (by rw [vcell_length hv, vzero_length]; omega) (vcell_one _) ?_
  rw [splice_all _ _ (by rw [vcell_length hv, vzero_length])]
  exact h

theorem placeFrom_in {who : Nat} : ∀ (K : List Nat) (i : Nat), who ∈ K → 0 ≤ placeFrom (who : Int) i K
  | [], _, h => by cases h
  | x :: r, i, h => by
    rw [placeFrom]
    split
    · omega
    · rename_i e
      rcases List.mem_cons.1 h with rfl | h
      · exact absurd rfl e
      · exact placeFrom_in r (i + 1) h
theorem vote_spk {K : List Nat} {M : Msg} (hg : msgGood M = true) {who : Nat} (hk : who ∈ K) (hw : who ≤ 65535) : spk K (voteM M who) = some [who] := by
  rw [spk_two (voteM_good hg hw) rfl, if_pos (show 0 ≤ placeFrom (voteM M who).m 0 K from placeFrom_in K 0 hk)]
  rfl
theorem vote_tag {vs : List (Int × ByteArray)} {K : List Nat} {M : Msg} (hg : msgGood M = true) (h3 : M.k = 3) {who : Nat} (hk : who ∈ K) (hw : who ≤ 65535) : sealT vs K (voteM M who) = tagOne vs M who := by
  rw [sealT_sole (vote_spk hg hk hw) (by simp [voteM]), tagOne, partM_sum h3]
  rfl
theorem vote_votes {K : List Nat} {M : Msg} (hg : msgGood M = true) {who : Nat} (hk : who ∈ K) (hw : who ≤ 65535) : votesM K (voteM M who) = [(who, M.s, M.T)] := by
  rw [votesM, if_neg (by simp [voteM]), vote_spk hg hk hw]
  rfl

/-- A list, turned round. -/
theorem turned_list {α : Type} (l : List α) (d : α) (q : Nat) (hq : q < l.length) : (List.range l.length).map (fun i => l.getD ((i + q) % l.length) d) = l.drop q ++ l.take q := by
  apply List.ext_getElem?
  intro i
  rw [List.getElem?_append, List.length_drop]
  by_cases hi : i < l.length
  · rw [List.getElem?_map, List.getElem?_range hi, Option.map_some, List.getD_eq_getElem?_getD]
    by_cases h : i < l.length - q
    · rw [if_pos h, List.getElem?_drop, Nat.mod_eq_of_lt (by omega), List.getElem?_eq_getElem (show i + q < l.length by omega), List.getElem?_eq_getElem (show q + i < l.length by omega)]
      simp [Nat.add_comm]
    · rw [if_neg h, List.getElem?_take, if_pos (by omega), show (i + q) % l.length = i - (l.length - q) by
        rw [show i + q = (i - (l.length - q)) + l.length by omega, Nat.add_mod_right, Nat.mod_eq_of_lt (by omega)], List.getElem?_eq_getElem (show i - (l.length - q) < l.length by omega)]
      rfl
  · rw [List.getElem?_eq_none (by simp; omega), if_neg (by omega), List.getElem?_take]
    split
    · omega
    · rfl
theorem joined_turn (ts : List (List UInt8)) (i : Nat) : joined (ts.drop i ++ ts.take i) = joined ts := tagF_ext fun p _ => by
  have h : col ts p = col (ts.take i) p ^^^ col (ts.drop i) p := by rw [← col_append, List.take_append_drop]
  rw [col_append, h, UInt8.xor_comm]
end Go.Proofs.YtnbdpalbompjlaaDoor

/-
  Keys of others: plain mathematics; stores into a slice of the call's own; configurations in blocks of their own.
-/
namespace Go.Proofs.YtnbdpalbompjlaaDoor
open Go.RowKit
set_option maxRecDepth 10000

/-- With another key of the first j that are none of L. -/
def others (vs : List (Int × ByteArray)) (L : List Nat) (key : ByteArray) (j : Nat) : List (Int × ByteArray) := vs.mapIdx fun i v => if i < j ∧ ¬ i ∈ L then (v.1, key) else v
theorem others_length (vs : List (Int × ByteArray)) (L : List Nat) (key : ByteArray) (j : Nat) : (others vs L key j).length = vs.length := by simp [others]
theorem others_at (vs : List (Int × ByteArray)) (L : List Nat) (key : ByteArray) (j i : Nat) : (others vs L key j)[i]? = (vs[i]?).map fun v => if i < j ∧ ¬ i ∈ L then (v.1, key) else v := by
  rw [others, List.getElem?_mapIdx]
theorem others_zero (vs : List (Int × ByteArray)) (L : List Nat) (key : ByteArray) : others vs L key 0 = vs := by
  apply List.ext_getElem?
  intro i
  rw [others_at]
  cases vs[i]? <;> simp
theorem others_in {vs : List (Int × ByteArray)} {L : List Nat} {key : ByteArray} {j : Nat} (h : j ∈ L) : others vs L key (j + 1) = others vs L key j := by
  apply List.ext_getElem?
  intro i
  rw [others_at, others_at]
  congr 1
  funext v
  by_cases e : i = j
  · subst e; simp [h]
  · have : (i < j + 1 ∧ ¬ i ∈ L) ↔ (i < j ∧ ¬ i ∈ L) := ⟨fun ⟨h1, h2⟩ => ⟨by omega, h2⟩, fun ⟨h1, h2⟩ => ⟨by omega, h2⟩⟩
    simp only [this]
theorem others_out {vs : List (Int × ByteArray)} {L : List Nat} {key : ByteArray} {j : Nat} {v : Int × ByteArray} (h : ¬ j ∈ L) (hv : vs[j]? = some v) : (others vs L key j).set j (v.1, key) = others vs L key (j + 1) := by
  apply List.ext_getElem?
  intro i
  have hj := (List.getElem?_eq_some_iff.1 hv).1
  by_cases e : j = i
  · subst e
    rw [List.getElem?_set_self (by rw [others_length]; exact hj), others_at, hv]
    simp [h]
  · rw [List.getElem?_set_ne e, others_at, others_at]
    congr 1
    funext v
    have : (i < j + 1 ∧ ¬ i ∈ L) ↔ (i < j ∧ ¬ i ∈ L) := ⟨fun ⟨h1, h2⟩ => ⟨by omega, h2⟩, fun ⟨h1, h2⟩ => ⟨by omega, h2⟩⟩
    simp only [this]
theorem others_own {vs : List (Int × ByteArray)} {L : List Nat} {key : ByteArray} {j : Nat} {v : Int × ByteArray} (hv : vs[j]? = some v) : (others vs L key j)[j]? = some v := by
  rw [others_at, hv]; simp
theorem others_key {vs : List (Int × ByteArray)} {L : List Nat} {key : ByteArray} (j : Nat) {i : Nat} (h : i ∈ L) : keyAt (others vs L key j) i = keyAt vs i := by
  unfold keyAt
  rw [others_at]
  cases vs[i]? <;> simp [h]
theorem others_sizes {vs : List (Int × ByteArray)} {L : List Nat} {key : ByteArray} {j : Nat} (h : ∀ v ∈ vs, v.2.size ≤ 500) (hk : key.size ≤ 500) : ∀ v ∈ others vs L key j, v.2.size ≤ 500 := by
  intro v hv
  obtain ⟨i, hi⟩ := List.getElem?_of_mem hv
  rw [others_at] at hi
  cases hx : vs[i]? with
  | none => rw [hx] at hi; cases hi
  | some u =>
    rw [hx] at hi
    simp only [Option.map_some, Option.some.injEq] at hi
    subst hi
    split
    · exact hk
    · exact h u (List.mem_of_getElem? hx)
theorem tags_others {vs : List (Int × ByteArray)} {key : ByteArray} {j : Nat} {M : Msg} (L : List Nat) : tagsM (others vs L key j) M L = tagsM vs M L := by
  unfold tagsM
  refine List.map_congr_left fun i hi => ?_
  rw [tagOne, tagOne, others_key j hi]
theorem sealT_others {vs : List (Int × ByteArray)} {K : List Nat} {key : ByteArray} {j : Nat} {M : Msg} : sealT (others vs ((spk K M).getD []) key j) K M = sealT vs K M := by
  unfold sealT
  cases h : spk K M with
  | none => rfl
  | some l =>
    simp only [Option.getD_some]
    rw [tags_others]
theorem vc_set : ∀ (us : List (Int × ByteArray)) (j : Nat) (u : Int × ByteArray) (key : ByteArray), us[j]? = some u → (vc us).set (j * 2 + 1) (.string key) = vc (us.set j (u.1, key))
  | [], j, u, key, h => by simp at h
  | x :: r, 0, u, key, h => by
    simp at h; subst h; rfl
  | x :: r, j + 1, u, key, h => by
    have ih := vc_set r j u key (by simpa using h)
    have e : ∀ (y : Int × ByteArray) (l : List (Int × ByteArray)), vc (y :: l) = Value.int .i64 y.1 :: Value.string y.2 :: vc l := fun _ _ => rfl
    rw [List.set_cons_succ, e, e, ← ih, show (j + 1) * 2 + 1 = j * 2 + 1 + 1 + 1 by omega, List.set_cons_succ, List.set_cons_succ]

theorem setCell_size (w : World) (a : Addr) (v : Value) : (w.setCell a v).heap.size = w.heap.size := by simp [World.setCell]
theorem WideAt.set {k : Nat} {w : World} {base n cap g off : Nat} {ao : Option Addr} {xs : List Value} (h : WideAt k w base n cap g off ao xs) (j : Nat) (hj : j < xs.length) (u : Value) : WideAt k (w.setCell ⟨g, off + j, none⟩ u) base n cap g off ao (xs.set j u) := by
  refine ⟨by rw [List.length_set]; exact h.len, h.le, h.max, h.addr, h.own, fun hc => by rw [setCell_size]; exact h.lt hc, fun i v hi => ?_, fun i hi => ?_, fun i hi => by rw [World.frozen?_setCell]; exact h.free i hi⟩
  · by_cases e : j = i
    · subst e
      rw [List.getElem?_set_self hj] at hi
      cases hi
      exact World.cell?_setCell_same w ⟨g, off + j, none⟩ u (h.cells j _ (List.getElem?_eq_getElem hj))
    · rw [List.getElem?_set_ne e] at hi
      rw [World.cell?_setCell_other w ⟨g, off + j, none⟩ ⟨g, off + i, none⟩ u (by intro q; injection q with _ q2 _; omega)]
      exact h.cells i v hi
  · by_cases e : j = i
    · subst e
      obtain ⟨x, hx⟩ := Option.isSome_iff_exists.1 (h.room j hi)
      rw [World.cell?_setCell_same w ⟨g, off + j, none⟩ u hx]; rfl
    · rw [World.cell?_setCell_other w ⟨g, off + j, none⟩ ⟨g, off + i, none⟩ u (by intro q; injection q with _ q2 _; omega)]
      exact h.room i hi

/-- An empty configuration's cells, written out. -/
def czcells : Array Value := #[.slice none 0 0, .int .i64 0, .int .i64 0, .int .i64 0, .int .i64 0, .int .i64 0, .int .i64 0, .int .i64 0, .int .i64 0, .int .i64 0, .int .i64 0, .int .i64 0]
theorem cz_lit : (#[.slice none 0 0, .int .i64 0, .int .i64 0, .int .i64 0, .int .i64 0, .int .i64 0, .int .i64 0, .int .i64 0, .int .i64 0, .int .i64 0, .int .i64 0, .int .i64 0] : Array Value) = czcells := rfl
/-- A configuration into a block that holds an empty one. -/
theorem wpList_store_cfg {ops : Array Oper} {rest : List Oper} {o : Oper} {a : Act} {w : World} {Q : Exit → Act → World → Prop} (x y : Operand) (ho : o.op = .store 24 x y) (hgd : o.guard = none)
    (g : Nat) (cs : List Value) (hx : a.eval x = .pointer (some ⟨g, 0, none⟩)) (hy : a.eval y = .agg cs.toArray) (hg : Blk w g 24 czcells.toList) (hl : cs.length = 12) (h1 : ∀ v ∈ cs, v.oneCell' = true)
    (h : wpList Tryd.prog ops Q rest (a.put o.dst undef) (w.setRow g cs.toArray)) : wpList Tryd.prog ops Q (o :: rest) a w := by
  refine wpList_store_part hgd 24 x y ho g 0 cs hx hy 24 czcells.toList hg (by rw [hl]; exact Tryd.sizeCfg) (by rw [hl]; exact Nat.le_refl 12) h1 ?_
  rw [splice_all _ _ (by rw [hl]; rfl)]
  exact h
theorem CfgIn.one {w : World} {cs : List Value} {vs : List (Int × ByteArray)} (h : CfgIn w cs vs) : ∀ v ∈ cs, v.oneCell' = true := by
  obtain ⟨nao, ncap, b, off, n1, n2, n3, n4, n5, n6, n7, n8, n9, n10, n11, e, h1, h2⟩ := h
  rw [e]
  intro v hv
  simp only [List.mem_cons, List.not_mem_nil, or_false] at hv
  rcases hv with rfl | rfl | rfl | rfl | rfl | rfl | rfl | rfl | rfl | rfl | rfl | rfl <;> rfl
/-- With other validators, as many, that lie elsewhere. -/
theorem CfgOk.turn {w w' : World} {cs : List Value} {C : Nat} {vs us : List (Int × ByteArray)} (h : CfgOk w cs C vs) {ao : Option Addr} {n cap b off : Nat} (hn : n = vs.length) (hu : us.length = vs.length) (hk : ∀ v ∈ us, v.2.size ≤ 500) (hl : Lies w' w'.heap.size ao b off (vc us)) :
    CfgOk w' (cs.set 0 (.slice ao n cap)) C us := by
  obtain ⟨nao, ncap, b', off', n1, n3, n4, n5, n6, n7, n8, n9, n10, n11, e, h1, h2, h3, h4, h5, h6, h7⟩ := h
  subst hn
  refine ⟨ao, cap, b, off, n1, n3, n4, n5, n6, n7, n8, n9, n10, n11, ?_, by omega, by omega, h3, by omega, h5, hk, hl⟩
  rw [e, hu]
  rfl
theorem CfgOk.lies {w : World} {cs : List Value} {C : Nat} {vs : List (Int × ByteArray)} (h : CfgOk w cs C vs) : ∃ (nao : Option Addr) (ncap b off : Nat), cs[0]? = some (.slice nao vs.length ncap) ∧ Lies w w.heap.size nao b off (vc vs) := by
  obtain ⟨nao, ncap, b, off, n1, n3, n4, n5, n6, n7, n8, n9, n10, n11, e, h1, h2, h3, h4, h5, h6, h7⟩ := h
  exact ⟨nao, ncap, b, off, by rw [e]; rfl, h7⟩
theorem Tryd.infoVal : (Tryd.prog.info? 59).map (fun i => (i.zero, i.size, i.bytes)) = some (some (.agg #[.int .i64 0, .string ⟨#[]⟩]), 2, 24) := by kernel_rfl
end Go.Proofs.YtnbdpalbompjlaaDoor
