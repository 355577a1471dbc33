/-
  The walk of SealAlone.
-/
import Derived.Test.YtnbdpalbompjlaaDoorM22
import Derived.Test.YtnbdpalbompjlaaDoorRowOf
import Derived.Test.YtnbdpalbompjlaaDoorFreeS
namespace Go.Proofs.YtnbdpalbompjlaaDoor
open Go.RowKit
set_option maxRecDepth 100000

theorem brow_nil {w : World} {B : Nat} {ao : Option Addr} {cap : Nat} (hc : cap ≤ maxLen) : BRow w B (.slice ao 0 cap) [] :=
  ⟨ao, cap, 0, 0, rfl, Nat.zero_le _, hc, ⟨fun h => absurd h (by simp), fun h => absurd h (by simp), fun j x h => by simp at h⟩⟩
theorem brow_form0 {w : World} {B : Nat} {v : Value} (h : BRow w B v []) : ∃ ao cap, v = .slice ao 0 cap ∧ cap ≤ maxLen := by
  obtain ⟨ao, cap, b, off, rfl, _, hc, _⟩ := h
  exact ⟨ao, cap, rfl, hc⟩
theorem stepS_store_msg {ops : Array Oper} {o : Oper} {a : Act} {w : World} {R : Value → World → Prop} (hd : o.dst = none) (hw : Region.wanted o (yielded ops a.tmps) = true) (x y : Operand) (ho : o.op = .store 32 x y)
    (g : Nat) (M M' : Msg) (sl sl' : Value) (hx : a.eval x = .pointer (some ⟨g, 0, none⟩)) (hy : a.eval y = .agg (mc M' sl').toArray) (hg : Blk w g 32 (mc M sl)) (hf : M.Fits) (hf' : M'.Fits) (h1 : sl'.oneCell' = true)
    (h : R undef (w.setRow g (mc M' sl').toArray)) : stepS Tryd.prog ops o a w R := by
  refine stepS_skip hd hw ?_ h
  have hs := run_storeAt_part (off := 0) hg 32 (msg_size hf' sl') (by rw [mc_length hf, mc_length hf']; omega) (mc_one h1)
  rw [splice_all _ _ (by rw [mc_length hf, mc_length hf'])] at hs
  unfold execOp
  simp only [ho, hx, hy, Sem.run_bind, hs, Result.andThen_ok]
  rfl

/-- A row that says yes at one place. -/
def oneRow (n q : Nat) : List Bool := (List.replicate n false).set q true
theorem oneRow_length (n q : Nat) : (oneRow n q).length = n := by simp [oneRow]
theorem oneRow_any {n q : Nat} (h : q < n) : (oneRow n q).any id = true := by
  rw [List.any_eq_true]
  exact ⟨true, List.mem_of_getElem? (show (oneRow n q)[q]? = some true by rw [oneRow, List.getElem?_set_self (by simpa using h)]), rfl⟩
theorem pick_no : ∀ (l : List Nat) (n : Nat), pickL l (List.replicate n false) = []
  | [], n => by cases n <;> rfl
  | _ :: _, 0 => rfl
  | a :: l, n + 1 => by rw [List.replicate_succ, pickL, if_neg (by simp)]; exact pick_no l n
theorem pick_one : ∀ (l : List Nat) (q x : Nat), l[q]? = some x → pickL l (oneRow l.length q) = [x]
  | [], q, x, h => by simp at h
  | a :: l, 0, x, h => by
    simp at h; subst h
    rw [oneRow, List.length_cons, List.replicate_succ, List.set_cons_zero, pickL, if_pos rfl, pick_no]
  | a :: l, q + 1, x, h => by
    have ih := pick_one l q x (by simpa using h)
    rw [oneRow, List.length_cons, List.replicate_succ, List.set_cons_succ, pickL, if_neg (by simp)]
    exact ih
/-- The sum of one. -/
def sumM (s : Int) (T : List UInt8) (r : List Bool) : Msg := ⟨3, s, T, 0, 0, r, List.replicate 16 0⟩
theorem sumM_good {s : Int} {T : List UInt8} {r : List Bool} (hs : 0 ≤ s ∧ s ≤ 1073741824) (hr : r.length ≤ 16) (ha : r.any id = true) : msgGood (sumM s T r) = true := by
  have h0 : (sumM s T r).s = s := rfl
  have h1 : (sumM s T r).k = 3 := rfl
  have h2 : (sumM s T r).l = r := rfl
  unfold msgGood
  have h5 : (sumM s T r).m = 0 := rfl
  have h6 : (sumM s T r).b = 0 := rfl
  rw [h0, h1, h2, h5, h6, ha]
  have h3 := hs.1
  have h4 := hs.2
  simp
  omega
theorem sumM_spk {K : List Nat} {s : Int} {T : List UInt8} {q x : Nat} (hs : 0 ≤ s ∧ s ≤ 1073741824) (hl : K.length ≤ 16) (hx : K[q]? = some x) : spk K (sumM s T (oneRow K.length q)) = some [x] := by
  have hq := (List.getElem?_eq_some_iff.1 hx).1
  have hg := sumM_good (T := T) hs (by rw [oneRow_length]; exact hl) (oneRow_any hq)
  have hf : fits K (oneRow K.length q) = true := by simp [fits, oneRow_length]; intro h; rw [h] at hq; simp at hq
  rw [spk_three hg rfl, show (sumM s T (oneRow K.length q)).l = oneRow K.length q from rfl, if_pos hf, picked, if_pos hf, pick_one K q x hx]

set_option maxHeartbeats 16000000 in
theorem sealAlone_any (w : World) (hT : Tabs w) (cs : List Value) (vs : List (Int × ByteArray)) (hc : CfgIn w cs vs) (a : Int) (T : List UInt8) (hTl : T.length = 32) (b : Int) :
    Calls Tryd.prog 7 #[.agg cs.toArray, .int .i64 a, .agg (bv T).toArray, .int .i64 b] w fun e w' => e = .returned (.bool true) ∧ Below w.heap.size w w' := by
  have HT := Lib.hid hT
  have HCI := Lib.hid hc
  have HCL := Lib.hid hc.len
  have HC := Lib.hid (show Blk _ w.heap.size _ cs from (Blk.new w 24 cs.toArray).alloc (.cells (bv T).toArray 26))
  have HR := Lib.hid (show Blk _ (w.heap.size + 1) _ (bv T) from Blk.newAt (w.alloc (.cells cs.toArray 24)) 26 (bv T).toArray (w.heap.size + 1) (by simp))
  have HB := Lib.hid (show Below w.heap.size w ((w.alloc (.cells cs.toArray 24)).alloc (.cells (bv T).toArray 26)) from ((Below.refl w.heap.size w).alloc (Nat.le_refl _) _).alloc (by simp) _)
  clear hT hc
  obtain ⟨R, hR⟩ : ∃ R, R = w.heap.size + 1 := ⟨_, rfl⟩
  obtain ⟨D, hD⟩ : ∃ D, D = w.heap.size := ⟨_, rfl⟩
  go_enter Tryd.func7, Tryd.ntmps7
  go_upto_region 1 with fail
  generalize (w.alloc (.cells cs.toArray 24)).alloc (.cells (bv T).toArray 26) = w0 at HB HC HR ⊢
  rw [← hR] at HR ⊢
  rw [← hD] at HC ⊢
  clear hR hD
  go_wp2_with fail
  refine (alive_any w0 (HT.out.below HB.out HT.out.size)).mono ?_
  rintro e w1 ⟨rfl, hb⟩
  replace HC := Lib.hid (HC.out.below hb HC.out.lt)
  replace HR := Lib.hid (HR.out.below hb HR.out.lt)
  replace HB := Lib.hid (HB.out.trans (hb.mono HB.out.size))
  clear hb
  have HG8 := Lib.hid (great_cfg w1 (HCI.out.below HB.out))
  go_wp2_with ((with_reducible refine wpList_load_cfg (.tmp 4) ?_ ?_ D cs ?_ HC.out HCL.out ?_); rfl; rfl; rfl)
  refine HG8.out.mono ?_
  rintro e w2 ⟨y1, rfl, hy1, hb⟩
  replace HC := Lib.hid (HC.out.below hb HC.out.lt)
  replace HR := Lib.hid (HR.out.below hb HR.out.lt)
  replace HB := Lib.hid (HB.out.trans (hb.mono HB.out.size))
  clear hb
  clear HG8
  cases y1 with
  | true =>
    clear hy1
    go_wp2_with fail
    go_ret
    exact ⟨rfl, HB.out⟩
  | false =>
  have hlen := hy1 rfl
  clear hy1
  have HG8 := Lib.hid (good_cfg w2 (HCI.out.below HB.out) hlen)
  clear hlen
  go_wp2_with ((with_reducible refine wpList_load_cfg (.tmp 4) ?_ ?_ D cs ?_ HC.out HCL.out ?_); rfl; rfl; rfl)
  refine HG8.out.mono ?_
  rintro e w3 ⟨y2, rfl, hy2, hb⟩
  replace HC := Lib.hid (HC.out.below hb HC.out.lt)
  replace HR := Lib.hid (HR.out.below hb HR.out.lt)
  replace HB := Lib.hid (HB.out.trans (hb.mono HB.out.size))
  clear hb
  clear HG8
  cases y2 with
  | false =>
    clear hy2
    go_wp2_with fail
    go_ret
    exact ⟨rfl, HB.out⟩
  | true =>
  obtain ⟨C, hok⟩ := hy2 rfl
  have HOK := Lib.hid hok
  clear hy2 hok
  by_cases ha1 : a < 0
  · go_wp2_with fail
    go_ret
    exact ⟨rfl, HB.out⟩
  by_cases ha2 : (1073741824 : Int) < a
  · go_wp2_with fail
    go_ret
    exact ⟨rfl, HB.out⟩
  have HA := Lib.hid (show 0 ≤ a ∧ a ≤ 1073741824 by omega)
  obtain ⟨K, hK⟩ : ∃ K, comm a vs.length C = K := ⟨_, rfl⟩
  have HKE := Lib.hid hK
  have hvals := (HOK.out _ (HCI.out.below HB.out)).vals
  have HKC := Lib.hid (show K.length = C by rw [← hK]; exact comm_length a vs.length C HA.out hvals.2.2.2.1)
  have HKM := Lib.hid (show ∀ x ∈ K, x < vs.length by intro x hx; rw [← hK] at hx; exact comm_mem a vs.length C x hx)
  have HVN := Lib.hid hvals
  have hC1 : 1 ≤ C := hvals.2.2.1
  have hC2 : C ≤ 16 := hvals.2.2.2.2
  clear hK hvals
  have HMB := Lib.hid (refMembers_cfg w3 (HOK.out _ (HCI.out.below HB.out)) a)
  go_wp2_with ((with_reducible refine wpList_load_cfg (.tmp 4) ?_ ?_ D cs ?_ HC.out HCL.out ?_); rfl; rfl; rfl)
  refine HMB.out.mono ?_
  rintro e w4 ⟨v9, rfl, hh, hb⟩
  replace HC := Lib.hid (HC.out.below hb HC.out.lt)
  replace HR := Lib.hid (HR.out.below hb HR.out.lt)
  replace HB := Lib.hid (HB.out.trans (hb.mono HB.out.size))
  clear hb
  clear HMB
  rw [HKE.out] at hh
  have HRW := Lib.hid (show Row _ v9 K from hh.row)
  clear hh
  obtain ⟨kao, kcap, kb, ko, hv9, hkl⟩ := HRW.out
  subst hv9
  clear HRW
  have HKL := Lib.hid hkl
  have hka := hkl.addr (by rw [iv_length, HKC.out]; omega)
  subst hka
  clear hkl
  rw [HKC.out]
  have hC0 : ((C : Int) == 0) = false := by simp; omega
  have hC3 : ¬ ((C : Int) = 0) := by omega
  have hwC : IntKind.u64.wrap (C : Int) = (C : Int) := by rw [IntKind.wrap_u64]; omega
  obtain ⟨q, hq, hq2⟩ : ∃ q : Nat, Int.tmod (IntKind.u64.wrap b) (C : Int) = (q : Int) ∧ q < C := by
    have h1 : 0 ≤ IntKind.u64.wrap b := by rw [IntKind.wrap_u64]; omega
    have h2 : Int.tmod (IntKind.u64.wrap b) (C : Int) = (IntKind.u64.wrap b) % (C : Int) := Int.tmod_eq_emod_of_nonneg h1
    have h3 := Int.emod_nonneg (IntKind.u64.wrap b) (show (C : Int) ≠ 0 by omega)
    have h4 := Int.emod_lt_of_pos (IntKind.u64.wrap b) (show (0 : Int) < C by omega)
    exact ⟨((IntKind.u64.wrap b) % (C : Int)).toNat, by omega, by omega⟩
  have hqw : IntKind.i64.wrap (q : Int) = (q : Int) := by rw [IntKind.wrap_i64]; omega
  obtain ⟨x, hx⟩ : ∃ x, K[q]? = some x := ⟨_, List.getElem?_eq_getElem (by rw [HKC.out]; exact hq2)⟩
  have HX := Lib.hid hx
  have HXK := Lib.hid (List.mem_of_getElem? hx)
  have HX6 := Lib.hid (show x ≤ 65535 by have h1 := HKM.out x HXK.out; have h2 := HVN.out; omega)
  clear hx
  obtain ⟨i1, hi1, hy0, hy1, hy2⟩ := info_parts Tryd.infoB
  have HWB := Lib.hid (show w.heap.size ≤ w4.heap.size from HB.out.size)
  have HWC := Lib.hid (show D ≠ w4.heap.size ∧ R ≠ w4.heap.size ∧ kb < w4.heap.size from ⟨Nat.ne_of_lt HC.out.lt, Nat.ne_of_lt HR.out.lt, HKL.out.lt (by rw [iv_length, HKC.out]; omega)⟩)
  have hmk := run_makeSlice (P := Tryd.prog) w4 28 4 i1 (.bool false) Tryd.underlying28 hi1 hy0 .i64 .i64 (C : Int) (C : Int) (by omega) (by omega) (by rw [hy1]; simp; omega) (by rw [hy2]; omega) (by omega)
  simp only [Int.toNat_natCast, hy1, Nat.mul_one] at hmk
  have htk := Blk.new w4 4 (madeCells (Value.bool false).cells C)
  have hbk : Below w4.heap.size w4 (w4.alloc (.cells (madeCells (Value.bool false).cells C) 4)) := (Below.refl _ _).alloc (Nat.le_refl _) _
  rw [made_no C] at htk
  obtain ⟨wm, hwm⟩ : ∃ y, w4.alloc (.cells (madeCells (Value.bool false).cells C) 4) = y := ⟨_, rfl⟩
  rw [hwm] at hmk htk hbk
  have HRB := Lib.hid htk
  clear htk hwm hi1 hy0 hy1 hy2
  replace HKL := Lib.hid (HKL.out.below hbk)
  have HKC2 := HKL
  replace HC := Lib.hid (HC.out.below hbk HC.out.lt)
  replace HR := Lib.hid (HR.out.below hbk HR.out.lt)
  replace HB := Lib.hid (HB.out.trans (hbk.mono HB.out.size))
  clear hbk
  have c0 := HRB.out.cell q
  have f0 := HRB.out.free q
  rw [show (ov (List.replicate C false))[q]? = some (.bool false) by simp [ov, hq2]] at c0
  have hrb := HRB.out.set q (.bool true)
  have hbs : Below w4.heap.size wm (wm.setCell ⟨w4.heap.size, q, none⟩ (.bool true)) := (Below.refl w4.heap.size wm).setCell (p := ⟨w4.heap.size, q, none⟩) (Nat.le_refl _) (.bool true)
  have HWL := Lib.hid (show w4.heap.size ≤ wm.heap.size from Nat.le_of_lt HRB.out.lt)
  have hcb : Below w.heap.size w (wm.setCell ⟨w4.heap.size, q, none⟩ (.bool true)) := HB.out.setCell (p := ⟨w4.heap.size, q, none⟩) HWB.out (.bool true)
  have hc1 := HC.out.other ⟨w4.heap.size, q, none⟩ (.bool true) HWC.out.1
  have hr1 := HR.out.other ⟨w4.heap.size, q, none⟩ (.bool true) HWC.out.2.1
  have hkc := HKC2.out.cells
  obtain ⟨wn, hwn⟩ : ∃ y, wm.setCell ⟨w4.heap.size, q, none⟩ (.bool true) = y := ⟨_, rfl⟩
  have hkl : wn.cell? ⟨kb, ko + q, none⟩ = some (.int .i64 (x : Int)) := by
    rw [← hwn, World.cell?_setCell_other wm ⟨w4.heap.size, q, none⟩ ⟨kb, ko + q, none⟩ (.bool true) (by intro e; injection e with e1 _ _; have := HWC.out.2.2; omega)]
    exact hkc q _ (iv_at HX.out)
  rw [hwn] at hcb hc1 hr1 hrb
  have HWX := Lib.hid hwn
  clear hwn hkc hbs
  go_upto_region 11 with fail
  rw [HWX.out]
  clear c0 f0 hmk HWX HC HR HB HRB HKL HKC2 HWL
  have HC := Lib.hid hc1
  have HR := Lib.hid hr1
  have HB := Lib.hid hcb
  have HKX := Lib.hid hkl
  have HKB := Lib.hid (show kb < wn.heap.size by have h := World.block_lt_of_cell? wn _ hkl; exact h)
  have HRO := Lib.hid (show Blk wn w4.heap.size 4 (ov (oneRow C q)) by
    have h := hrb
    rw [show (ov (List.replicate C false)).set q (.bool true) = ov (oneRow C q) by simp [ov, oneRow, List.map_set]] at h
    exact h)
  clear hc1 hr1 hcb hkl hrb HWB HWC
  generalize w4.heap.size = RB at HRO ⊢
  have HRL := Lib.hid (show BRow wn wn.heap.size (.slice (some ⟨RB, 0, none⟩) C C) (oneRow C q) from ⟨some ⟨RB, 0, none⟩, C, RB, 0, by rw [oneRow_length], by rw [oneRow_length]; exact Nat.le_refl _, by unfold maxLen; omega, ⟨fun _ => rfl, fun _ => HRO.out.lt, fun j y hj => by rw [Nat.zero_add, HRO.out.cell]; simp [ov, hj]⟩⟩)
  clear HRO
  obtain ⟨SM, hSM⟩ : ∃ SM, sumM a T (oneRow C q) = SM := ⟨_, rfl⟩
  have HSF := Lib.hid (show SM.Fits by rw [← hSM]; exact ⟨hTl, by simp [sumM], by simp [sumM]⟩)
  have HSS := Lib.hid (show SM.s = a by rw [← hSM]; rfl)
  have HST := Lib.hid (show SM.T = T by rw [← hSM]; rfl)
  have HS3 := Lib.hid (show SM.k = 3 by rw [← hSM]; rfl)
  have HSL := Lib.hid (show SM.l = oneRow C q by rw [← hSM]; rfl)
  have HSG := Lib.hid (show msgGood SM = true by rw [← hSM]; exact sumM_good HA.out (by rw [oneRow_length]; omega) (oneRow_any hq2))
  have HSP := Lib.hid (show spk K SM = some [x] by rw [← hSM, ← HKC.out]; exact sumM_spk HA.out (by rw [HKC.out]; omega) HX.out)
  have HSB := Lib.hid (built_sum 3 a T hTl (some ⟨RB, 0, none⟩) C C (oneRow C q))
  rw [show (⟨3, a, T, 0, 0, oneRow C q, List.replicate 16 0⟩ : Msg) = SM from hSM] at HSB
  obtain ⟨TG, hTG⟩ : ∃ TG, tagOne vs SM x = TG := ⟨_, rfl⟩
  have HTGl := Lib.hid (show TG.length = 16 by rw [← hTG]; exact tag_length _ _)
  have HT1 := Lib.hid (show sealT vs K SM = TG by
    unfold sealT
    rw [HSP.out]
    show joined [tag _ _] = TG
    rw [joined_sole _ (tag_length _ _)]
    exact hTG)
  have HT2 := Lib.hid (show sealT vs K (voteM SM x) = TG by rw [vote_tag HSG.out HS3.out HXK.out HX6.out, hTG])
  have HVP := Lib.hid (vote_spk (K := K) HSG.out HXK.out HX6.out)
  have HVV := Lib.hid (vote_votes (K := K) HSG.out HXK.out HX6.out)
  rw [HSS.out, HST.out] at HVV
  have HSV := Lib.hid (show votesM K SM = [(x, a, T)] by rw [votesM, if_neg (by rw [HS3.out]; omega), HSP.out, HSS.out, HST.out]; rfl)
  obtain ⟨A1, hA1⟩ : ∃ A1, ({ SM with G := TG } : Msg) = A1 := ⟨_, rfl⟩
  obtain ⟨A2, hA2⟩ : ∃ A2, ({ voteM SM x with G := TG } : Msg) = A2 := ⟨_, rfl⟩
  have HA1 := Lib.hid (show signM vs K SM = A1 by rw [signM_yes (by rw [HSP.out]; rfl), HT1.out, hA1])
  have HA2 := Lib.hid (show signM vs K (voteM SM x) = A2 by rw [signM_yes (by rw [HVP.out]; rfl), HT2.out, hA2])
  have HF1 := Lib.hid (show A1.Fits by rw [← hA1]; exact ⟨HSF.out.T, HTGl.out, HSF.out.b⟩)
  have HF2 := Lib.hid (show A2.Fits by rw [← hA2]; exact ⟨(voteM_fits HSF.out x).T, HTGl.out, (voteM_fits HSF.out x).b⟩)
  have HG1 := Lib.hid (show A1.G = TG by rw [← hA1])
  have HG2 := Lib.hid (show A2.G = TG by rw [← hA2])
  have HL2 := Lib.hid (show A2.l = [] by rw [← hA2]; rfl)
  have HV1 := Lib.hid (show votesM (comm A1.s vs.length C) A1 = [(x, a, T)] by rw [← hA1, votes_tagless, show ({ SM with G := TG } : Msg).s = SM.s from rfl, HSS.out, HKE.out, HSV.out])
  have HV2 := Lib.hid (show votesM (comm A2.s vs.length C) A2 = [(x, a, T)] by rw [← hA2, votes_tagless, show ({ voteM SM x with G := TG } : Msg).s = SM.s from rfl, HSS.out, HKE.out, HVV.out])
  have HSN := Lib.hid (sign_any wn (HT.out.below HB.out HT.out.size) (HOK.out _ (HCI.out.below HB.out)) SM (.slice (some ⟨RB, 0, none⟩) C C) HSF.out (by rw [HSL.out]; exact HRL.out))
  rw [HSS.out, HKE.out, HA1.out, HSP.out] at HSN
  have HSW := fun (W : World) (hT : Tabs W) (hc : CfgOk W cs C vs) => sign_any W hT hc (voteM SM x) (.slice none 0 0) (voteM_fits HSF.out x) (BRow.nil _ _)
  simp only [show (voteM SM x).s = SM.s from rfl, HSS.out, HKE.out, HA2.out, HVP.out] at HSW
  replace HSW := Lib.hid HSW
  have HVB := Lib.hid (built_vote 2 a x T hTl)
  rw [show (⟨2, a, T, (x : Int), 0, [], List.replicate 16 0⟩ : Msg) = voteM SM x by rw [voteM, HSS.out, HST.out]] at HVB
  have HRC := Lib.hid (show ∀ (j : Nat) (v : Value), (bv T)[j]? = some v → wn.cell? ⟨R, 0 + j, none⟩ = some v from fun j v hj => by rw [Nat.zero_add]; exact (HR.out.cell j).trans hj)
  clear hSM hTG hA1 hA2 hq hwC hqw hC0
  go_wp2_with (first
    | ((with_reducible refine wpList_load_cfg (.tmp 4) ?_ ?_ D cs ?_ HC.out HCL.out ?_); rfl; rfl; rfl)
    | ((with_reducible refine wpList_load_root (.tmp 6) ?_ ?_ R 0 T ?_ hTl HRC.out ?_); rfl; rfl; rfl)
    | ((with_reducible refine wpList_build_msg ?_ 32 #[(0, .const (.int .i64 3)), (1, .tmp 54), (2, .tmp 55), (5, .tmp 56)] ?_ (mc SM (.slice (some ⟨RB, 0, none⟩) C C)).toArray ?_ ?_); rfl; rfl; (simp only [List.map_toArray, List.map_cons, List.map_nil]; exact HSB.out)))
  refine HSN.out.mono ?_
  rintro e wo ⟨su, rfl, hrow, hb⟩
  have HKS := Lib.hid (show wo.cell? ⟨kb, ko + q, none⟩ = some (.int .i64 (x : Int)) from (hb.cell (p := ⟨kb, ko + q, none⟩) HKB.out).trans HKX.out)
  have HKB2 := Lib.hid (Nat.lt_of_lt_of_le HKB.out hb.size)
  have HS1 := Lib.hid hrow
  clear HKX HKB HRC HSN HRL HSB
  replace HC := Lib.hid (HC.out.below hb HC.out.lt)
  replace HR := Lib.hid (HR.out.below hb HR.out.lt)
  replace HB := Lib.hid (HB.out.trans (hb.mono HB.out.size))
  clear hb hrow
  have hbt := below_setRow ((Below.refl wo.heap.size wo).alloc (Nat.le_refl _) (.cells zcells 32)) (Nat.le_refl wo.heap.size) (mc A1 su).toArray
  have HZ := Lib.hid (zero_msg wo)
  have HO := Lib.hid HS1.out.one
  have ht3 := HZ.out.setRow (mc A1 su)
  obtain ⟨wp, hwp⟩ : ∃ y, (wo.alloc (.cells zcells 32)).setRow wo.heap.size (mc A1 su).toArray = y := ⟨_, rfl⟩
  rw [hwp] at hbt ht3
  have HWX := Lib.hid hwp
  have HX1 := Lib.hid ht3
  have HKX := Lib.hid (show wp.cell? ⟨kb, ko + q, none⟩ = some (.int .i64 (x : Int)) from (hbt.cell (p := ⟨kb, ko + q, none⟩) HKB2.out).trans HKS.out)
  have HKB := Lib.hid (Nat.lt_of_lt_of_le HKB2.out hbt.size)
  replace HS1 := Lib.hid (HS1.out.bits hbt)
  clear hwp ht3 HKS HKB2
  go_upto_region 12 with ((with_reducible refine wpList_store_msg (.tmp 12) (.tmp 59) ?_ ?_ wo.heap.size zeroMsg A1 (.slice none 0 0) su ?_ ?_ ?_ zeroMsg_fits HF1.out ?_ ?_); rfl; rfl; rfl; rfl; exact HZ.out; exact HO.out)
  rw [zcells_lit, HWX.out]
  replace HC := Lib.hid (HC.out.below hbt HC.out.lt)
  replace HR := Lib.hid (HR.out.below hbt HR.out.lt)
  replace HB := Lib.hid (HB.out.trans (hbt.mono HB.out.size))
  clear hbt HZ HWX HO
  generalize wo.heap.size = X1 at HX1 ⊢
  refine wp_region_freeT (P := Tryd.prog) 14 (fun w' => Below wp.heap.size wp w') (fun oq v w' => match oq with
      | 0 => v = .agg cs.toArray
      | 1 => v = .int .i64 a
      | 2 => v = .agg (bv T).toArray
      | 3 => v = .slice (some ⟨kb, ko, none⟩) C kcap
      | 4 => v = .int .i64 (q : Int)
      | 5 => v = .pointer (some ⟨kb, ko + q, none⟩)
      | 6 => v = .int .i64 (x : Int)
      | 7 => v = .agg (mc (voteM SM x) (.slice none 0 0)).toArray
      | 8 => ∃ ao cap, v = .tuple #[.agg (mc A2 (.slice ao 0 cap)).toArray, .bool true] ∧ cap ≤ maxLen
      | 9 => ∃ ao cap, v = .tuple #[.agg (mc A2 (.slice ao 0 cap)).toArray, .bool true] ∧ cap ≤ maxLen
      | 10 => ∃ ao cap, v = .agg (mc A2 (.slice ao 0 cap)).toArray ∧ cap ≤ maxLen
      | 11 => v = .bool true
      | 12 => ∃ g, v = .pointer (some ⟨g, 0, none⟩) ∧ wp.heap.size ≤ g ∧ Blk w' g 32 (mc zeroMsg (.slice none 0 0))
      | 13 => True
      | _ => True) (fun hh oq => match oq with
      | 12 => hh 13
      | _ => false) [(13, 0), (13, 1), (13, 2), (13, 3), (13, 4), (13, 5), (13, 6), (13, 7), (13, 8), (13, 9), (13, 10), (13, 12)] 13 (by decide) (fun s w' => ∃ g ao cap, s 12 = .pointer (some ⟨g, 0, none⟩) ∧ wp.heap.size ≤ g ∧ Blk w' g 32 (mc A2 (.slice ao 0 cap)) ∧ cap ≤ maxLen) (by kernel_rfl) (by kernel_rfl) (by kernel_rfl) (Below.refl _ _).drew ?gb ?vb ?db ?steps ?fin
  case gb => exact fun a b h1 h2 => h1.trans (h2.mono h1.size)
  case vb =>
    intro oq v a b h hb
    match oq with
    | 0 => exact h
    | 1 => exact h
    | 2 => exact h
    | 3 => exact h
    | 4 => exact h
    | 5 => exact h
    | 6 => exact h
    | 7 => exact h
    | 8 => exact h
    | 9 => exact h
    | 10 => exact h
    | 11 => exact h
    | 12 => obtain ⟨g, h1, h2, h3⟩ := h; exact ⟨g, h1, h2, h3.below hb h3.lt⟩
    | 13 => trivial
    | _ + 14 => trivial
  case db =>
    intro hh i oq h
    split at h
    · exact turnOn_of h
    · cases h
  case steps =>
    intro vals
    simp only [List.take_succ_cons, List.take_zero, freeStepsT, Act.put, List.setIfInBounds_toArray, List.set_cons_zero, List.set_cons_succ, Nat.reduceAdd]
    refine ⟨fun hh w8 hi hK hG hW hV => ?_, fun hh w8 hi hK hG hW hV => ?_, fun hh w8 hi hK hG hW hV => ?_, fun hh w8 hi hK hG hW hV => ?_, fun hh w8 hi hK hG hW hV => ?_, fun hh w8 hi hK hG hW hV => ?_, fun hh w8 hi hK hG hW hV => ?_, fun hh w8 hi hK hG hW hV => ?_, fun hh w8 hi hK hG hW hV => ?_, fun hh w8 hi hK hG hW hV => ?_, fun hh w8 hi hK hG hW hV => ?_, fun hh w8 hi hK hG hW hV => ?_, fun hh w8 hi hK hG hW hV => ?_, fun hh w8 hi hK hG hW hV => ?_, trivial⟩
    · refine stepS_early (by decide) (by decide) hK hi (stepS_of rfl ?_)
      clear hW hV hK hi
      exact stepAt_load_cfg rfl rfl rfl (.tmp 4) rfl D cs rfl (HC.out.below hG HC.out.lt) HCL.out ⟨rfl, .inl (Below.refl _ _)⟩
    · refine stepS_early (by decide) (by decide) hK hi (stepS_of rfl ?_)
      clear hW hV hK hi
      refine stepAt_value rfl rfl rfl (.int .i64 a) w8 ?_ ⟨rfl, .inl (Below.refl _ _)⟩
      go_simp
    · refine stepS_early (by decide) (by decide) hK hi (stepS_of rfl ?_)
      clear hW hV hK hi
      exact stepAt_load_cells rfl rfl rfl 26 (.tmp 6) rfl R 0 (bv T) rfl 32 5 (fun j v hj => by rw [Nat.zero_add]; exact ((HR.out.below hG HR.out.lt).cell j).trans hj) Tryd.underlying26 (root_size hTl) ⟨rfl, .inl (Below.refl _ _)⟩
    · refine stepS_early (by decide) (by decide) hK hi (stepS_of rfl ?_)
      clear hW hV hK hi
      refine stepAt_value rfl rfl rfl (.slice (some ⟨kb, ko, none⟩) C kcap) w8 ?_ ⟨rfl, .inl (Below.refl _ _)⟩
      go_simp
    · refine stepS_early (by decide) (by decide) hK hi (stepS_of rfl ?_)
      clear hW hV hK hi
      refine stepAt_value rfl rfl rfl (.int .i64 (q : Int)) w8 ?_ ⟨rfl, .inl (Below.refl _ _)⟩
      go_simp
    · refine stepS_early (by decide) (by decide) hK hi (stepS_of rfl ?_)
      have q3 := hV 3 (hW 3 (by decide)) rfl
      simp only at q3
      have q4 := hV 4 (hW 4 (by decide)) rfl
      simp only at q4
      rw [q3, q4]
      clear hW hV hK hi
      refine stepAt_value rfl rfl rfl (.pointer (some ⟨kb, ko + q, none⟩)) w8 ?_ ⟨rfl, .inl (Below.refl _ _)⟩
      go_simp
    · refine stepS_early (by decide) (by decide) hK hi (stepS_of rfl ?_)
      have q5 := hV 5 (hW 5 (by decide)) rfl
      simp only at q5
      rw [q5]
      clear hW hV hK hi
      refine stepAt_value rfl rfl rfl (.int .i64 (x : Int)) w8 ?_ ⟨rfl, .inl (Below.refl _ _)⟩
      have hh := (hG.cell (p := ⟨kb, ko + q, none⟩) HKB.out).trans HKX.out
      go_simp
    · refine stepS_early (by decide) (by decide) hK hi (stepS_of rfl ?_)
      have q1 := hV 1 (hW 1 (by decide)) rfl
      simp only at q1
      have q2 := hV 2 (hW 2 (by decide)) rfl
      simp only at q2
      have q6 := hV 6 (hW 6 (by decide)) rfl
      simp only at q6
      rw [q1, q2, q6]
      clear hW hV hK hi
      refine stepAt_build rfl rfl rfl 32 _ rfl (mc (voteM SM x) (.slice none 0 0)).toArray ?_ ⟨rfl, .inl (Below.refl _ _)⟩
      simp only [List.map_toArray, List.map_cons, List.map_nil]
      exact HVB.out
    · refine stepS_early (by decide) (by decide) hK hi (stepS_of rfl ?_)
      have q0 := hV 0 (hW 0 (by decide)) rfl
      simp only at q0
      have q7 := hV 7 (hW 7 (by decide)) rfl
      simp only at q7
      rw [q0, q7]
      clear hW hV hK hi
      refine stepAt_call rfl rfl rfl 21 #[.agg cs.toArray, .agg (mc (voteM SM x) (.slice none 0 0)).toArray] (by go_simp) ((HSW.out w8 (HT.out.below (HB.out.trans (hG.mono HB.out.size)) HT.out.size) (HOK.out _ (HCI.out.below (HB.out.trans (hG.mono HB.out.size))))).mono fun e w' ⟨su2, h1, h2, h3⟩ => by
      rw [HL2.out] at h2
      obtain ⟨ao, cap, e2, h4⟩ := brow_form0 h2
      rw [e2] at h1
      exact ⟨_, h1, ⟨⟨ao, cap, rfl, h4⟩, .inl h3⟩⟩)
    · refine stepS_early (by decide) (by decide) hK hi (stepS_of rfl ?_)
      obtain ⟨ao, cap, h8, hcap⟩ := hV 8 (hW 8 (by decide)) rfl
      rw [h8]
      clear hW hV hK hi
      refine stepAt_value rfl rfl rfl (.tuple #[.agg (mc A2 (.slice ao 0 cap)).toArray, .bool true]) w8 ?_ ⟨⟨ao, cap, rfl, hcap⟩, .inl (Below.refl _ _)⟩
      go_simp
    · refine stepS_early (by decide) (by decide) hK hi (stepS_of rfl ?_)
      obtain ⟨ao, cap, h9, hcap⟩ := hV 9 (hW 9 (by decide)) rfl
      rw [h9]
      clear hW hV hK hi
      refine stepAt_value rfl rfl rfl (.agg (mc A2 (.slice ao 0 cap)).toArray) w8 ?_ ⟨⟨ao, cap, rfl, hcap⟩, .inl (Below.refl _ _)⟩
      go_simp
    · refine stepS_late (by decide) (fun v ht => by
      obtain ⟨g, ao, cap, h1, h2⟩ := ht
      exact ⟨g, ao, cap, by rw [turnTo_ne (by decide)]; exact h1, h2⟩) (stepS_of rfl ?_)
      obtain ⟨ao, cap, h9, hcap⟩ := hV 9 (hW 9 (by decide)) rfl
      rw [h9]
      clear hW hV hK hi
      refine stepAt_value rfl rfl rfl (.bool true) w8 ?_ ⟨rfl, rfl⟩
      go_simp
    · refine stepS_early (by decide) (by decide) hK hi (stepS_of rfl ?_)
      clear hW hV hK hi
      refine stepAt_value rfl rfl rfl (.pointer (some ⟨w8.heap.size, 0, none⟩)) (w8.alloc (.cells zcells 32)) ?_ ⟨⟨_, rfl, hG.size, zero_msg w8⟩, .inl ((Below.refl _ _).alloc (Nat.le_refl _) _)⟩
      rw [← zcells_lit]
      go_simp
    · obtain ⟨g, hg, hgb, hblk⟩ := hV 12 (hW 12 (by decide)) hi
      obtain ⟨ao, cap, h10, hcap⟩ := hV 10 (hW 10 (by decide)) rfl
      rw [hg, h10]
      refine stepS_store_msg rfl rfl (.tmp 14) (.tmp 71) rfl g zeroMsg A2 (.slice none 0 0) (.slice ao 0 cap) rfl rfl hblk zeroMsg_fits HF2.out rfl ⟨⟨trivial, .inr ⟨below_setRow hG hgb _, fun j hj hd => ?_⟩⟩, fun _ => ⟨g, ao, cap, by rw [turnTo_ne (by decide)]; exact hg, hgb, hblk.setRow (mc A2 (.slice ao 0 cap)), hcap⟩, fun hm => absurd hm (by rw [hi]; simp)⟩
      match j, hj, hd with
      | 0, hj, _ => exact hV 0 hj rfl
      | 1, hj, _ => exact hV 1 hj rfl
      | 2, hj, _ => exact hV 2 hj rfl
      | 3, hj, _ => exact hV 3 hj rfl
      | 4, hj, _ => exact hV 4 hj rfl
      | 5, hj, _ => exact hV 5 hj rfl
      | 6, hj, _ => exact hV 6 hj rfl
      | 7, hj, _ => exact hV 7 hj rfl
      | 8, hj, _ => exact hV 8 hj rfl
      | 9, hj, _ => exact hV 9 hj rfl
      | 10, hj, _ => exact hV 10 hj rfl
      | 11, hj, _ => exact hV 11 hj rfl
      | 12, _, hd => exact absurd hd (by simp [turnOn])
      | 13, _, _ => trivial
      | _ + 14, _, _ => trivial
  case fin =>
    intro hh vals w8 hall hG hV hTT
    obtain ⟨X2, ao2, cap2, hs12, hx2, hblk, hcap⟩ := hTT
    have q11 : vals 11 = .bool true := hV 11 (hall 11 (by omega)) rfl
    simp only [List.take_succ_cons, List.take_zero, List.drop_succ_cons, List.drop_zero, putAll, Act.put, List.setIfInBounds_toArray, List.set_cons_zero, List.set_cons_succ, Nat.reduceAdd]
    rw [hs12, q11]
    clear hV q11 hs12 hall
    generalize vals 0 = x0
    generalize vals 1 = x1
    generalize vals 2 = x2
    generalize vals 3 = x3
    generalize vals 4 = x4
    generalize vals 5 = x5
    generalize vals 6 = x6
    generalize vals 7 = x7
    generalize vals 8 = x8
    generalize vals 9 = x9
    generalize vals 10 = x10
    replace HC := Lib.hid (HC.out.below hG HC.out.lt)
    replace HR := Lib.hid (HR.out.below hG HR.out.lt)
    replace HX1 := Lib.hid (HX1.out.below hG HX1.out.lt)
    replace HB := Lib.hid (HB.out.trans (hG.mono HB.out.size))
    replace HS1 := Lib.hid (HS1.out.bits hG)
    have HX2 := Lib.hid hblk
    have HS2 := Lib.hid (show BRow w8 w8.heap.size (.slice ao2 0 cap2) A2.l by rw [HL2.out]; exact brow_nil hcap)
    clear hG hblk hx2 hcap
    have HVT1 := fun (W : World) (hT : Tabs W) (hc : CfgOk W cs C vs) (hr : BRow W W.heap.size su A1.l) => votes_any W hT hc A1 su HF1.out hr
    have HVT2 := fun (W : World) (hT : Tabs W) (hc : CfgOk W cs C vs) (hr : BRow W W.heap.size (.slice ao2 0 cap2) A2.l) => votes_any W hT hc A2 (.slice ao2 0 cap2) HF2.out hr
    simp only [HV1.out, HV2.out] at HVT1 HVT2
    replace HVT1 := Lib.hid HVT1
    replace HVT2 := Lib.hid HVT2
    have HVO := Lib.hid (show Vots [(x, a, T)] by intro y hy; rw [List.mem_singleton] at hy; rw [hy]; exact hTl)
    go_upto_region 13 with fail
    refine wp_region_free (P := Tryd.prog) 27 (fun w' => Below w8.heap.size w8 w') (fun oq v w' => match oq with
        | 0 => v = .bool true
        | 1 => v = .bool true
        | 2 => v = .bool true
        | 3 => v = .bool true
        | 4 => v = .bool true
        | 5 => v = .pointer (some ⟨X1, 37, none⟩)
        | 6 => v = .agg (bv TG).toArray
        | 7 => v = .pointer (some ⟨X2, 37, none⟩)
        | 8 => v = .agg (bv TG).toArray
        | 9 => v = .bool true
        | 10 => v = .bool true
        | 11 => v = .bool true
        | 12 => v = .agg cs.toArray
        | 13 => v = .agg (mc A1 su).toArray
        | 14 => VRow w' v [(x, a, T)]
        | 15 => v = .agg cs.toArray
        | 16 => v = .agg (mc A2 (.slice ao2 0 cap2)).toArray
        | 17 => VRow w' v [(x, a, T)]
        | 18 => v = .bool true
        | 19 => v = .bool true
        | 20 => v = .bool true
        | 21 => v = .agg cs.toArray
        | 22 => v = .agg (mc A1 su).toArray
        | 23 => VRow w' v [(x, a, T)]
        | 24 => v = .int .i64 1
        | 25 => v = .bool true
        | 26 => v = .bool true
        | _ => True) (by kernel_rfl) (by kernel_rfl) (Below.refl _ _).drew ?gb ?vb ?steps ?fin
    case gb => exact fun a b h1 h2 => h1.trans (h2.mono h1.size)
    case vb =>
      intro oq v a b h hb
      match oq with
      | 0 => exact h
      | 1 => exact h
      | 2 => exact h
      | 3 => exact h
      | 4 => exact h
      | 5 => exact h
      | 6 => exact h
      | 7 => exact h
      | 8 => exact h
      | 9 => exact h
      | 10 => exact h
      | 11 => exact h
      | 12 => exact h
      | 13 => exact h
      | 14 => exact h.keep hb
      | 15 => exact h
      | 16 => exact h
      | 17 => exact h.keep hb
      | 18 => exact h
      | 19 => exact h
      | 20 => exact h
      | 21 => exact h
      | 22 => exact h
      | 23 => exact h.keep hb
      | 24 => exact h
      | 25 => exact h
      | 26 => exact h
      | _ + 27 => trivial
    case steps =>
      intro vals
      simp only [List.take_succ_cons, List.take_zero, freeSteps, Act.put, List.setIfInBounds_toArray, List.set_cons_zero, List.set_cons_succ, Nat.reduceAdd]
      refine ⟨fun wz hG hW => ?_, fun wz hG hW => ?_, fun wz hG hW => ?_, fun wz hG hW => ?_, fun wz hG hW => ?_, fun wz hG hW => ?_, fun wz hG hW => ?_, fun wz hG hW => ?_, fun wz hG hW => ?_, fun wz hG hW => ?_, fun wz hG hW => ?_, fun wz hG hW => ?_, fun wz hG hW => ?_, fun wz hG hW => ?_, fun wz hG hW => ?_, fun wz hG hW => ?_, fun wz hG hW => ?_, fun wz hG hW => ?_, fun wz hG hW => ?_, fun wz hG hW => ?_, fun wz hG hW => ?_, fun wz hG hW => ?_, fun wz hG hW => ?_, fun wz hG hW => ?_, fun wz hG hW => ?_, fun wz hG hW => ?_, fun wz hG hW => ?_, trivial⟩
      · clear hW
        refine stepAt_value rfl rfl rfl (.bool true) wz ?_ ⟨rfl, Below.refl _ _⟩
        go_simp
      · have q0 := hW 0 (by decide)
        simp only at q0
        rw [q0]
        clear hW
        refine stepAt_value rfl rfl rfl (.bool true) wz ?_ ⟨rfl, Below.refl _ _⟩
        go_simp
      · have q1 := hW 1 (by decide)
        simp only at q1
        rw [q1]
        clear hW
        refine stepAt_value rfl rfl rfl (.bool true) wz ?_ ⟨rfl, Below.refl _ _⟩
        go_simp
      · have q1 := hW 1 (by decide)
        simp only at q1
        have q2 := hW 2 (by decide)
        simp only at q2
        rw [q1, q2]
        clear hW
        refine stepAt_value rfl rfl rfl (.bool true) wz ?_ ⟨rfl, Below.refl _ _⟩
        go_simp
      · have q3 := hW 3 (by decide)
        simp only at q3
        rw [q3]
        clear hW
        refine stepAt_value rfl rfl rfl (.bool true) wz ?_ ⟨rfl, Below.refl _ _⟩
        go_simp
      · have q4 := hW 4 (by decide)
        simp only at q4
        rw [q4]
        clear hW
        refine stepAt_value rfl rfl rfl (.pointer (some ⟨X1, 37, none⟩)) wz ?_ ⟨rfl, Below.refl _ _⟩
        go_simp
      · have q4 := hW 4 (by decide)
        simp only at q4
        have q5 := hW 5 (by decide)
        simp only at q5
        rw [q4, q5]
        clear hW
        exact stepAt_load_cells rfl rfl rfl 30 (.tmp 78) rfl X1 37 (bv TG) rfl 16 5 (fun j v hj => ((HX1.out.below hG HX1.out.lt).cell (37 + j)).trans (mc_G HF1.out su j v (by rw [HG1.out]; exact hj))) Tryd.underlying30 (tag_size HTGl.out) ⟨rfl, Below.refl _ _⟩
      · have q4 := hW 4 (by decide)
        simp only at q4
        rw [q4]
        clear hW
        refine stepAt_value rfl rfl rfl (.pointer (some ⟨X2, 37, none⟩)) wz ?_ ⟨rfl, Below.refl _ _⟩
        go_simp
      · have q4 := hW 4 (by decide)
        simp only at q4
        have q7 := hW 7 (by decide)
        simp only at q7
        rw [q4, q7]
        clear hW
        exact stepAt_load_cells rfl rfl rfl 30 (.tmp 80) rfl X2 37 (bv TG) rfl 16 5 (fun j v hj => ((HX2.out.below hG HX2.out.lt).cell (37 + j)).trans (mc_G HF2.out (.slice ao2 0 cap2) j v (by rw [HG2.out]; exact hj))) Tryd.underlying30 (tag_size HTGl.out) ⟨rfl, Below.refl _ _⟩
      · have q4 := hW 4 (by decide)
        simp only at q4
        have q6 := hW 6 (by decide)
        simp only at q6
        have q8 := hW 8 (by decide)
        simp only at q8
        rw [q4, q6, q8]
        clear hW
        refine stepAt_value rfl rfl rfl (.bool true) wz ?_ ⟨rfl, Below.refl _ _⟩
        have hh := tag_eq wz TG TG HTGl.out HTGl.out
        rw [beq_self_eq_true] at hh
        go_simp
      · have q4 := hW 4 (by decide)
        simp only at q4
        have q9 := hW 9 (by decide)
        simp only at q9
        rw [q4, q9]
        clear hW
        refine stepAt_value rfl rfl rfl (.bool true) wz ?_ ⟨rfl, Below.refl _ _⟩
        go_simp
      · have q10 := hW 10 (by decide)
        simp only at q10
        rw [q10]
        clear hW
        refine stepAt_value rfl rfl rfl (.bool true) wz ?_ ⟨rfl, Below.refl _ _⟩
        go_simp
      · have q11 := hW 11 (by decide)
        simp only at q11
        rw [q11]
        clear hW
        exact stepAt_load_cfg rfl rfl rfl (.tmp 4) rfl D cs rfl (HC.out.below hG HC.out.lt) HCL.out ⟨rfl, Below.refl _ _⟩
      · have q11 := hW 11 (by decide)
        simp only at q11
        rw [q11]
        clear hW
        exact stepAt_load_msg rfl rfl rfl (.tmp 12) rfl X1 A1 su rfl (HX1.out.below hG HX1.out.lt) HF1.out ⟨rfl, Below.refl _ _⟩
      · have q11 := hW 11 (by decide)
        simp only at q11
        have q12 := hW 12 (by decide)
        simp only at q12
        have q13 := hW 13 (by decide)
        simp only at q13
        rw [q11, q12, q13]
        clear hW
        refine stepAt_call rfl rfl rfl 19 #[.agg cs.toArray, .agg (mc A1 su).toArray] (by go_simp) ((HVT1.out wz (HT.out.below (HB.out.trans (hG.mono HB.out.size)) HT.out.size) (HOK.out _ (HCI.out.below (HB.out.trans (hG.mono HB.out.size)))) (HS1.out.bits hG)).mono fun e w' ⟨v, h1, h2, h3⟩ => ⟨_, h1, h2.vrow HVO.out, h3⟩)
      · have q11 := hW 11 (by decide)
        simp only at q11
        rw [q11]
        clear hW
        exact stepAt_load_cfg rfl rfl rfl (.tmp 4) rfl D cs rfl (HC.out.below hG HC.out.lt) HCL.out ⟨rfl, Below.refl _ _⟩
      · have q11 := hW 11 (by decide)
        simp only at q11
        rw [q11]
        clear hW
        exact stepAt_load_msg rfl rfl rfl (.tmp 14) rfl X2 A2 (.slice ao2 0 cap2) rfl (HX2.out.below hG HX2.out.lt) HF2.out ⟨rfl, Below.refl _ _⟩
      · have q11 := hW 11 (by decide)
        simp only at q11
        have q15 := hW 15 (by decide)
        simp only at q15
        have q16 := hW 16 (by decide)
        simp only at q16
        rw [q11, q15, q16]
        clear hW
        refine stepAt_call rfl rfl rfl 19 #[.agg cs.toArray, .agg (mc A2 (.slice ao2 0 cap2)).toArray] (by go_simp) ((HVT2.out wz (HT.out.below (HB.out.trans (hG.mono HB.out.size)) HT.out.size) (HOK.out _ (HCI.out.below (HB.out.trans (hG.mono HB.out.size)))) (HS2.out.bits hG)).mono fun e w' ⟨v, h1, h2, h3⟩ => ⟨_, h1, h2.vrow HVO.out, h3⟩)
      · have h14 : VRow wz (vals 14) [(x, a, T)] := hW 14 (by decide)
        have h17 : VRow wz (vals 17) [(x, a, T)] := hW 17 (by decide)
        have q11 := hW 11 (by decide)
        simp only at q11
        rw [q11]
        clear hW
        refine stepAt_call rfl rfl rfl 18 #[vals 14, vals 17] (by go_simp) ((vsame_row h14 h17 (by simp)).mono fun e w' ⟨h1, h2⟩ => ⟨_, h1, by simp, h2⟩)
      · have q11 := hW 11 (by decide)
        simp only at q11
        have q18 := hW 18 (by decide)
        simp only at q18
        rw [q11, q18]
        clear hW
        refine stepAt_value rfl rfl rfl (.bool true) wz ?_ ⟨rfl, Below.refl _ _⟩
        go_simp
      · have q19 := hW 19 (by decide)
        simp only at q19
        rw [q19]
        clear hW
        refine stepAt_value rfl rfl rfl (.bool true) wz ?_ ⟨rfl, Below.refl _ _⟩
        go_simp
      · have q20 := hW 20 (by decide)
        simp only at q20
        rw [q20]
        clear hW
        exact stepAt_load_cfg rfl rfl rfl (.tmp 4) rfl D cs rfl (HC.out.below hG HC.out.lt) HCL.out ⟨rfl, Below.refl _ _⟩
      · have q20 := hW 20 (by decide)
        simp only at q20
        rw [q20]
        clear hW
        exact stepAt_load_msg rfl rfl rfl (.tmp 12) rfl X1 A1 su rfl (HX1.out.below hG HX1.out.lt) HF1.out ⟨rfl, Below.refl _ _⟩
      · have q20 := hW 20 (by decide)
        simp only at q20
        have q21 := hW 21 (by decide)
        simp only at q21
        have q22 := hW 22 (by decide)
        simp only at q22
        rw [q20, q21, q22]
        clear hW
        refine stepAt_call rfl rfl rfl 19 #[.agg cs.toArray, .agg (mc A1 su).toArray] (by go_simp) ((HVT1.out wz (HT.out.below (HB.out.trans (hG.mono HB.out.size)) HT.out.size) (HOK.out _ (HCI.out.below (HB.out.trans (hG.mono HB.out.size)))) (HS1.out.bits hG)).mono fun e w' ⟨v, h1, h2, h3⟩ => ⟨_, h1, h2.vrow HVO.out, h3⟩)
      · obtain ⟨_, lao, lcap, lb, lo, hsl, _⟩ : VRow wz (vals 23) [(x, a, T)] := hW 23 (by decide)
        rw [hsl, List.length_singleton]
        have q20 := hW 20 (by decide)
        simp only at q20
        rw [q20]
        clear hW
        refine stepAt_value rfl rfl rfl (.int .i64 1) wz ?_ ⟨rfl, Below.refl _ _⟩
        go_simp
      · have q20 := hW 20 (by decide)
        simp only at q20
        have q24 := hW 24 (by decide)
        simp only at q24
        rw [q20, q24]
        clear hW
        refine stepAt_value rfl rfl rfl (.bool true) wz ?_ ⟨rfl, Below.refl _ _⟩
        go_simp
      · have q20 := hW 20 (by decide)
        simp only at q20
        have q25 := hW 25 (by decide)
        simp only at q25
        rw [q20, q25]
        clear hW
        refine stepAt_value rfl rfl rfl (.bool true) wz ?_ ⟨rfl, Below.refl _ _⟩
        go_simp
    case fin =>
      intro vals w9 hG hV
      have qF : vals 26 = .bool true := hV 26 (by omega)
      simp only [List.take_succ_cons, List.take_zero, List.drop_succ_cons, List.drop_zero, putAll, Act.put, List.setIfInBounds_toArray, List.set_cons_zero, List.set_cons_succ, Nat.reduceAdd]
      rw [qF]
      clear hV qF
      generalize vals 0 = y0
      generalize vals 1 = y1
      generalize vals 2 = y2
      generalize vals 3 = y3
      generalize vals 4 = y4
      generalize vals 5 = y5
      generalize vals 6 = y6
      generalize vals 7 = y7
      generalize vals 8 = y8
      generalize vals 9 = y9
      generalize vals 10 = y10
      generalize vals 11 = y11
      generalize vals 12 = y12
      generalize vals 13 = y13
      generalize vals 14 = y14
      generalize vals 15 = y15
      generalize vals 16 = y16
      generalize vals 17 = y17
      generalize vals 18 = y18
      generalize vals 19 = y19
      generalize vals 20 = y20
      generalize vals 21 = y21
      generalize vals 22 = y22
      generalize vals 23 = y23
      generalize vals 24 = y24
      generalize vals 25 = y25
      have HBF := Lib.hid (HB.out.trans (hG.mono HB.out.size))
      clear hG
      go_wp2_with fail
      go_ret
      exact ⟨rfl, HBF.out⟩
end Go.Proofs.YtnbdpalbompjlaaDoor
