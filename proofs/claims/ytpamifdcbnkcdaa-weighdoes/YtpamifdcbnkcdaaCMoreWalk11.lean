/-
  The texts MoreWalk11, one behind the other.
-/
import Derived.Test.YtpamifdcbnkcdaaDoesM16
import Derived.Test.YtpamifdcbnkcdaaDoesM10
import Derived.Test.YtpamifdcbnkcdaaDoesM1
/-
  The walk of WeighMore.
-/
namespace Go.Proofs.Ytpamifdcbnkcdaa
open Go Go.RowKit
set_option maxRecDepth 10000

attribute [local go_sem] root_eqW
theorem src_z {P : Program} (w : World) (t : TypeId) (ht : P.underlying t = some (.slice 3)) (x : Int) : Src P 1 t (.slice (some ⟨w.heap.size, 0, none⟩) 1 1) 1 (zv [x]) (w.alloc (.cells #[.int .i64 x] 3)) := by
  refine Src.ofSlice _ ht _ 1 1 _ rfl ?_ (fun v hv => by simp [zv] at hv; subst hv; rfl)
  intro i y hi
  match i, hi with
  | 0, hi => simp [zv] at hi; subst hi; simp [Addr.add]
theorem pick_at (a : Int) (n : Nat) (h0 : 0 < n) (hn : n ≤ 1000) : ∃ J : Nat, wrap64 ((IntKind.u64.wrap a).tmod (n : Int)) = (J : Int) ∧ J < n := by
  have hu : 0 ≤ IntKind.u64.wrap a := by simp [IntKind.wrap, IntKind.bits, IntKind.signed]; omega
  have h1 : 0 ≤ (IntKind.u64.wrap a) % (n : Int) := Int.emod_nonneg _ (by omega)
  have h2 : (IntKind.u64.wrap a) % (n : Int) < (n : Int) := Int.emod_lt_of_pos _ (by omega)
  refine ⟨((IntKind.u64.wrap a) % (n : Int)).toNat, ?_, by omega⟩
  rw [Int.tmod_eq_emod_of_nonneg hu]
  unfold wrap64
  omega

set_option maxHeartbeats 16000000 in
theorem more_any (w : World) (ao : Option Addr) (len cap g off : Nat) (l : List Ac) (a1 a2 : Int) (hl : l.length = len) (h : Lies w w.heap.size ao g off (acvs l)) :
    Calls Try.prog 6 #[.slice ao len cap, .int .i64 a1, .int .i64 a2] w fun e w' => e = .returned (.bool true) ∧ Below w.heap.size w w' := by
  have HL0 := Lib.hid h
  have HN := Lib.hid hl
  clear h hl
  go_enter Try.func6, Try.ntmps6
  go_wp2_with fail
  refine (alive_any w).mono ?_
  rintro e w1 ⟨rfl, hbc⟩
  have HB := Lib.hid hbc
  clear hbc
  by_cases h1 : (60 : Int) < (len : Int)
  · go_wp2_with fail
    go_ret
    exact ⟨rfl, HB.out⟩
  by_cases h2 : a2 < 0
  · go_wp2_with fail
    go_ret
    exact ⟨rfl, HB.out⟩
  by_cases h3 : 1099511627776 < a2
  · go_wp2_with fail
    go_ret
    exact ⟨rfl, HB.out⟩
  have HLIM := Lib.hid (show len ≤ 60 by omega)
  have HMB := Lib.hid (show 0 ≤ a2 ∧ a2 ≤ 1099511627776 by omega)
  go_wp2_with fail
  refine (begun_any w1).mono ?_
  rintro e w2 ⟨tb, wb, mb, rb, rfl, hp, hbc⟩
  have HB1 := Lib.hid HB.out.size
  obtain ⟨B, hBB⟩ : ∃ B, B = w1.heap.size := ⟨_, rfl⟩
  rw [← hBB] at hp HB1
  have HP0 := Lib.hid hp
  replace HB := Lib.hid (HB.out.trans (hbc.mono HB.out.size))
  clear hbc hp hBB
  have HX0 := Lib.hid (show Blk (w2.alloc (.cells #[.pointer none, .pointer none, .pointer none] 37)) w2.heap.size 37 [.pointer none, .pointer none, .pointer none] from Blk.new w2 37 #[.pointer none, .pointer none, .pointer none])
  have hbx : Below w2.heap.size w2 ((w2.alloc (.cells #[.pointer none, .pointer none, .pointer none] 37)).setRow w2.heap.size (prv tb wb rb).toArray) := below_row ((Below.refl _ w2).alloc (Nat.le_refl _) _) (Nat.le_refl _) _
  have HX := Lib.hid (HX0.out.setRow (prv tb wb rb))
  obtain ⟨X, hX⟩ : ∃ X, X = w2.heap.size := ⟨_, rfl⟩
  have HP := Lib.hid (HP0.out.more hbx (K' := [X]) (fun k hk => by simp at hk; omega) (fun k hk => by simp at hk; rw [hk, hX]; exact HX.out.lt))
  replace HB := Lib.hid (HB.out.trans (hbx.mono HB.out.size))
  clear hbx HP0
  go_upto_region 6 with ((with_reducible refine wpList_store_pair (.tmp 7) (.tmp 34) ?_ ?_ w2.heap.size tb wb rb ?_ ?_ HX0.out ?_); rfl; rfl; rfl; rfl)
  try simp only [Act.put]
  rw [← hX] at HX HB ⊢
  rw [← hX] at HP
  generalize (w2.alloc (.cells #[.pointer none, .pointer none, .pointer none] 37)).setRow X (prv tb wb rb).toArray = w3 at HX HP HB ⊢
  clear hX HX0
  rw [List.append_nil] at HP
  go_wp2_with fail
  go_loopw [37] (fun i wr => ∃ k : Nat, k ≤ len ∧ i = .int .i64 k ∧ Hid (PSX B [X] wr tb wb mb rb (doAll (root11, [0]) (l.take k)).1 (doAll (root11, [0]) (l.take k)).1 (doAll (root11, [0]) (l.take k)).2 (doAll (root11, [0]) (l.take k)).2) ∧ Hid (Blk wr X 37 (prv tb wb rb)) ∧ Hid (Below w.heap.size w wr)) (fun i _ => len - (intOf i).toNat)
  case atStart => exact ⟨0, Nat.zero_le _, rfl, HP, HX, HB⟩
  case round =>
    clear HP HX HB
    obtain ⟨k, hk, rfl, HP, HX, HB⟩ := hrel
    by_cases hlt : k < len
    · obtain ⟨a, ha⟩ : ∃ a, l[k]? = some a := ⟨_, List.getElem?_eq_getElem (by rw [HN.out]; exact hlt)⟩
      obtain ⟨hao, hca⟩ := (HL0.out.keep HB.out).act ha
      subst hao
      have HCA := Lib.hid hca
      have HNX := Lib.hid (doAll_next (x := (root11, [0])) ha)
      have HWR := Lib.hid (show wrap64 ((k : Int) + 1) = ((k + 1 : Nat) : Int) by have := HLIM.out; unfold wrap64; omega)
      clear ha hca
      obtain ⟨V, hV⟩ : ∃ V, V = wr.heap.size := ⟨_, rfl⟩
      have HV0 := Lib.hid (show Blk (wr.alloc (.cells #[.int .i64 0, .int .i64 0, .int .i64 0, .int .i64 0, .int .i64 0, .int .i64 0] 40)) wr.heap.size 40 (acv ac0) from Blk.new wr 40 (acv ac0).toArray)
      have hbx : Below wr.heap.size wr ((wr.alloc (.cells #[.int .i64 0, .int .i64 0, .int .i64 0, .int .i64 0, .int .i64 0, .int .i64 0] 40)).setRow wr.heap.size (acv a).toArray) := below_row ((Below.refl _ wr).alloc (Nat.le_refl _) _) (Nat.le_refl _) _
      have HV := Lib.hid (HV0.out.setRow (acv a))
      replace HP := Lib.hid (HP.out.below hbx)
      replace HX := Lib.hid (HX.out.below hbx HX.out.lt)
      replace HB := Lib.hid (HB.out.trans (hbx.mono HB.out.size))
      clear hbx
      go_upto_region 9 with (first
        | ((with_reducible refine wpList_load_act (.tmp 39) ?_ ?_ g (off + k * 6) a ?_ HCA.out ?_); rfl; rfl; rfl)
        | ((with_reducible refine wpList_store_act (.tmp 9) (.tmp 40) ?_ ?_ wr.heap.size ac0 a ?_ ?_ HV0.out ?_); rfl; rfl; rfl; rfl))
      try simp only [Act.put]
      rw [← hV] at HV HP HX HB ⊢
      generalize (wr.alloc (.cells #[.int .i64 0, .int .i64 0, .int .i64 0, .int .i64 0, .int .i64 0, .int .i64 0] 40)).setRow V (acv a).toArray = w5 at HV HP HX HB ⊢
      clear hV HV0 HCA
      have HVA := Lib.hid (show ∀ j v, (acv a)[j]? = some v → w5.cell? ⟨V, 0 + j, none⟩ = some v from fun j v hj => by rw [Nat.zero_add, HV.out.cell]; exact hj)
      go_wp2_with (first
        | ((with_reducible refine wpList_load_pair (.tmp 7) ?_ ?_ X tb wb rb ?_ HX.out ?_); rfl; rfl; rfl)
        | ((with_reducible refine wpList_load_act (.tmp 9) ?_ ?_ V 0 a ?_ HVA.out ?_); rfl; rfl; rfl))
      refine (do_any w5 B [X] tb wb mb rb _ _ a HP.out).mono ?_
      rintro e w6 ⟨rfl, hp6, hb6, hk6⟩
      have HP2 := Lib.hid (show PSX B [X] w6 tb wb mb rb (doAll (root11, [0]) (l.take (k + 1))).1 (doAll (root11, [0]) (l.take (k + 1))).1 (doAll (root11, [0]) (l.take (k + 1))).2 (doAll (root11, [0]) (l.take (k + 1))).2 by rw [HNX.out]; exact hp6)
      have HX2 := Lib.hid (hk6.blk HX.out (by simp))
      have HB2 := Lib.hid (HB.out.trans (hb6.mono HB1.out))
      clear hp6 hb6 hk6 HP HX HB HV HVA HNX
      go_wp2_with fail
      go_roundw
      case rel => exact ⟨k + 1, by omega, by first | rw [HWR.out] | rw [Int.natCast_succ], HP2, HX2, HB2⟩
      case measure => exact measK len k 1 _ (by first | exact HWR.out | rw [Int.natCast_succ]) hlt (by omega)
    · have hge : ¬ (k : Int) < (len : Int) := by omega
      have HR0 := Lib.hid (doAll_root (l.take k))
      generalize doAll (root11, [0]) (l.take k) = x at HP HR0
      obtain ⟨t, own⟩ := x
      simp only at HP HR0
      have HGD := Lib.hid HP.out.good
      clear hlt
      have kp := HX.out.cell 1
      simp only [prv, List.getElem?_cons_succ, List.getElem?_cons_zero] at kp
      go_wp2_with fail
      refine (HP.out.apply [] none 0 0 0 (fun d hd => by cases hd) (by simp) ⟨fun h => absurd h (by simp [dvs]), fun h => absurd h (by simp [dvs]), fun j u h => by simp [dvs] at h⟩ (fun h => absurd h (by simp))).mono ?_
      rintro e wa ⟨rfl, hp, hb, hk⟩
      rw [appW_none HP.out.ownG.1] at hp
      rw [appW_none HP.out.ownG.1]
      have HPL := Lib.hid (padW_length HP.out.ownG.2.1)
      have HPN := Lib.hid hp
      have HXN := Lib.hid (hk.blk HX.out (by simp))
      replace HB := Lib.hid (HB.out.trans (hb.mono HB1.out))
      clear hp hb hk kp HP HX
      have HP := HPN
      have HX := HXN
      clear HPN HXN
      obtain ⟨o2, ho2⟩ : ∃ o2, o2 = padW t own := ⟨_, rfl⟩
      rw [← ho2] at HP HPL
      have HOG := Lib.hid HP.out.ownG.1
      have HM256 := Lib.hid (show t.length ≤ 256 ∧ 1 ≤ t.length by have := HGD.out.room; have := HGD.out.most256; have := HGD.out.pos; omega)
      clear ho2 h1 h2 h3
      have kp0 := HX.out.cell 0
      simp only [prv, List.getElem?_cons_zero] at kp0
      go_wp2_with fail
      refine HP.out.roots.mono ?_
      rintro e w4 ⟨v, rfl, hv, hbc⟩
      clear kp0
      have HRT := Lib.hid HGD.out.rts
      have HRL := Lib.hid (rs_length t)
      obtain ⟨ro, rcap, rg, roff, rfl, hrl⟩ := wide_names hv HRT.out
      obtain ⟨hro, _⟩ := hrl.name HRT.out (rs_at HR0.out)
      subst hro
      have hrg : rg < w4.heap.size := hrl.lt (by rw [rv_length _ HRT.out, rs_length]; have := HM256.out; omega)
      have hrb : wa.heap.size ≤ rg := hv.own rg rfl
      have HRW := Lib.hid hrl
      replace HP := Lib.hid (HP.out.more hbc (K' := [rg]) (fun k hk => by simp at hk; omega) (fun k hk => by simp at hk; omega))
      clear hv hrl hrg hrb
      replace HX := Lib.hid (HX.out.below hbc HX.out.lt)
      replace HB := Lib.hid (HB.out.trans (hbc.mono HB.out.size))
      clear hbc
      rw [HRL.out]
      have hne : ((t.length : Int) == 0) = false := by have := HM256.out; rw [beq_eq_false_iff_ne]; omega
      have hul : IntKind.u64.wrap (t.length : Int) = (t.length : Int) := by have := HM256.out; simp [IntKind.wrap, IntKind.bits, IntKind.signed]; omega
      have htl : ¬ (t.length : Int) = 0 := by have := HM256.out; omega
      obtain ⟨J, hJ, hjl⟩ := pick_at a1 t.length HM256.out.2 (Nat.le_trans HM256.out.1 (by omega))
      have hjl' : (J : Int) < (t.length : Int) := by omega
      obtain ⟨x, hx⟩ : ∃ x, t[J]? = some x := ⟨_, List.getElem?_eq_getElem hjl⟩
      have HXL := Lib.hid (show x.1.length = 32 from HGD.out.nds x (List.mem_of_getElem? hx))
      have HXK := Lib.hid hx
      have HJO := Lib.hid (show J < o2.length by rw [HPL.out]; exact hjl)
      have HRC := Lib.hid (HRW.out.name HRT.out (rs_at hx)).2
      clear hx
      have HZ := Lib.hid (blk_zeroR w4)
      have HZL := Lib.hid zero32_len
      have HR := Lib.hid (HZ.out.setRow (bv x.1))
      have hbx : Below w4.heap.size w4 ((w4.alloc (.cells #[.int .u8 0, .int .u8 0, .int .u8 0, .int .u8 0, .int .u8 0, .int .u8 0, .int .u8 0, .int .u8 0, .int .u8 0, .int .u8 0, .int .u8 0, .int .u8 0, .int .u8 0, .int .u8 0, .int .u8 0, .int .u8 0, .int .u8 0, .int .u8 0, .int .u8 0, .int .u8 0, .int .u8 0, .int .u8 0, .int .u8 0, .int .u8 0, .int .u8 0, .int .u8 0, .int .u8 0, .int .u8 0, .int .u8 0, .int .u8 0, .int .u8 0, .int .u8 0] 24)).setRow w4.heap.size (bv x.1).toArray) := below_row ((Below.refl _ w4).alloc (Nat.le_refl _) _) (Nat.le_refl _) _
      replace HP := Lib.hid (HP.out.more hbx (K' := [w4.heap.size]) (fun k hk => by simp at hk; omega) (fun k hk => by simp at hk; rw [hk]; exact HR.out.lt))
      replace HX := Lib.hid (HX.out.below hbx HX.out.lt)
      replace HRW := Lib.hid (HRW.out.below hbx)
      replace HB := Lib.hid (HB.out.trans (hbx.mono HB.out.size))
      clear hbx
      obtain ⟨R, hRR⟩ : ∃ R, R = w4.heap.size := ⟨_, rfl⟩
      go_upto_region 16 with (first | ((with_reducible refine wpList_load_name (.tmp 62) ?_ ?_ rg (roff + J * 32) x.1 ?_ HXL.out HRC.out ?_); rfl; rfl; rfl) | ((with_reducible refine wpList_store_name (.tmp 11) (.tmp 63) ?_ ?_ w4.heap.size zero32 x.1 ?_ ?_ HZ.out HZL.out HXL.out ?_); rfl; rfl; rfl; rfl))
      try simp only [Act.put]
      rw [← hRR] at HR HP HX HRW HB ⊢
      generalize (w4.alloc (.cells #[.int .u8 0, .int .u8 0, .int .u8 0, .int .u8 0, .int .u8 0, .int .u8 0, .int .u8 0, .int .u8 0, .int .u8 0, .int .u8 0, .int .u8 0, .int .u8 0, .int .u8 0, .int .u8 0, .int .u8 0, .int .u8 0, .int .u8 0, .int .u8 0, .int .u8 0, .int .u8 0, .int .u8 0, .int .u8 0, .int .u8 0, .int .u8 0, .int .u8 0, .int .u8 0, .int .u8 0, .int .u8 0, .int .u8 0, .int .u8 0, .int .u8 0, .int .u8 0] 24)).setRow R (bv x.1).toArray = w5 at HR HP HX HRW HB ⊢
      clear HZ HZL hRR

      clear HRC hne hul htl hJ hjl
      obtain ⟨i0, hi0, hz0, hz1, hz2⟩ := info_parts Try.info3
      obtain ⟨R0, hR0⟩ : ∃ R0, R0 = w5.heap.size := ⟨_, rfl⟩
      have HRE := Lib.hid hR0
      have HR5 := Lib.hid (show R0 ≤ w5.heap.size by omega)
      clear hR0
      have HW0 := Lib.hid (show Wide 1 w5 R0 (.slice none 0 0) (zv ((List.range 0).map (wtW t o2))) from wide_nil0 1 w5 R0)
      have HBL0 := Lib.hid (show Below R0 w5 w5 from Below.refl _ _)
      go_wp2_with fail
      go_loopw [12, 66] (fun v i wx => ∃ (k : Nat), k ≤ t.length ∧ i = .int .i64 k ∧ Hid (Wide 1 wx R0 v (zv ((List.range k).map (wtW t o2)))) ∧ Hid (Below R0 w5 wx)) (fun _ i _ => t.length - (intOf i).toNat)
      case atStart => exact ⟨0, Nat.zero_le _, rfl, HW0, HBL0⟩
      case round =>
        clear hge hk
        obtain ⟨k, hk, rfl, HW, HBL⟩ := hrel
        obtain ⟨wx, rfl⟩ : ∃ x, x = wr := ⟨_, rfl⟩
        by_cases hlt : k < t.length
        · obtain ⟨n, hn⟩ : ∃ n, t[k]? = some n := ⟨_, List.getElem?_eq_getElem hlt⟩
          have HNL := Lib.hid (show n.1.length = 32 from HGD.out.nds n (List.mem_of_getElem? hn))
          have HWV := Lib.hid (tellZ_at HGD.out hn (show k < o2.length by rw [HPL.out]; exact hlt) 0 (wtW t o2))
          have hbl : Below w5.heap.size w5 wx := by rw [← HRE.out]; exact HBL.out
          have HPk := Lib.hid (HP.out.below hbl)
          have HXk := Lib.hid (HX.out.below hbl HX.out.lt)
          have HRk := Lib.hid (HRW.out.below hbl)
          have HSk := Lib.hid (show R0 ≤ wx.heap.size from Nat.le_trans HR5.out hbl.size)
          have HRC := Lib.hid (HRk.out.name HRT.out (rs_at hn)).2
          have HLT := Lib.hid hlt
          have hlt' : (k : Int) < (t.length : Int) := by omega
          have HWK := Lib.hid (show wrap64 ((k : Int) + 1) = ((k + 1 : Nat) : Int) by have := HM256.out; have := HLT.out; unfold wrap64; omega)
          clear hn hbl hlt
          have HZ := Lib.hid (blk_zeroR wx)
          have HZL := Lib.hid zero32_len
          have HD := Lib.hid (HZ.out.setRow (bv n.1))
          have hbx : Below wx.heap.size wx ((wx.alloc (.cells #[.int .u8 0, .int .u8 0, .int .u8 0, .int .u8 0, .int .u8 0, .int .u8 0, .int .u8 0, .int .u8 0, .int .u8 0, .int .u8 0, .int .u8 0, .int .u8 0, .int .u8 0, .int .u8 0, .int .u8 0, .int .u8 0, .int .u8 0, .int .u8 0, .int .u8 0, .int .u8 0, .int .u8 0, .int .u8 0, .int .u8 0, .int .u8 0, .int .u8 0, .int .u8 0, .int .u8 0, .int .u8 0, .int .u8 0, .int .u8 0, .int .u8 0, .int .u8 0] 24)).setRow wx.heap.size (bv n.1).toArray) := below_row ((Below.refl _ wx).alloc (Nat.le_refl _) _) (Nat.le_refl _) _
          replace HPk := Lib.hid (HPk.out.below hbx)
          replace HXk := Lib.hid (HXk.out.below hbx HXk.out.lt)
          replace HW := Lib.hid (HW.out.below hbx)
          replace HBL := Lib.hid (HBL.out.trans (hbx.mono HSk.out))
          replace HSk := Lib.hid (Nat.le_trans HSk.out hbx.size)
          clear hbx
          obtain ⟨D, hRR⟩ : ∃ D, D = wx.heap.size := ⟨_, rfl⟩
          go_upto_region 20 with (first | ((with_reducible refine wpList_load_name (.tmp 68) ?_ ?_ rg (roff + k * 32) n.1 ?_ HNL.out HRC.out ?_); rfl; rfl; rfl) | ((with_reducible refine wpList_store_name (.tmp 14) (.tmp 69) ?_ ?_ wx.heap.size zero32 n.1 ?_ ?_ HZ.out HZL.out HNL.out ?_); rfl; rfl; rfl; rfl))
          try simp only [Act.put]
          rw [← hRR] at HD HPk HXk HW HBL HSk ⊢
          generalize (wx.alloc (.cells #[.int .u8 0, .int .u8 0, .int .u8 0, .int .u8 0, .int .u8 0, .int .u8 0, .int .u8 0, .int .u8 0, .int .u8 0, .int .u8 0, .int .u8 0, .int .u8 0, .int .u8 0, .int .u8 0, .int .u8 0, .int .u8 0, .int .u8 0, .int .u8 0, .int .u8 0, .int .u8 0, .int .u8 0, .int .u8 0, .int .u8 0, .int .u8 0, .int .u8 0, .int .u8 0, .int .u8 0, .int .u8 0, .int .u8 0, .int .u8 0, .int .u8 0, .int .u8 0] 24)).setRow D (bv n.1).toArray = w6 at HD HPk HXk HW HBL HSk ⊢
          clear HZ HZL hRR

          clear HRC HRk
          have kp1 := HXk.out.cell 1
          simp only [prv, List.getElem?_cons_succ, List.getElem?_cons_zero] at kp1
          go_wp2_with ((with_reducible refine wpList_load_name (.tmp 14) ?_ ?_ D 0 n.1 ?_ HNL.out HD.out.rootAll ?_); rfl; rfl; rfl)
          refine (HPk.out.weight n.1 HNL.out).mono ?_
          rintro e w7 ⟨rfl, hbc⟩
          replace HPk := Lib.hid (HPk.out.below hbc)
          replace HXk := Lib.hid (HXk.out.below hbc HXk.out.lt)
          replace HW := Lib.hid (HW.out.below hbc)
          replace HBL := Lib.hid (HBL.out.trans (hbc.mono HSk.out))
          replace HSk := Lib.hid (Nat.le_trans HSk.out hbc.size)
          clear hbc kp1 HD
          rw [HWV.out]
          generalize hy : wtW t o2 k = y
          have HY := Lib.hid (show (List.range (k + 1)).map (wtW t o2) = (List.range k).map (wtW t o2) ++ [y] by rw [List.range_succ, List.map_append, ← hy]; rfl)
          clear hy
          have hb1 : Below w7.heap.size w7 (w7.alloc (.cells #[.int .i64 y] 3)) := (Below.refl _ _).alloc (Nat.le_refl _) _
          replace HPk := Lib.hid (HPk.out.below hb1)
          replace HXk := Lib.hid (HXk.out.below hb1 HXk.out.lt)
          replace HW := Lib.hid (HW.out.below hb1)
          replace HBL := Lib.hid (HBL.out.trans (hb1.mono HSk.out))
          replace HSk := Lib.hid (Nat.le_trans HSk.out hb1.size)
          clear hb1
          have HSRC := Lib.hid (src_z w7 43 Try.underlying43 y)
          have HLN := Lib.hid (show (zv ((List.range k).map (wtW t o2))).length = k by rw [zv_length, List.length_map, List.length_range])
          have HM1 := Lib.hid (show (zv ((List.range k).map (wtW t o2))).length + 1 ≤ maxLen by rw [HLN.out]; have := HM256.out; have := HLT.out; unfold maxLen; omega)
          have HM2 := Lib.hid (show ((zv ((List.range k).map (wtW t o2))).length + 1) * 8 ≤ 140737488355328 by rw [HLN.out]; have := HM256.out; have := HLT.out; omega)
          go_wp2_with (at_builtin; refine wpList_append_wide rfl _ _ 43 43 rfl rfl HW.out (by decide) 3 i0 (.int .i64 0) 8 Try.underlying43 hi0 hz0 hz1 hz2 rfl _ rfl 1 (zv [y]) HSRC.out HM1.out HM2.out HSk.out ?_)
          intro v' w8 hv hg
          have HBN := Lib.hid (HBL.out.trans (hg.belowW HW.out HSk.out))
          rw [← zv_append, ← HY.out] at hv
          have HWN := Lib.hid hv
          clear hv hg HM1 HM2 HSRC HLN HW HBL HSk HPk HXk
          go_wp2_with fail
          have hlk := HLT.out
          go_roundw
          case rel => exact ⟨k + 1, by omega, by first | rw [HWK.out] | rw [Int.natCast_succ], HWN, HBN⟩
          case measure => exact measK t.length k 1 (wrap64 ((k : Int) + 1)) HWK.out hlk Nat.zero_lt_one
        · have hlt2 : ¬ (k : Int) < (t.length : Int) := by omega
          obtain rfl : k = t.length := by omega
          have hbl : Below w5.heap.size w5 wx := by rw [← HRE.out]; exact HBL.out
          have hpos := HM256.out.2
          obtain ⟨bo, bn, bcap, bg, boff, hv, hbn, hbL⟩ := HW.out.lies
          rw [zv_length, List.length_map, List.length_range, Nat.mul_one] at hbn
          subst hbn
          subst hv
          have hba := hbL.addr (by rw [zv_length, List.length_map, List.length_range]; exact hpos)
          subst hba
          have hbw : w5.heap.size ≤ bg := by rw [← HRE.out]; exact HW.out.own bg rfl
          have hbt : bg < wx.heap.size := hbL.lt (by rw [zv_length, List.length_map, List.length_range]; exact hpos)
          have HBW := Lib.hid hbL
          replace HP := Lib.hid (HP.out.more hbl (K' := [bg]) (fun k hk => by simp at hk; omega) (fun k hk => by simp at hk; omega))
          replace HX := Lib.hid (HX.out.below hbl HX.out.lt)
          replace HRW := Lib.hid (HRW.out.below hbl)
          replace HB := Lib.hid (HB.out.trans (hbl.mono HB.out.size))
          replace HR := Lib.hid (HR.out.below hbl HR.out.lt)
          clear hbl hbw hbt hbL HW HBL HW0 HBL0 HRE HR5 hlt hk hpos
          have kp1 := HX.out.cell 1
          simp only [prv, List.getElem?_cons_succ, List.getElem?_cons_zero] at kp1
          go_wp2_with fail
          refine HP.out.head.mono ?_
          rintro e w6 ⟨rfl, hbc⟩
          replace HP := Lib.hid (HP.out.below hbc)
          replace HBW := Lib.hid (HBW.out.below hbc)
          replace HX := Lib.hid (HX.out.below hbc HX.out.lt)
          replace HRW := Lib.hid (HRW.out.below hbc)
          replace HB := Lib.hid (HB.out.trans (hbc.mono HB.out.size))
          replace HR := Lib.hid (HR.out.below hbc HR.out.lt)
          clear hbc kp1
          obtain ⟨hd, hhd⟩ : ∃ hd, pnm t (hdW t o2 : Int) = hd := ⟨_, rfl⟩
          rw [hhd]
          have HHL := Lib.hid (show hd.length = 32 by rw [← hhd]; exact HGD.out.pnm_len _)
          have HHD := Lib.hid hhd
          clear hhd
          have HZ := Lib.hid (blk_zeroR w6)
          have HZL := Lib.hid zero32_len
          have HQ1 := Lib.hid (HZ.out.setRow (bv hd))
          have hbx : Below w6.heap.size w6 ((w6.alloc (.cells #[.int .u8 0, .int .u8 0, .int .u8 0, .int .u8 0, .int .u8 0, .int .u8 0, .int .u8 0, .int .u8 0, .int .u8 0, .int .u8 0, .int .u8 0, .int .u8 0, .int .u8 0, .int .u8 0, .int .u8 0, .int .u8 0, .int .u8 0, .int .u8 0, .int .u8 0, .int .u8 0, .int .u8 0, .int .u8 0, .int .u8 0, .int .u8 0, .int .u8 0, .int .u8 0, .int .u8 0, .int .u8 0, .int .u8 0, .int .u8 0, .int .u8 0, .int .u8 0] 24)).setRow w6.heap.size (bv hd).toArray) := below_row ((Below.refl _ w6).alloc (Nat.le_refl _) _) (Nat.le_refl _) _
          replace HP := Lib.hid (HP.out.more hbx (K' := [w6.heap.size]) (fun k hk => by simp at hk; omega) (fun k hk => by simp at hk; rw [hk]; exact HQ1.out.lt))
          replace HX := Lib.hid (HX.out.below hbx HX.out.lt)
          replace HRW := Lib.hid (HRW.out.below hbx)
          replace HB := Lib.hid (HB.out.trans (hbx.mono HB.out.size))
          replace HR := Lib.hid (HR.out.below hbx HR.out.lt)
          replace HBW := Lib.hid (HBW.out.below hbx)
          clear hbx
          obtain ⟨H, hRR⟩ : ∃ H, H = w6.heap.size := ⟨_, rfl⟩
          go_upto_region 23 with (first | ((with_reducible refine wpList_load_name (.tmp 80) ?_ ?_ w6.heap.size 0 hd ?_ HHL.out HHL.out ?_); rfl; rfl; rfl) | ((with_reducible refine wpList_store_name (.tmp 15) (.tmp 80) ?_ ?_ w6.heap.size zero32 hd ?_ ?_ HZ.out HZL.out HHL.out ?_); rfl; rfl; rfl; rfl))
          try simp only [Act.put]
          rw [← hRR] at HQ1 HP HX HRW HB HR HBW ⊢
          generalize (w6.alloc (.cells #[.int .u8 0, .int .u8 0, .int .u8 0, .int .u8 0, .int .u8 0, .int .u8 0, .int .u8 0, .int .u8 0, .int .u8 0, .int .u8 0, .int .u8 0, .int .u8 0, .int .u8 0, .int .u8 0, .int .u8 0, .int .u8 0, .int .u8 0, .int .u8 0, .int .u8 0, .int .u8 0, .int .u8 0, .int .u8 0, .int .u8 0, .int .u8 0, .int .u8 0, .int .u8 0, .int .u8 0, .int .u8 0, .int .u8 0, .int .u8 0, .int .u8 0, .int .u8 0] 24)).setRow H (bv hd).toArray = w7 at HQ1 HP HX HRW HB HR HBW ⊢
          clear HZ HZL hRR

          have HBE := Lib.hid (fun k (hk : k < t.length) => (lies_z HBW.out (show ((List.range t.length).map (wtW t o2))[k]? = some (wtW t o2 k) by simp [hk])).2)
          have cb0 := HBE.out 0 HM256.out.2
          rw [Nat.add_zero] at cb0
          clear HBE
          obtain ⟨y0, hy0⟩ : ∃ y, wtW t o2 0 = y := ⟨_, rfl⟩
          rw [hy0] at cb0
          have hpos : (0 : Int) < (t.length : Int) := by have := HM256.out; omega
          by_cases hbig : 2305843009213693952 < y0
          · go_wp2_with fail
            go_ret
            exact ⟨rfl, HB.out⟩
          have HTO := Lib.hid (show totW o2 ≤ 2305843009213693952 by rw [← HGD.out.wtW_root (Nat.le_of_eq HPL.out), hy0]; omega)
          have HA1 := Lib.hid (more_app HGD.out HPL.out HOG.out HXK.out (m := a2) HMB.out.1 HMB.out.2 HTO.out)
          have HA2 := Lib.hid (less_app HGD.out HPL.out HOG.out HXK.out (m := a2) HMB.out.1 HMB.out.2 HTO.out)
          have HBD1 := Lib.hid (built_dl x.1 a2 HXL.out)
          have HBD2 := Lib.hid (built_dl x.1 (-a2) HXL.out)
          obtain ⟨i1, hi1, hd1, hd2, hd3⟩ := info_parts Try.infoDl
          have H33 := Lib.hid (fun n : Int => dlv_length (d := (x.1, n)) HXL.out)
          have H331 := Lib.hid (H33.out a2)
          have H332 := Lib.hid (H33.out (-a2))
          have H033 := Lib.hid (show 0 < 33 by decide)
          have H24 := Lib.hid (show 1 * 33 ≤ 2 ^ 24 by decide)
          have kp1 := HX.out.cell 1
          simp only [prv, List.getElem?_cons_succ, List.getElem?_cons_zero] at kp1
          go_wp2_with (first
            | ((with_reducible refine wpList_load_name (.tmp 11) ?_ ?_ R 0 x.1 ?_ HXL.out HR.out.rootAll ?_); rfl; rfl; rfl)
            | ((with_reducible refine wpList_build_l 57 #[(0, .tmp 87), (1, .tmp 88)] _ _ HBD1.out ?_ ?_ ?_ ?_); rfl; rfl; rfl)
            | ((with_reducible refine wpList_build_row ?_ 54 57 (.tmp 89) ?_ (dlv (x.1, a2)) ?_ i1 (.agg (dlv dl0).toArray) (s := 33) H033.out H331.out Try.underlying54 hi1 hd1 hd2 H24.out ?_); rfl; rfl; rfl))

          have hbx : Below w7.heap.size w7 (w7.alloc (.cells (dlv (x.1, a2)).toArray 57)) := (Below.refl _ _).alloc (Nat.le_refl _) _
          have hL : Lies (w7.alloc (.cells (dlv (x.1, a2)).toArray 57)) (w7.alloc (.cells (dlv (x.1, a2)).toArray 57)).heap.size (some ⟨w7.heap.size, 0, none⟩) w7.heap.size 0 (dvs [(x.1, a2)]) := by
            have hbk := Blk.new w7 57 (dlv (x.1, a2)).toArray
            rw [dvs_sole]
            exact ⟨fun _ => rfl, fun _ => by simp, fun j u hj => by rw [Nat.zero_add, hbk.cell]; exact hj⟩
          have hp0 := HP.out.more hbx (K' := [w7.heap.size]) (fun k hk => by simp at hk; omega) (fun k hk => by simp at hk; rw [hk]; simp)
          refine (hp0.apply [(x.1, a2)] (some ⟨w7.heap.size, 0, none⟩) 1 w7.heap.size 0 (dls_one _ _ HXL.out) (by simp) hL (fun _ => by simp)).mono ?_
          rintro e w8 ⟨rfl, hp, hb, hk⟩
          rw [HA1.out] at hp ⊢
          have HPn := Lib.hid (hp.drop [w7.heap.size])
          have HXn := Lib.hid (hk.blk (HX.out.below hbx HX.out.lt) (by simp))
          have HRn := Lib.hid (hk.blk (HR.out.below hbx HR.out.lt) (by simp))
          have HQ1n := Lib.hid (hk.blk (HQ1.out.below hbx HQ1.out.lt) (by simp))
          have HRWn := Lib.hid (lies_held (HRW.out.below hbx) hk (by simp) hb.size)
          have HBWn := Lib.hid (lies_held (HBW.out.below hbx) hk (by simp) hb.size)
          replace HB := Lib.hid (HB.out.trans (hbx.mono HB.out.size))
          replace HB := Lib.hid (HB.out.trans (hb.mono HB1.out))
          clear hbx hL hp0 hp hb hk kp1 HP HX HR HQ1 HRW HBW
          have HP := HPn
          have HX := HXn
          have HR := HRn
          have HQ1 := HQ1n
          have HRW := HRWn
          have HBW := HBWn
          clear HPn HXn HRn HQ1n HRWn HBWn
          clear cb0 hpos
          obtain ⟨o3, ho3⟩ : ∃ o3, o3 = o2.set J (owZ o2 J + a2) := ⟨_, rfl⟩
          rw [← ho3] at HP
          have HA2b := HA2.out
          rw [← ho3] at HA2b
          have HA3 := Lib.hid HA2b
          have HPL3 := Lib.hid (show o3.length = t.length by rw [ho3, List.length_set]; exact HPL.out)
          have HWS := Lib.hid (show ∀ i, wtW t o3 i = wtW t o2 i + (if abW t i J = true then a2 else 0) from fun i => by rw [ho3]; exact wtW_set HJO.out a2 i)
          clear ho3 HA2b HA2 HA1
          go_wp2_with fail
          go_loopw [95] (fun i wx => ∃ (k : Nat), k ≤ t.length ∧ i = .int .i64 k ∧ Hid (PSX B ([H] ++ ([bg] ++ ([R] ++ ([rg] ++ [X])))) wx tb wb mb rb t t o3 own) ∧ Hid (Blk wx X 37 (prv tb wb rb)) ∧ Hid (Blk wx R 24 (bv x.1)) ∧ Hid (Blk wx H 24 (bv hd)) ∧ Hid (Lies wx wx.heap.size (some ⟨rg, roff, none⟩) rg roff (rv (rs t))) ∧ Hid (Lies wx wx.heap.size (some ⟨bg, boff, none⟩) bg boff (zv ((List.range t.length).map (wtW t o2)))) ∧ Hid (Below w.heap.size w wx)) (fun i _ => t.length - (intOf i).toNat)
          case atStart => exact ⟨0, Nat.zero_le _, rfl, HP, HX, HR, HQ1, HRW, HBW, HB⟩
          case round =>
            clear HP HX HR HQ1 HRW HBW HB
            obtain ⟨k, hk, rfl, HP, HX, HR, HQ1, HRW, HBW, HB⟩ := hrel
            obtain ⟨wx, rfl⟩ : ∃ x, x = wr := ⟨_, rfl⟩
            by_cases hlt : k < t.length
            · obtain ⟨n, hn⟩ : ∃ n, t[k]? = some n := ⟨_, List.getElem?_eq_getElem hlt⟩
              have HNL := Lib.hid (show n.1.length = 32 from HGD.out.nds n (List.mem_of_getElem? hn))
              have HWV := Lib.hid (tellZ_at HGD.out hn (show k < o3.length by rw [HPL3.out]; exact hlt) 0 (wtW t o3))
              have HBE := Lib.hid (HGD.out.below_ab hn HXK.out)
              have HYB := Lib.hid (show 0 ≤ wtW t o2 k ∧ wtW t o2 k < 4611686018427387904 from ⟨wtW_nonneg HOG.out t k, wtW_lt HOG.out t k⟩)
              have HRC := Lib.hid (HRW.out.name HRT.out (rs_at hn)).2
              have HLT := Lib.hid hlt
              have hlt' : (k : Int) < (t.length : Int) := by omega
              have HWK := Lib.hid (show wrap64 ((k : Int) + 1) = ((k + 1 : Nat) : Int) by have := HM256.out; have := HLT.out; unfold wrap64; omega)
              clear hn hlt hk
              have HZ := Lib.hid (blk_zeroR wx)
              have HZL := Lib.hid zero32_len
              have HD := Lib.hid (HZ.out.setRow (bv n.1))
              have hbx : Below wx.heap.size wx ((wx.alloc (.cells #[.int .u8 0, .int .u8 0, .int .u8 0, .int .u8 0, .int .u8 0, .int .u8 0, .int .u8 0, .int .u8 0, .int .u8 0, .int .u8 0, .int .u8 0, .int .u8 0, .int .u8 0, .int .u8 0, .int .u8 0, .int .u8 0, .int .u8 0, .int .u8 0, .int .u8 0, .int .u8 0, .int .u8 0, .int .u8 0, .int .u8 0, .int .u8 0, .int .u8 0, .int .u8 0, .int .u8 0, .int .u8 0, .int .u8 0, .int .u8 0, .int .u8 0, .int .u8 0] 24)).setRow wx.heap.size (bv n.1).toArray) := below_row ((Below.refl _ wx).alloc (Nat.le_refl _) _) (Nat.le_refl _) _
              replace HP := Lib.hid (HP.out.below hbx)
              replace HX := Lib.hid (HX.out.below hbx HX.out.lt)
              replace HR := Lib.hid (HR.out.below hbx HR.out.lt)
              replace HQ1 := Lib.hid (HQ1.out.below hbx HQ1.out.lt)
              replace HRW := Lib.hid (HRW.out.below hbx)
              replace HBW := Lib.hid (HBW.out.below hbx)
              replace HB := Lib.hid (HB.out.trans (hbx.mono HB.out.size))
              clear hbx
              obtain ⟨D, hRR⟩ : ∃ D, D = wx.heap.size := ⟨_, rfl⟩
              go_upto_region 30 with (first | ((with_reducible refine wpList_load_name (.tmp 98) ?_ ?_ rg (roff + k * 32) n.1 ?_ HNL.out HRC.out ?_); rfl; rfl; rfl) | ((with_reducible refine wpList_store_name (.tmp 17) (.tmp 99) ?_ ?_ wx.heap.size zero32 n.1 ?_ ?_ HZ.out HZL.out HNL.out ?_); rfl; rfl; rfl; rfl))
              try simp only [Act.put]
              rw [← hRR] at HD HP HX HR HQ1 HRW HBW HB ⊢
              generalize (wx.alloc (.cells #[.int .u8 0, .int .u8 0, .int .u8 0, .int .u8 0, .int .u8 0, .int .u8 0, .int .u8 0, .int .u8 0, .int .u8 0, .int .u8 0, .int .u8 0, .int .u8 0, .int .u8 0, .int .u8 0, .int .u8 0, .int .u8 0, .int .u8 0, .int .u8 0, .int .u8 0, .int .u8 0, .int .u8 0, .int .u8 0, .int .u8 0, .int .u8 0, .int .u8 0, .int .u8 0, .int .u8 0, .int .u8 0, .int .u8 0, .int .u8 0, .int .u8 0, .int .u8 0] 24)).setRow D (bv n.1).toArray = w9 at HD HP HX HR HQ1 HRW HBW HB ⊢
              clear HZ HZL hRR

              clear HRC
              have cbk := (lies_z HBW.out (show ((List.range t.length).map (wtW t o2))[k]? = some (wtW t o2 k) by simp [HLT.out])).2
              have kp0 := HX.out.cell 0
              simp only [prv, List.getElem?_cons_zero] at kp0
              go_wp2_with (first | ((with_reducible refine wpList_load_name (.tmp 17) ?_ ?_ D 0 n.1 ?_ HNL.out HD.out.rootAll ?_); rfl; rfl; rfl) | ((with_reducible refine wpList_load_name (.tmp 11) ?_ ?_ R 0 x.1 ?_ HXL.out HR.out.rootAll ?_); rfl; rfl; rfl))
              refine (HP.out.isbelow n.1 x.1 HNL.out HXL.out).mono ?_
              rintro e wy ⟨rfl, hbc⟩
              clear kp0 cbk
              replace HP := Lib.hid (HP.out.below hbc)
              replace HX := Lib.hid (HX.out.below hbc HX.out.lt)
              replace HR := Lib.hid (HR.out.below hbc HR.out.lt)
              replace HQ1 := Lib.hid (HQ1.out.below hbc HQ1.out.lt)
              replace HRW := Lib.hid (HRW.out.below hbc)
              replace HBW := Lib.hid (HBW.out.below hbc)
              replace HB := Lib.hid (HB.out.trans (hbc.mono HB.out.size))
              replace HD := Lib.hid (HD.out.below hbc HD.out.lt)
              clear hbc
              rw [HBE.out]
              have kp1 := HX.out.cell 1
              simp only [prv, List.getElem?_cons_succ, List.getElem?_cons_zero] at kp1
              have HWS2 := Lib.hid (HWS.out k)
              generalize wtW t o2 k = y at HYB HWS2 ⊢
              generalize abW t k J = ab at HWS2 ⊢
              cases ab
              · have HVV := Lib.hid (show wtW t o3 k = y by rw [HWS2.out]; simp)
                go_wp2_with ((with_reducible refine wpList_load_name (.tmp 17) ?_ ?_ D 0 n.1 ?_ HNL.out HD.out.rootAll ?_); rfl; rfl; rfl)
                refine (HP.out.weight n.1 HNL.out).mono ?_
                rintro e wz ⟨rfl, hbc⟩
                clear kp1
                replace HP := Lib.hid (HP.out.below hbc)
                replace HX := Lib.hid (HX.out.below hbc HX.out.lt)
                replace HR := Lib.hid (HR.out.below hbc HR.out.lt)
                replace HQ1 := Lib.hid (HQ1.out.below hbc HQ1.out.lt)
                replace HRW := Lib.hid (HRW.out.below hbc)
                replace HBW := Lib.hid (HBW.out.below hbc)
                replace HB := Lib.hid (HB.out.trans (hbc.mono HB.out.size))
                clear hbc HD
                rw [HWV.out, HVV.out]
                have hyy : ((y) != (y)) = false := bne_self_eq_false _
                go_wp2_with fail
                have hlk := HLT.out
                go_roundw
                case rel => exact ⟨k + 1, by omega, by first | rw [HWK.out] | rw [Int.natCast_succ], HP, HX, HR, HQ1, HRW, HBW, HB⟩
                case measure => exact measK t.length k 1 (wrap64 ((k : Int) + 1)) HWK.out hlk Nat.zero_lt_one
              · have HVV := Lib.hid (show wtW t o3 k = y + a2 by rw [HWS2.out]; simp)
                have hwy : wrap64 (y + a2) = y + a2 := by have h1 := HYB.out; have h2 := HMB.out; unfold wrap64; omega
                go_wp2_with ((with_reducible refine wpList_load_name (.tmp 17) ?_ ?_ D 0 n.1 ?_ HNL.out HD.out.rootAll ?_); rfl; rfl; rfl)
                refine (HP.out.weight n.1 HNL.out).mono ?_
                rintro e wz ⟨rfl, hbc⟩
                clear kp1
                replace HP := Lib.hid (HP.out.below hbc)
                replace HX := Lib.hid (HX.out.below hbc HX.out.lt)
                replace HR := Lib.hid (HR.out.below hbc HR.out.lt)
                replace HQ1 := Lib.hid (HQ1.out.below hbc HQ1.out.lt)
                replace HRW := Lib.hid (HRW.out.below hbc)
                replace HBW := Lib.hid (HBW.out.below hbc)
                replace HB := Lib.hid (HB.out.trans (hbc.mono HB.out.size))
                clear hbc HD
                rw [HWV.out, HVV.out]
                have hyy : ((y + a2) != (y + a2)) = false := bne_self_eq_false _
                go_wp2_with fail
                have hlk := HLT.out
                go_roundw
                case rel => exact ⟨k + 1, by omega, by first | rw [HWK.out] | rw [Int.natCast_succ], HP, HX, HR, HQ1, HRW, HBW, HB⟩
                case measure => exact measK t.length k 1 (wrap64 ((k : Int) + 1)) HWK.out hlk Nat.zero_lt_one
            · have hlt2 : ¬ (k : Int) < (t.length : Int) := by omega
              have kp1 := HX.out.cell 1
              simp only [prv, List.getElem?_cons_succ, List.getElem?_cons_zero] at kp1
              have hng : wrap64 (-a2) = -a2 := by have := HMB.out; unfold wrap64; omega
              clear hlt hk
              go_wp2_with (first
                | ((with_reducible refine wpList_load_name (.tmp 11) ?_ ?_ R 0 x.1 ?_ HXL.out HR.out.rootAll ?_); rfl; rfl; rfl)
                | ((with_reducible refine wpList_build_l 57 #[(0, .tmp 121), (1, .tmp 123)] _ _ HBD2.out ?_ ?_ ?_ ?_); rfl; rfl; rfl)
                | ((with_reducible refine wpList_build_row ?_ 54 57 (.tmp 124) ?_ (dlv (x.1, -a2)) ?_ i1 (.agg (dlv dl0).toArray) (s := 33) H033.out H332.out Try.underlying54 hi1 hd1 hd2 H24.out ?_); rfl; rfl; rfl))
              have hbx : Below wx.heap.size wx (wx.alloc (.cells (dlv (x.1, (-a2))).toArray 57)) := (Below.refl _ _).alloc (Nat.le_refl _) _
              have hL : Lies (wx.alloc (.cells (dlv (x.1, (-a2))).toArray 57)) (wx.alloc (.cells (dlv (x.1, (-a2))).toArray 57)).heap.size (some ⟨wx.heap.size, 0, none⟩) wx.heap.size 0 (dvs [(x.1, (-a2))]) := by
                have hbk := Blk.new wx 57 (dlv (x.1, (-a2))).toArray
                rw [dvs_sole]
                exact ⟨fun _ => rfl, fun _ => by simp, fun j u hj => by rw [Nat.zero_add, hbk.cell]; exact hj⟩
              have hp0 := HP.out.more hbx (K' := [wx.heap.size]) (fun k hk => by simp at hk; omega) (fun k hk => by simp at hk; rw [hk]; simp)
              refine (hp0.apply [(x.1, (-a2))] (some ⟨wx.heap.size, 0, none⟩) 1 wx.heap.size 0 (dls_one _ _ HXL.out) (by simp) hL (fun _ => by simp)).mono ?_
              rintro e wf ⟨rfl, hp, hb, hk⟩
              rw [HA3.out] at hp ⊢
              have HPn := Lib.hid (hp.drop [wx.heap.size])
              have HXn := Lib.hid (hk.blk (HX.out.below hbx HX.out.lt) (by simp))
              have HRn := Lib.hid (hk.blk (HR.out.below hbx HR.out.lt) (by simp))
              have HQ1n := Lib.hid (hk.blk (HQ1.out.below hbx HQ1.out.lt) (by simp))
              have HRWn := Lib.hid (lies_held (HRW.out.below hbx) hk (by simp) hb.size)
              have HBWn := Lib.hid (lies_held (HBW.out.below hbx) hk (by simp) hb.size)
              replace HB := Lib.hid (HB.out.trans (hbx.mono HB.out.size))
              replace HB := Lib.hid (HB.out.trans (hb.mono HB1.out))
              clear hbx hL hp0 hp hb hk kp1 HP HX HR HQ1 HRW HBW
              have HP := HPn
              have HX := HXn
              have HR := HRn
              have HQ1 := HQ1n
              have HRW := HRWn
              have HBW := HBWn
              clear HPn HXn HRn HQ1n HRWn HBWn
              clear HWS HPL3 HA3 hng
              go_wp2_with fail
              go_loopw [130] (fun i wx => ∃ (k : Nat), k ≤ t.length ∧ i = .int .i64 k ∧ Hid (PSX B ([H] ++ ([bg] ++ ([R] ++ ([rg] ++ [X])))) wx tb wb mb rb t t o2 own) ∧ Hid (Blk wx X 37 (prv tb wb rb)) ∧ Hid (Blk wx R 24 (bv x.1)) ∧ Hid (Blk wx H 24 (bv hd)) ∧ Hid (Lies wx wx.heap.size (some ⟨rg, roff, none⟩) rg roff (rv (rs t))) ∧ Hid (Lies wx wx.heap.size (some ⟨bg, boff, none⟩) bg boff (zv ((List.range t.length).map (wtW t o2)))) ∧ Hid (Below w.heap.size w wx)) (fun i _ => t.length - (intOf i).toNat)
              case atStart => exact ⟨0, Nat.zero_le _, rfl, HP, HX, HR, HQ1, HRW, HBW, HB⟩
              case round =>
                clear HP HX HR HQ1 HRW HBW HB
                obtain ⟨k, hk, rfl, HP, HX, HR, HQ1, HRW, HBW, HB⟩ := hrel
                obtain ⟨wx, rfl⟩ : ∃ x, x = wr := ⟨_, rfl⟩
                by_cases hlt : k < t.length
                · obtain ⟨n, hn⟩ : ∃ n, t[k]? = some n := ⟨_, List.getElem?_eq_getElem hlt⟩
                  have HNL := Lib.hid (show n.1.length = 32 from HGD.out.nds n (List.mem_of_getElem? hn))
                  have HWV := Lib.hid (tellZ_at HGD.out hn (show k < o2.length by rw [HPL.out]; exact hlt) 0 (wtW t o2))
                  have HRC := Lib.hid (HRW.out.name HRT.out (rs_at hn)).2
                  have HLT := Lib.hid hlt
                  have hlt' : (k : Int) < (t.length : Int) := by omega
                  have HWK := Lib.hid (show wrap64 ((k : Int) + 1) = ((k + 1 : Nat) : Int) by have := HM256.out; have := HLT.out; unfold wrap64; omega)
                  clear hn hlt hk
                  have HZ := Lib.hid (blk_zeroR wx)
                  have HZL := Lib.hid zero32_len
                  have HD := Lib.hid (HZ.out.setRow (bv n.1))
                  have hbx : Below wx.heap.size wx ((wx.alloc (.cells #[.int .u8 0, .int .u8 0, .int .u8 0, .int .u8 0, .int .u8 0, .int .u8 0, .int .u8 0, .int .u8 0, .int .u8 0, .int .u8 0, .int .u8 0, .int .u8 0, .int .u8 0, .int .u8 0, .int .u8 0, .int .u8 0, .int .u8 0, .int .u8 0, .int .u8 0, .int .u8 0, .int .u8 0, .int .u8 0, .int .u8 0, .int .u8 0, .int .u8 0, .int .u8 0, .int .u8 0, .int .u8 0, .int .u8 0, .int .u8 0, .int .u8 0, .int .u8 0] 24)).setRow wx.heap.size (bv n.1).toArray) := below_row ((Below.refl _ wx).alloc (Nat.le_refl _) _) (Nat.le_refl _) _
                  replace HP := Lib.hid (HP.out.below hbx)
                  replace HX := Lib.hid (HX.out.below hbx HX.out.lt)
                  replace HR := Lib.hid (HR.out.below hbx HR.out.lt)
                  replace HQ1 := Lib.hid (HQ1.out.below hbx HQ1.out.lt)
                  replace HRW := Lib.hid (HRW.out.below hbx)
                  replace HBW := Lib.hid (HBW.out.below hbx)
                  replace HB := Lib.hid (HB.out.trans (hbx.mono HB.out.size))
                  clear hbx
                  obtain ⟨D, hRR⟩ : ∃ D, D = wx.heap.size := ⟨_, rfl⟩
                  go_upto_region 41 with (first | ((with_reducible refine wpList_load_name (.tmp 133) ?_ ?_ rg (roff + k * 32) n.1 ?_ HNL.out HRC.out ?_); rfl; rfl; rfl) | ((with_reducible refine wpList_store_name (.tmp 20) (.tmp 134) ?_ ?_ wx.heap.size zero32 n.1 ?_ ?_ HZ.out HZL.out HNL.out ?_); rfl; rfl; rfl; rfl))
                  try simp only [Act.put]
                  rw [← hRR] at HD HP HX HR HQ1 HRW HBW HB ⊢
                  generalize (wx.alloc (.cells #[.int .u8 0, .int .u8 0, .int .u8 0, .int .u8 0, .int .u8 0, .int .u8 0, .int .u8 0, .int .u8 0, .int .u8 0, .int .u8 0, .int .u8 0, .int .u8 0, .int .u8 0, .int .u8 0, .int .u8 0, .int .u8 0, .int .u8 0, .int .u8 0, .int .u8 0, .int .u8 0, .int .u8 0, .int .u8 0, .int .u8 0, .int .u8 0, .int .u8 0, .int .u8 0, .int .u8 0, .int .u8 0, .int .u8 0, .int .u8 0, .int .u8 0, .int .u8 0] 24)).setRow D (bv n.1).toArray = w9 at HD HP HX HR HQ1 HRW HBW HB ⊢
                  clear HZ HZL hRR

                  clear HRC
                  have HCB := Lib.hid (show ∀ W : World, Below w9.heap.size w9 W → W.cell? ⟨bg, boff + k, none⟩ = some (.int .i64 (wtW t o2 k)) from fun W hb => (lies_z (HBW.out.below hb) (show ((List.range t.length).map (wtW t o2))[k]? = some (wtW t o2 k) by simp [HLT.out])).2)
                  refine wp_region_free (P := Try.prog) 9 (fun w' => Below w9.heap.size w9 w') (fun oq v w' => match oq with
                      | 0 => v = .pointer (some ⟨X, 1, none⟩)
                      | 1 => v = .pointer (some ⟨wb, 0, none⟩)
                      | 2 => v = .agg (bv n.1).toArray
                      | 3 => v = .int .i64 (wtW t o2 k)
                      | 4 => v = .slice (some ⟨bg, boff, none⟩) t.length bcap
                      | 5 => v = .int .i64 (k : Int)
                      | 6 => v = .pointer (some ⟨bg, boff + k, none⟩)
                      | 7 => v = .int .i64 (wtW t o2 k)
                      | 8 => v = .bool false
                      | _ => True) (by kernel_rfl) (by kernel_rfl) (Below.refl _ _).drew ?gb ?vb ?steps ?fin
                  case gb => exact fun a b h1 h2 => h1.trans (h2.mono h1.size)
                  case vb =>
                    intro oq v a b h hb
                    match oq with
                    | 0 => exact h
                    | 1 => exact h
                    | 2 => exact h
                    | 3 => exact h
                    | 4 => exact h
                    | 5 => exact h
                    | 6 => exact h
                    | 7 => exact h
                    | 8 => exact h
                    | _ + 9 => trivial
                  case steps =>
                    intro vals
                    simp only [List.take_succ_cons, List.take_zero, freeSteps, Act.put, List.setIfInBounds_toArray, List.set_cons_zero, List.set_cons_succ, Nat.reduceAdd]
                    refine ⟨fun w8 hG hW => ?_, fun w8 hG hW => ?_, fun w8 hG hW => ?_, fun w8 hG hW => ?_, fun w8 hG hW => ?_, fun w8 hG hW => ?_, fun w8 hG hW => ?_, fun w8 hG hW => ?_, fun w8 hG hW => ?_, trivial⟩
                    · clear hW
                      refine stepAt_value rfl rfl rfl (.pointer (some ⟨X, 1, none⟩)) w8 ?_ ⟨rfl, Below.refl _ _⟩
                      go_simp
                    · have q0 := hW 0 (by decide)
                      simp only at q0
                      rw [q0]
                      clear hW
                      refine stepAt_value rfl rfl rfl (.pointer (some ⟨wb, 0, none⟩)) w8 ?_ ⟨rfl, Below.refl _ _⟩
                      have hh := (HX.out.below hG HX.out.lt).cell 1
                      simp only [prv, List.getElem?_cons_succ, List.getElem?_cons_zero] at hh
                      go_simp
                    · clear hW
                      exact stepAt_load_run rfl rfl rfl _ _ rfl _ _ rfl (run_load_root HNL.out (HD.out.below hG HD.out.lt).rootAll) ⟨rfl, Below.refl _ _⟩
                    · have q1 := hW 1 (by decide)
                      simp only at q1
                      have q2 := hW 2 (by decide)
                      simp only at q2
                      rw [q1, q2]
                      clear hW
                      refine stepAt_call rfl rfl rfl 14 #[.pointer (some ⟨wb, 0, none⟩), .agg (bv n.1).toArray] (by go_simp) (((HP.out.below hG).weight n.1 HNL.out).mono fun e w' ⟨h1, h2⟩ => ⟨_, h1, by rw [HWV.out], h2⟩)
                    · clear hW
                      refine stepAt_value rfl rfl rfl (.slice (some ⟨bg, boff, none⟩) t.length bcap) w8 ?_ ⟨rfl, Below.refl _ _⟩
                      go_simp
                    · clear hW
                      refine stepAt_value rfl rfl rfl (.int .i64 (k : Int)) w8 ?_ ⟨rfl, Below.refl _ _⟩
                      go_simp
                    · have q4 := hW 4 (by decide)
                      simp only at q4
                      have q5 := hW 5 (by decide)
                      simp only at q5
                      rw [q4, q5]
                      clear hW
                      refine stepAt_value rfl rfl rfl (.pointer (some ⟨bg, boff + k, none⟩)) w8 ?_ ⟨rfl, Below.refl _ _⟩
                      go_simp
                    · have q6 := hW 6 (by decide)
                      simp only at q6
                      rw [q6]
                      clear hW
                      refine stepAt_value rfl rfl rfl (.int .i64 (wtW t o2 k)) w8 ?_ ⟨rfl, Below.refl _ _⟩
                      have hcb := HCB.out _ hG
                      go_simp
                    · have q3 := hW 3 (by decide)
                      simp only at q3
                      have q7 := hW 7 (by decide)
                      simp only at q7
                      rw [q3, q7]
                      clear hW
                      refine stepAt_value rfl rfl rfl (.bool false) w8 ?_ ⟨rfl, Below.refl _ _⟩
                      have hyy : (wtW t o2 k != wtW t o2 k) = false := bne_self_eq_false _
                      go_simp
                  case fin =>
                    intro vals w9 hG hV
                    have q8 := hV 8 (by omega)
                    simp only at q8
                    simp only [List.take_succ_cons, List.take_zero, List.drop_succ_cons, List.drop_zero, putAll, Act.put, List.setIfInBounds_toArray, List.set_cons_zero, List.set_cons_succ, Nat.reduceAdd]
                    rw [q8]
                    clear hV q8
                    generalize vals 0 = y0
                    generalize vals 1 = y1
                    generalize vals 2 = y2
                    generalize vals 3 = y3
                    generalize vals 4 = y4
                    generalize vals 5 = y5
                    generalize vals 6 = y6
                    generalize vals 7 = y7

                    replace HP := Lib.hid (HP.out.below hG)
                    replace HX := Lib.hid (HX.out.below hG HX.out.lt)
                    replace HR := Lib.hid (HR.out.below hG HR.out.lt)
                    replace HQ1 := Lib.hid (HQ1.out.below hG HQ1.out.lt)
                    replace HRW := Lib.hid (HRW.out.below hG)
                    replace HBW := Lib.hid (HBW.out.below hG)
                    replace HB := Lib.hid (HB.out.trans (hG.mono HB.out.size))
                    clear hG HD HCB
                    go_wp2_with fail
                    have hlk := HLT.out
                    go_roundw
                    case rel => exact ⟨k + 1, by omega, by first | rw [HWK.out] | rw [Int.natCast_succ], HP, HX, HR, HQ1, HRW, HBW, HB⟩
                    case measure => exact measK t.length k 1 (wrap64 ((k : Int) + 1)) HWK.out hlk Nat.zero_lt_one
                · have hlt2 : ¬ (k : Int) < (t.length : Int) := by omega
                  clear hlt hk
                  go_wp2_with fail
                  refine wp_region_free (P := Try.prog) 6 (fun w' => Below wx.heap.size wx w') (fun oq v w' => match oq with
                      | 0 => v = .pointer (some ⟨X, 1, none⟩)
                      | 1 => v = .pointer (some ⟨wb, 0, none⟩)
                      | 2 => v = .agg (bv hd).toArray
                      | 3 => v = .agg (bv hd).toArray
                      | 4 => v = .bool true
                      | 5 => v = .bool true
                      | _ => True) (by kernel_rfl) (by kernel_rfl) (Below.refl _ _).drew ?gb ?vb ?steps ?fin
                  case gb => exact fun a b h1 h2 => h1.trans (h2.mono h1.size)
                  case vb =>
                    intro oq v a b h hb
                    match oq with
                    | 0 => exact h
                    | 1 => exact h
                    | 2 => exact h
                    | 3 => exact h
                    | 4 => exact h
                    | 5 => exact h
                    | _ + 6 => trivial
                  case steps =>
                    intro vals
                    simp only [List.take_succ_cons, List.take_zero, freeSteps, Act.put, List.setIfInBounds_toArray, List.set_cons_zero, List.set_cons_succ, Nat.reduceAdd]
                    refine ⟨fun w8 hG hW => ?_, fun w8 hG hW => ?_, fun w8 hG hW => ?_, fun w8 hG hW => ?_, fun w8 hG hW => ?_, fun w8 hG hW => ?_, trivial⟩
                    · clear hW
                      refine stepAt_value rfl rfl rfl (.pointer (some ⟨X, 1, none⟩)) w8 ?_ ⟨rfl, Below.refl _ _⟩
                      go_simp
                    · have q0 := hW 0 (by decide)
                      simp only at q0
                      rw [q0]
                      clear hW
                      refine stepAt_value rfl rfl rfl (.pointer (some ⟨wb, 0, none⟩)) w8 ?_ ⟨rfl, Below.refl _ _⟩
                      have hh := (HX.out.below hG HX.out.lt).cell 1
                      simp only [prv, List.getElem?_cons_succ, List.getElem?_cons_zero] at hh
                      go_simp
                    · have q1 := hW 1 (by decide)
                      simp only at q1
                      rw [q1]
                      clear hW
                      refine stepAt_call rfl rfl rfl 15 #[.pointer (some ⟨wb, 0, none⟩)] (by go_simp) (((HP.out.below hG).head).mono fun e w' ⟨h1, h2⟩ => ⟨_, h1, by rw [HHD.out], h2⟩)
                    · clear hW
                      exact stepAt_load_run rfl rfl rfl _ _ rfl _ _ rfl (run_load_root HHL.out (HQ1.out.below hG HQ1.out.lt).rootAll) ⟨rfl, Below.refl _ _⟩
                    · have q2 := hW 2 (by decide)
                      simp only at q2
                      have q3 := hW 3 (by decide)
                      simp only at q3
                      rw [q2, q3]
                      clear hW
                      refine stepAt_value rfl rfl rfl (.bool true) w8 ?_ ⟨rfl, Below.refl _ _⟩
                      have he := root_eqW w8 hd hd HHL.out HHL.out
                      rw [show (hd == hd) = true from beq_self_eq_true _] at he
                      go_simp
                    · have q4 := hW 4 (by decide)
                      simp only at q4
                      rw [q4]
                      clear hW
                      refine stepAt_value rfl rfl rfl (.bool true) w8 ?_ ⟨rfl, Below.refl _ _⟩
                      go_simp
                  case fin =>
                    intro vals w9 hG hV
                    have q5 := hV 5 (by omega)
                    simp only at q5
                    simp only [List.take_succ_cons, List.take_zero, List.drop_succ_cons, List.drop_zero, putAll, Act.put, List.setIfInBounds_toArray, List.set_cons_zero, List.set_cons_succ, Nat.reduceAdd]
                    rw [q5]
                    clear hV q5
                    generalize vals 0 = y0
                    generalize vals 1 = y1
                    generalize vals 2 = y2
                    generalize vals 3 = y3
                    generalize vals 4 = y4

                    replace HB := Lib.hid (HB.out.trans (hG.mono HB.out.size))
                    clear hG
                    go_wp2_with fail
                    go_ret
                    exact ⟨rfl, HB.out⟩
end Go.Proofs.Ytpamifdcbnkcdaa
