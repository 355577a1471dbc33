/-
  The texts TurnsWalk11, one behind the other.
-/
import Derived.Test.YtpamifdcbnkcdaaTurnsM16
import Derived.Test.YtpamifdcbnkcdaaCMoreWalk11
import Derived.Test.YtpamifdcbnkcdaaTurnsM12
import Derived.Test.YtpamifdcbnkcdaaCOpenZ
/-
  The walk of WeighTurns.
-/
namespace Go.Proofs.Ytpamifdcbnkcdaa
open Go Go.RowKit
set_option maxRecDepth 10000

theorem pickN_is (a : Int) (n : Nat) (h0 : 0 < n) (hn : n ≤ 1000) : wrap64 ((IntKind.u64.wrap a).tmod (n : Int)) = (pickN a n : Int) ∧ pickN a n < n := by
  obtain ⟨J, h1, h2⟩ := pick_at a n h0 hn
  unfold pickN
  rw [h1, Int.toNat_natCast]
  exact ⟨rfl, h2⟩
theorem measT (I n j : Nat) (x : Int) (hx : x = (n : Int) - 1 - ((j + 1 : Nat) : Int)) (hI : (n : Int) - 1 - (j : Int) = I) : (intOf (.int .i64 x) + 1).toNat < (intOf (.int .i64 (I : Int)) + 1).toNat := by
  subst hx
  simp only [intOf]
  omega
theorem turn_pairs (l1 l2 : List Int) (n m : Nat) (h1 : l1.length = m) (h2 : l2.length = m) : ∃ ps : List (Nat × Int), ps.length = m ∧ ∀ (k : Nat) (a b : Int), l1[k]? = some a → l2[k]? = some b → ps[k]? = some (pickN a n, b) :=
  ⟨(l1.zip l2).map fun x => (pickN x.1 n, x.2), by simp [List.length_zip]; omega, fun k a b ha hb => by rw [List.getElem?_map, (List.getElem?_zip_eq_some (z := (a, b))).2 ⟨ha, hb⟩]; rfl⟩

set_option maxHeartbeats 16000000 in
theorem turns_any (w : World) (ao0 : Option Addr) (len0 cap0 g off : Nat) (l : List Ac) (ao1 : Option Addr) (len1 cap1 g1 off1 : Nat) (l1 : List Int) (ao2 : Option Addr) (len2 cap2 g2 off2 : Nat) (l2 : List Int)
    (hl0 : l.length = len0) (h0 : Lies w w.heap.size ao0 g off (acvs l)) (hl1 : l1.length = len1) (h1 : Lies w w.heap.size ao1 g1 off1 (zv l1)) (hl2 : l2.length = len2) (h2 : Lies w w.heap.size ao2 g2 off2 (zv l2)) :
    Calls Try.prog 5 #[.slice ao0 len0 cap0, .slice ao1 len1 cap1, .slice ao2 len2 cap2] w fun e w' => e = .returned (.bool true) ∧ Below w.heap.size w w' := by
  have HL0 := Lib.hid h0
  have HL1 := Lib.hid h1
  have HL2 := Lib.hid h2
  have HN0 := Lib.hid hl0
  have HN1 := Lib.hid hl1
  have HN2 := Lib.hid hl2
  clear h0 h1 h2 hl0 hl1 hl2
  go_enter Try.func5, Try.ntmps5
  go_wp2_with fail
  refine (alive_any w).mono ?_
  rintro e w1 ⟨rfl, hbc⟩
  have HB := Lib.hid hbc
  clear hbc
  by_cases h1 : (40 : Int) < (len0 : Int)
  · go_wp2_with fail
    go_ret
    exact ⟨rfl, HB.out⟩
  by_cases h2 : (40 : Int) < (len2 : Int)
  · go_wp2_with fail
    go_ret
    exact ⟨rfl, HB.out⟩
  by_cases h3 : len1 = len2
  case neg =>
    have hne : ((len1 : Int) != (len2 : Int)) = true := by rw [bne_iff_ne]; omega
    go_wp2_with fail
    go_ret
    exact ⟨rfl, HB.out⟩
  case pos =>
    subst h3
    have HLIM := Lib.hid (show len0 ≤ 40 ∧ len1 ≤ 40 by omega)
    have hne : ((len1 : Int) != (len1 : Int)) = false := bne_self_eq_false _
    go_wp2_with fail
    refine (begun_any w1).mono ?_
    rintro e w2 ⟨tb, wb, mb, rb, rfl, hp, hbc⟩
    have HB1 := Lib.hid HB.out.size
    obtain ⟨B, hBB⟩ : ∃ B, B = w1.heap.size := ⟨_, rfl⟩
    rw [← hBB] at hp HB1
    have HP0 := Lib.hid hp
    replace HB := Lib.hid (HB.out.trans (hbc.mono HB.out.size))
    clear hbc hp hBB
    go_wp2_with fail
    refine (begun_any w2).mono ?_
    rintro e w3 ⟨ub, vb, nb, sb, rfl, hp, hbc⟩
    have HT0 := Lib.hid (show Two B [] w3 ⟨tb, wb, mb, rb, root11, root11, [0], [0]⟩ ⟨ub, vb, nb, sb, root11, root11, [0], [0]⟩ from Two.of HP0.out hbc hp)
    replace HB := Lib.hid (HB.out.trans (hbc.mono HB.out.size))
    clear hbc hp HP0

    obtain ⟨X, hX⟩ : ∃ X, X = w3.heap.size := ⟨_, rfl⟩
    obtain ⟨Y, hY⟩ : ∃ Y, Y = w3.heap.size + 1 := ⟨_, rfl⟩
    have HX0 := Lib.hid (show Blk ((w3.alloc (.cells #[.pointer none, .pointer none, .pointer none] 37)).alloc (.cells #[.pointer none, .pointer none, .pointer none] 37)) X 37 [.pointer none, .pointer none, .pointer none] from by rw [hX]; exact (Blk.new w3 37 #[.pointer none, .pointer none, .pointer none]).below ((Below.refl _ _).alloc (Nat.le_refl _) _) (by simp))
    have HY0 := Lib.hid (show Blk ((w3.alloc (.cells #[.pointer none, .pointer none, .pointer none] 37)).alloc (.cells #[.pointer none, .pointer none, .pointer none] 37)) Y 37 [.pointer none, .pointer none, .pointer none] from by rw [hY, show w3.heap.size + 1 = (w3.alloc (.cells #[.pointer none, .pointer none, .pointer none] 37)).heap.size by simp]; exact Blk.new (w3.alloc (.cells #[.pointer none, .pointer none, .pointer none] 37)) 37 #[.pointer none, .pointer none, .pointer none])
    have HX1 := Lib.hid (HX0.out.setRow (prv tb wb rb))
    have HY1 := Lib.hid (HY0.out.setRow_other (prv tb wb rb).toArray (show Y ≠ X by omega))
    have HX2 := Lib.hid (HX1.out.setRow_other (prv ub vb sb).toArray (show X ≠ Y by omega))
    have HY2 := Lib.hid (HY1.out.setRow (prv ub vb sb))
    have hbx : Below w3.heap.size w3 ((((w3.alloc (.cells #[.pointer none, .pointer none, .pointer none] 37)).alloc (.cells #[.pointer none, .pointer none, .pointer none] 37)).setRow X (prv tb wb rb).toArray).setRow Y (prv ub vb sb).toArray) := below_row (below_row (((Below.refl _ w3).alloc (Nat.le_refl _) _).alloc (by simp) _) (by omega) _) (by omega) _
    have HT := Lib.hid (HT0.out.more hbx (K' := [X, Y]) (fun k hk => by simp at hk; omega) (fun k hk => by
      simp at hk
      rcases hk with rfl | rfl
      · exact HX2.out.lt
      · exact HY2.out.lt))
    replace HB := Lib.hid (HB.out.trans (hbx.mono HB.out.size))
    clear hbx HT0
    rw [List.append_nil] at HT
    go_upto_region 6 with (first
      | ((with_reducible refine wpList_store_pair (.tmp 7) (.tmp 35) ?_ ?_ X tb wb rb ?_ ?_ HX0.out ?_); rfl; rfl; first | rfl | (rw [hX]; rfl); rfl)
      | ((with_reducible refine wpList_store_pair (.tmp 8) (.tmp 36) ?_ ?_ Y ub vb sb ?_ ?_ HY1.out ?_); rfl; rfl; first | rfl | (rw [hY]; rfl); rfl))
    try simp only [Act.put]
    have hY' : Y = X + 1 := by omega
    rw [← hX, ← hY']
    generalize (((w3.alloc (.cells #[.pointer none, .pointer none, .pointer none] 37)).alloc (.cells #[.pointer none, .pointer none, .pointer none] 37)).setRow X (prv tb wb rb).toArray).setRow Y (prv ub vb sb).toArray = w4 at HX2 HY2 HT HB ⊢
    have HX := Lib.hid HX2.out
    have HY := Lib.hid HY2.out
    clear hX hY hY' HX0 HY0 HX1 HY1 HX2 HY2 h1 h2 hne
    go_wp2_with fail
    go_loopw [39] (fun i wr => ∃ (k : Nat) (t : List Nd), k ≤ len0 ∧ i = .int .i64 k ∧ Hid (Two B [X, Y] wr ⟨tb, wb, mb, rb, t, t, [0], [0]⟩ ⟨ub, vb, nb, sb, t, t, [0], [0]⟩) ∧ Hid (Blk wr X 37 (prv tb wb rb)) ∧ Hid (Blk wr Y 37 (prv ub vb sb)) ∧ Hid (Below w.heap.size w wr)) (fun i _ => len0 - (intOf i).toNat)
    case atStart => exact ⟨0, root11, Nat.zero_le _, rfl, HT, HX, HY, HB⟩
    case round =>
      clear HT HX HY HB
      obtain ⟨k, t, hk, rfl, HT, HX, HY, HB⟩ := hrel
      by_cases hlt : k < len0
      · obtain ⟨a, ha⟩ : ∃ a, l[k]? = some a := ⟨_, List.getElem?_eq_getElem (by rw [HN0.out]; exact hlt)⟩
        obtain ⟨hao, hca⟩ := (HL0.out.keep HB.out).act ha
        subst hao
        have HCA := Lib.hid hca
        have HLT := Lib.hid hlt
        have hlt' : (k : Int) < (len0 : Int) := by omega
        have HWR := Lib.hid (show wrap64 ((k : Int) + 1) = ((k + 1 : Nat) : Int) by have := HLIM.out; unfold wrap64; omega)
        clear ha hca hlt hk
        obtain ⟨V, hV⟩ : ∃ V, V = wr.heap.size := ⟨_, rfl⟩
        have HV0 := Lib.hid (show Blk (wr.alloc (.cells #[.int .i64 0, .int .i64 0, .int .i64 0, .int .i64 0, .int .i64 0, .int .i64 0] 40)) wr.heap.size 40 (acv ac0) from Blk.new wr 40 (acv ac0).toArray)
        have hbx : Below wr.heap.size wr ((wr.alloc (.cells #[.int .i64 0, .int .i64 0, .int .i64 0, .int .i64 0, .int .i64 0, .int .i64 0] 40)).setRow wr.heap.size (acv a).toArray) := below_row ((Below.refl _ wr).alloc (Nat.le_refl _) _) (Nat.le_refl _) _
        have HV := Lib.hid (HV0.out.setRow (acv a))
        have HBX := Lib.hid hbx
        clear hbx
        go_upto_region 9 with (first
          | ((with_reducible refine wpList_load_act (.tmp 41) ?_ ?_ g (off + k * 6) a ?_ HCA.out ?_); rfl; rfl; rfl)
          | ((with_reducible refine wpList_store_act (.tmp 10) (.tmp 42) ?_ ?_ wr.heap.size ac0 a ?_ ?_ HV0.out ?_); rfl; rfl; rfl; rfl))
        try simp only [Act.put]
        have HVE := Lib.hid hV
        rw [← hV] at HV ⊢
        generalize hw5 : (wr.alloc (.cells #[.int .i64 0, .int .i64 0, .int .i64 0, .int .i64 0, .int .i64 0, .int .i64 0] 40)).setRow V (acv a).toArray = w5 at HV ⊢
        rw [← hV, hw5] at HBX
        clear hV hw5 HV0 HCA
        have ck0 := HV.out.cell 0
        simp only [acv, List.getElem?_cons_zero] at ck0
        have cf0 := HV.out.free 0
        go_upto_region 10 with fail
        try simp only [Act.put]
        have HV6 := Lib.hid (show Blk (w5.setCell ⟨V, 0, none⟩ (.int .i64 0)) V 40 (acv ⟨0, a.r, a.p, a.s, a.n, a.m⟩) from HV.out.set 0 (.int .i64 0))
        have HB6 := Lib.hid (show Below wr.heap.size wr (w5.setCell ⟨V, 0, none⟩ (.int .i64 0)) by rw [← HVE.out]; exact below_cell HBX.out (Nat.le_refl _) 0 _)
        generalize w5.setCell ⟨V, 0, none⟩ (.int .i64 0) = w6 at HV6 HB6 ⊢
        clear HV HBX ck0 cf0
        have HT6 := Lib.hid (HT.out.more HB6.out (K' := [V]) (fun k hk => by simp at hk; have := HVE.out; omega) (fun k hk => by simp at hk; rw [hk]; exact HV6.out.lt))
        have HX6 := Lib.hid (HX.out.below HB6.out HX.out.lt)
        have HY6 := Lib.hid (HY.out.below HB6.out HY.out.lt)
        replace HB := Lib.hid (HB.out.trans (HB6.out.mono HB.out.size))
        clear HT HX HY HB6 HVE
        have hd : doP (t, [0]) ⟨0, a.r, a.p, a.s, a.n, a.m⟩ = ((addT 256 t (nmN a.r) (nmN a.p) a.s).2, [0]) := by unfold doP; rw [if_pos rfl]
        have HDP := Lib.hid hd
        clear hd
        have HVA := Lib.hid (show ∀ j v, (acv ⟨0, a.r, a.p, a.s, a.n, a.m⟩)[j]? = some v → w6.cell? ⟨V, 0 + j, none⟩ = some v from fun j v hj => by rw [Nat.zero_add, HV6.out.cell]; exact hj)
        obtain ⟨Z, hpa, hback⟩ := HT6.out.left
        have HPA := Lib.hid hpa
        have HBK := Lib.hid hback
        clear hpa hback
        go_wp2_with (first
          | ((with_reducible refine wpList_load_pair (.tmp 7) ?_ ?_ X tb wb rb ?_ HX6.out ?_); rfl; rfl; rfl)
          | ((with_reducible refine wpList_load_act (.tmp 10) ?_ ?_ V 0 ⟨0, a.r, a.p, a.s, a.n, a.m⟩ ?_ HVA.out ?_); rfl; rfl; rfl))
        refine (do_any w6 B (Z ++ ([V] ++ [X, Y])) tb wb mb rb t [0] ⟨0, a.r, a.p, a.s, a.n, a.m⟩ HPA.out).mono ?_
        rintro e w7 ⟨rfl, hp7, hb7, hk7⟩
        rw [HDP.out] at hp7
        have HT7 := Lib.hid (HBK.out w7 _ _ _ _ hp7 hk7 hb7)
        have HX7 := Lib.hid (hk7.blk HX6.out (by simp))
        have HY7 := Lib.hid (hk7.blk HY6.out (by simp))
        have HV7 := Lib.hid (hk7.blk HV6.out (by simp))
        replace HB := Lib.hid (HB.out.trans (hb7.mono HB1.out))
        clear hp7 hb7 hk7 HPA HBK HVA HT6 HX6 HY6 HV6
        have HVA := Lib.hid (show ∀ j v, (acv ⟨0, a.r, a.p, a.s, a.n, a.m⟩)[j]? = some v → w7.cell? ⟨V, 0 + j, none⟩ = some v from fun j v hj => by rw [Nat.zero_add, HV7.out.cell]; exact hj)
        obtain ⟨Z2, hpa, hback⟩ := HT7.out.symm.left
        have HPA := Lib.hid hpa
        have HBK := Lib.hid hback
        clear hpa hback
        go_wp2_with (first
          | ((with_reducible refine wpList_load_pair (.tmp 8) ?_ ?_ Y ub vb sb ?_ HY7.out ?_); rfl; rfl; rfl)
          | ((with_reducible refine wpList_load_act (.tmp 10) ?_ ?_ V 0 ⟨0, a.r, a.p, a.s, a.n, a.m⟩ ?_ HVA.out ?_); rfl; rfl; rfl))
        refine (do_any w7 B (Z2 ++ ([V] ++ [X, Y])) ub vb nb sb t [0] ⟨0, a.r, a.p, a.s, a.n, a.m⟩ HPA.out).mono ?_
        rintro e w8 ⟨rfl, hp7, hb7, hk7⟩
        rw [HDP.out] at hp7
        have HT8 := Lib.hid (Two.drop [V] (HBK.out w8 _ _ _ _ hp7 hk7 hb7).symm)
        have HX8 := Lib.hid (hk7.blk HX7.out (by simp))
        have HY8 := Lib.hid (hk7.blk HY7.out (by simp))
        replace HB := Lib.hid (HB.out.trans (hb7.mono HB1.out))
        clear hp7 hb7 hk7 HPA HBK HVA HT7 HX7 HY7 HV7 HDP
        go_wp2_with fail
        have hlk := HLT.out
        go_roundw
        case rel => exact ⟨k + 1, _, by omega, by first | rw [HWR.out] | rw [Int.natCast_succ], HT8, HX8, HY8, HB⟩
        case measure => exact measK len0 k 1 ((k : Int) + 1) (by omega) hlk Nat.zero_lt_one
      · have hge : ¬ (k : Int) < (len0 : Int) := by omega
        have HGD := Lib.hid (show Good t 256 from HT.out.fst.good)
        clear hlt hk
        have HM256 := Lib.hid (show t.length ≤ 256 ∧ 1 ≤ t.length by have := HGD.out.room; have := HGD.out.most256; have := HGD.out.pos; omega)
        obtain ⟨own, hown⟩ : ∃ own : List Int, own = [0] := ⟨_, rfl⟩
        rw [← hown] at HT
        have HOW := Lib.hid hown
        clear hown
        obtain ⟨n0, hn0⟩ : ∃ n, t[0]? = some n := ⟨_, List.getElem?_eq_getElem (by have := HM256.out; omega)⟩
        have HN00 := Lib.hid hn0
        clear hn0
        have kp0 := HX.out.cell 0
        simp only [prv, List.getElem?_cons_zero] at kp0
        go_wp2_with fail
        refine HT.out.fst.roots.mono ?_
        rintro e w5 ⟨v, rfl, hv, hbc⟩
        clear kp0
        have HRT := Lib.hid HGD.out.rts
        have HRL := Lib.hid (rs_length t)
        obtain ⟨ro, rcap, rg, roff, rfl, hrl⟩ := wide_names hv HRT.out
        obtain ⟨hro, _⟩ := hrl.name HRT.out (rs_at HN00.out)
        subst hro
        have hrg : rg < w5.heap.size := hrl.lt (by rw [rv_length _ HRT.out, rs_length]; have := HM256.out; omega)
        have hrb : wr.heap.size ≤ rg := hv.own rg rfl
        have HRW := Lib.hid hrl
        replace HT := Lib.hid (HT.out.more hbc (K' := [rg]) (fun k hk => by simp at hk; omega) (fun k hk => by simp at hk; omega))
        replace HX := Lib.hid (HX.out.below hbc HX.out.lt)
        replace HY := Lib.hid (HY.out.below hbc HY.out.lt)
        replace HB := Lib.hid (HB.out.trans (hbc.mono HB.out.size))
        clear hv hrl hrg hrb hbc HN00
        rw [HRL.out]
        have HNE := Lib.hid (show ((t.length : Int) == 0) = false by have := HM256.out; rw [beq_eq_false_iff_ne]; omega)
        have HUL := Lib.hid (show IntKind.u64.wrap (t.length : Int) = (t.length : Int) by have := HM256.out; simp [IntKind.wrap, IntKind.bits, IntKind.signed]; omega)
        have HTL := Lib.hid (show ¬ (t.length : Int) = 0 by have := HM256.out; omega)
        obtain ⟨ps, hpl, hps⟩ := turn_pairs l1 l2 t.length len1 HN1.out HN2.out
        have HPL := Lib.hid hpl
        have HPS := Lib.hid hps
        clear hpl hps
        obtain ⟨i1, hi1, hz1, hs1, hb1⟩ := info_parts Try.infoDl
        obtain ⟨R0, hR0⟩ : ∃ R0, R0 = w5.heap.size := ⟨_, rfl⟩
        have HRE := Lib.hid hR0
        have HR5 := Lib.hid (show R0 ≤ w5.heap.size by omega)
        clear hR0
        have HW0 := Lib.hid (show Wide 33 w5 R0 (.slice none 0 0) (dvs (dsP t (ps.take 0).reverse)) from wide_nil0 33 w5 R0)
        have HBL0 := Lib.hid (show Below R0 w5 w5 from Below.refl _ _)
        have HF0 := Lib.hid (show FineP t (ps.take 0) from fun p hp => (by cases hp))
        have hne := HNE.out
        go_wp2_with fail
        clear hne
        go_loopw [12, 59] (fun v i wx => ∃ (k : Nat), k ≤ len1 ∧ i = .int .i64 k ∧ Hid (FineP t (ps.take k)) ∧ Hid (Wide 33 wx R0 v (dvs (dsP t (ps.take k).reverse))) ∧ Hid (Below R0 w5 wx)) (fun _ i _ => len1 - (intOf i).toNat)
        case atStart => exact ⟨0, Nat.zero_le _, rfl, HF0, HW0, HBL0⟩
        case round =>
          clear hge HF0 HW0 HBL0
          obtain ⟨k, hk, rfl, HF, HW, HBL⟩ := hrel
          obtain ⟨wx, rfl⟩ : ∃ x, x = wr := ⟨_, rfl⟩
          by_cases hlt : k < len1
          · obtain ⟨a, ha⟩ : ∃ a, l1[k]? = some a := ⟨_, List.getElem?_eq_getElem (by rw [HN1.out]; exact hlt)⟩
            obtain ⟨n, hn⟩ : ∃ n, l2[k]? = some n := ⟨_, List.getElem?_eq_getElem (by rw [HN2.out]; exact hlt)⟩
            have hbl : Below w5.heap.size w5 wx := by rw [← HRE.out]; exact HBL.out
            have HBw := Lib.hid (HB.out.trans (hbl.mono HB.out.size))
            obtain ⟨hao1, hc1⟩ := HL1.out.zv HBw.out ha
            obtain ⟨hao2, hc2⟩ := HL2.out.zv HBw.out hn
            subst hao1
            subst hao2
            have HC1 := Lib.hid hc1
            have HP := Lib.hid (HPS.out k a n ha hn)
            have HLT := Lib.hid hlt
            have hlt' : (k : Int) < (len1 : Int) := by omega
            have HWK := Lib.hid (show wrap64 ((k : Int) + 1) = ((k + 1 : Nat) : Int) by have := HLIM.out; have := HLT.out; unfold wrap64; omega)
            have HRk := Lib.hid (HRW.out.below hbl)
            clear hc1 ha hn hbl hlt hk
            by_cases hn1 : n < 0
            · go_wp2_with fail
              go_ret
              exact ⟨rfl, HBw.out⟩
            by_cases hn2 : 1099511627776 < n
            · go_wp2_with fail
              go_ret
              exact ⟨rfl, HBw.out⟩
            obtain ⟨hJ, hJl⟩ := pickN_is a t.length HM256.out.2 (Nat.le_trans HM256.out.1 (by omega))
            generalize pickN a t.length = J at hJ hJl HP
            obtain ⟨x, hx⟩ : ∃ x, t[J]? = some x := ⟨_, List.getElem?_eq_getElem hJl⟩
            have HXL := Lib.hid (show x.1.length = 32 from HGD.out.nds x (List.mem_of_getElem? hx))
            have HRC := Lib.hid (HRk.out.name HRT.out (rs_at hx)).2
            have HFN := Lib.hid (fine_next HF.out HP.out hJl (by omega) (by omega))
            have HDN := Lib.hid (show dvs (dsP t (ps.take (k + 1)).reverse) = dlv (x.1, n) ++ dvs (dsP t (ps.take k).reverse) by rw [dsP_next HP.out hx, dvs_cons])
            have HDL := Lib.hid (dsP_dls HGD.out (ps.take k).reverse)
            have HLK := Lib.hid (show (dsP t (ps.take k).reverse).length = k by rw [dsP_length, List.length_reverse, List.length_take, HPL.out]; have := HLT.out; omega)
            obtain ⟨qo, qcap, qg, qoff, rfl, hqL, _⟩ := wide_dls HW.out HDL.out
            rw [HLK.out] at HW ⊢
            have HQL := Lib.hid hqL
            have HBD := Lib.hid (built_dl x.1 n HXL.out)
            have HD33 := Lib.hid (dlv_length (d := (x.1, n)) HXL.out)
            have H033 := Lib.hid (show 0 < 33 by decide)
            have H24 := Lib.hid (show 1 * 33 ≤ 2 ^ 24 by decide)
            have HAL := Lib.hid (show Below wx.heap.size wx (wx.alloc (.cells (dlv (x.1, n)).toArray 57)) from (Below.refl _ _).alloc (Nat.le_refl _) _)
            have HW1 := Lib.hid (wide_new 33 1 wx 57 (dlv (x.1, n)) (by rw [HD33.out]) (by unfold maxLen; omega))
            have HSRC := Lib.hid ((hqL.below HAL.out).src (P := Try.prog) (n := k) (k := 33) qcap 54 57 Try.underlying54 (by rw [dvs_length _ HDL.out, HLK.out]) (dvs_one _) (by decide))
            have HM1 := Lib.hid (show (dlv (x.1, n)).length + k ≤ maxLen by rw [HD33.out]; have := HLIM.out; have := HLT.out; unfold maxLen; omega)
            have HM2 := Lib.hid (show ((dlv (x.1, n)).length + k) * 40 ≤ 140737488355328 by rw [HD33.out]; have := HLIM.out; have := HLT.out; omega)
            have HSK := Lib.hid (show wx.heap.size ≤ (wx.alloc (.cells (dlv (x.1, n)).toArray 57)).heap.size from HAL.out.size)
            have hul := HUL.out
            have htl := HTL.out
            have hJl' : (J : Int) < (t.length : Int) := by omega
            have hc1 := HC1.out
            clear hqL hx hJl
            go_wp2_with (first
              | ((with_reducible refine wpList_load_name (.tmp 81) ?_ ?_ rg (roff + J * 32) x.1 ?_ HXL.out HRC.out ?_); rfl; rfl; rfl)
              | ((with_reducible refine wpList_build_l 57 #[(0, .tmp 82), (1, .tmp 83)] _ _ HBD.out ?_ ?_ ?_ ?_); rfl; rfl; rfl)
              | ((with_reducible refine wpList_build_row ?_ 54 57 (.tmp 84) ?_ (dlv (x.1, n)) ?_ i1 (.agg (dlv dl0).toArray) (s := 33) H033.out HD33.out Try.underlying54 hi1 hz1 hs1 H24.out ?_); rfl; rfl; rfl)
              | (at_builtin; refine wpList_append_wide rfl _ _ 54 54 rfl rfl HW1.out (by decide) 57 i1 (.agg (dlv dl0).toArray) 40 Try.underlying54 hi1 hz1 hs1 hb1 rfl _ rfl k _ HSRC.out HM1.out HM2.out HSK.out ?_))
            intro v' w8 hv hg
            have HBN := Lib.hid (HBL.out.trans ((HAL.out.trans (hg.belowW HW1.out HSK.out)).mono (Nat.le_trans HR5.out HBL.out.size)))
            have HWN := Lib.hid (show Wide 33 w8 R0 v' (dvs (dsP t (ps.take (k + 1)).reverse)) by rw [HDN.out]; exact wide_base hv (Nat.le_trans HR5.out HBL.out.size))
            clear hv hg HM1 HM2 HSRC HW1 HAL HSK HW HBL HQL HRk HRC HBw HC1 hc1 hc2 hul htl hJ hJl' HF
            go_wp2_with fail
            have hlk := HLT.out
            go_roundw
            case rel => exact ⟨k + 1, by omega, by first | rw [HWK.out] | rw [Int.natCast_succ], HFN, HWN, HBN⟩
            case measure => first | exact measK len1 k 1 ((k : Int) + 1) (by omega) hlk Nat.zero_lt_one | exact measK len1 k 1 (wrap64 ((k : Int) + 1)) HWK.out hlk Nat.zero_lt_one
          · have hlt2 : ¬ (k : Int) < (len1 : Int) := by omega
            obtain rfl : len1 = k := by omega
            have hbl : Below w5.heap.size w5 wx := by rw [← HRE.out]; exact HBL.out
            have htk : ps.take len1 = ps := by rw [← HPL.out]; exact List.take_length
            have hF := HF.out
            have hW := HW.out
            rw [htk] at hF hW
            have HFP := Lib.hid hF
            have HDL := Lib.hid (dsP_dls HGD.out ps.reverse)
            have HLN := Lib.hid (show (dsP t ps.reverse).length = len1 by rw [dsP_length, List.length_reverse, HPL.out])
            obtain ⟨bo, bcap, bg, boff, rfl, hbL, hbB⟩ := wide_dls hW HDL.out
            have hbw : 0 < len1 → w5.heap.size ≤ bg := fun h0 => by rw [← HRE.out]; exact hbB (by rw [HLN.out]; exact h0)
            have hbt : 0 < len1 → bg < wx.heap.size := fun h0 => hbL.lt (by rw [dvs_length _ HDL.out, HLN.out]; omega)
            obtain ⟨KB, hKB⟩ : ∃ KB, KB = if 0 < len1 then [bg] else [] := ⟨_, rfl⟩
            have HKB := Lib.hid (show 0 < len1 → bg ∈ KB from fun h0 => by rw [hKB, if_pos h0]; simp)
            have hk1 : ∀ k ∈ KB, k = bg ∧ 0 < len1 := fun k hk => by
              rw [hKB] at hk
              split at hk
              · simp at hk; exact ⟨hk, by assumption⟩
              · cases hk
            replace HT := Lib.hid (HT.out.more hbl (K' := KB) (fun k hk => by obtain ⟨rfl, h0⟩ := hk1 k hk; exact hbw h0) (fun k hk => by obtain ⟨rfl, h0⟩ := hk1 k hk; exact hbt h0))
            replace HX := Lib.hid (HX.out.below hbl HX.out.lt)
            replace HY := Lib.hid (HY.out.below hbl HY.out.lt)
            replace HRW := Lib.hid (HRW.out.below hbl)
            replace HB := Lib.hid (HB.out.trans (hbl.mono HB.out.size))
            have HBW := Lib.hid hbL
            have HLC := Lib.hid (show (dvs (dsP t ps.reverse)).length = len1 * 33 by rw [dvs_length _ HDL.out, HLN.out])
            have HOG := Lib.hid (show OwnG own ∧ own.length ≤ t.length ∧ 0 < own.length from HT.out.snd.ownG)
            obtain ⟨o2, ho2⟩ : ∃ o2, o2 = padW t own := ⟨_, rfl⟩
            have HO2 := Lib.hid (show OwnG o2 by rw [ho2]; exact HOG.out.1.pad t)
            have HO2L := Lib.hid (show o2.length = t.length by rw [ho2]; exact padW_length HOG.out.2.1)
            have HO2T := Lib.hid (show totW o2 + (ps.length : Int) * 1099511627776 < 4611686018427387904 by
              rw [ho2, padW, totW_zeros, HOW.out, HPL.out]
              have h0 : totW [0] = 0 := rfl
              rw [h0]
              have := HLIM.out
              omega)
            have HAN := Lib.hid (show appW t own [] = (0, o2) by rw [ho2]; exact appW_none HOG.out.1 t)
            have HAB := Lib.hid (show appW t own (dsP t ps.reverse) = (0, putP o2 ps.reverse) by
              rw [appW_pad HOG.out.2.1, ← ho2]
              exact appW_put HGD.out _ _ HO2L.out HO2.out HFP.out.reverse (by rw [List.length_reverse]; exact HO2T.out))
            clear hbl htk hF hW HF HW HBL hbL hbB hbw hbt hKB hk1 ho2 hlt hk HRE HR5 HOW HOG HL1 HL2
            have kp1 := HY.out.cell 1
            simp only [prv, List.getElem?_cons_succ, List.getElem?_cons_zero] at kp1
            obtain ⟨Z, hpb, hback⟩ := HT.out.symm.left
            have HPB := Lib.hid hpb
            have HBK := Lib.hid hback
            clear hpb hback
            go_wp2_with fail
            refine (PSX.apply (show PSX B (Z ++ (KB ++ ([rg] ++ [X, Y]))) wx ub vb nb sb t t own own from HPB.out) (dsP t ps.reverse) bo bcap bg boff HDL.out (by rw [HLN.out]; have := HLIM.out; omega) HBW.out (fun h0 => by rw [HLN.out] at h0; simp [HKB.out h0])).mono ?_
            rintro e w6 ⟨rfl, hp, hb, hk⟩
            rw [HAB.out] at hp ⊢
            have HT2 := Lib.hid (HBK.out w6 _ _ _ _ hp hk hb).symm
            have HX2 := Lib.hid (hk.blk HX.out (by simp))
            have HY2 := Lib.hid (hk.blk HY.out (by simp))
            have HRW2 := Lib.hid (lies_held HRW.out hk (by simp) hb.size)
            have HBW2 := Lib.hid (lies_heldE HBW.out hk (fun h0 => by rw [HLC.out] at h0; simp [HKB.out (by omega)]) hb.size)
            replace HB := Lib.hid (HB.out.trans (hb.mono HB1.out))
            clear hp hb hk kp1 HPB HBK HT HX HY HRW HBW HAB
            have kp1 := HX2.out.cell 1
            simp only [prv, List.getElem?_cons_succ, List.getElem?_cons_zero] at kp1
            obtain ⟨Z2, hpb, hback⟩ := HT2.out.left
            have HPB := Lib.hid hpb
            have HBK := Lib.hid hback
            clear hpb hback
            go_wp2_with fail
            refine (PSX.apply (show PSX B (Z2 ++ (KB ++ ([rg] ++ [X, Y]))) w6 tb wb mb rb t t own own from HPB.out) [] none 0 0 0 (fun d hd => by cases hd) (by simp) ⟨fun h => absurd h (by simp [dvs]), fun h => absurd h (by simp [dvs]), fun j u h => by simp [dvs] at h⟩ (fun h => absurd h (by simp))).mono ?_
            rintro e w7 ⟨rfl, hp, hb, hk⟩
            rw [HAN.out] at hp ⊢
            have HT := Lib.hid (HBK.out w7 _ _ _ _ hp hk hb)
            have HX := Lib.hid (hk.blk HX2.out (by simp))
            have HY := Lib.hid (hk.blk HY2.out (by simp))
            have HRW := Lib.hid (lies_held HRW2.out hk (by simp) hb.size)
            have HBW := Lib.hid (lies_heldE HBW2.out hk (fun h0 => by rw [HLC.out] at h0; simp [HKB.out (by omega)]) hb.size)
            replace HB := Lib.hid (HB.out.trans (hb.mono HB1.out))
            clear hp hb hk kp1 HPB HBK HT2 HX2 HY2 HRW2 HBW2 HAN
            rw [HLN.out]
            have hsub : wrap64 ((len1 : Int) - 1) = (len1 : Int) - 1 := by have := HLIM.out; unfold wrap64; omega
            go_wp2_with fail
            clear hsub
            go_loopw [15] (fun i wx => ∃ (j : Nat), j ≤ len1 ∧ i = .int .i64 ((len1 : Int) - 1 - (j : Int)) ∧ Hid (Two B (KB ++ ([rg] ++ [X, Y])) wx ⟨tb, wb, mb, rb, t, t, putP o2 (ps.take j), own⟩ ⟨ub, vb, nb, sb, t, t, putP o2 ps.reverse, own⟩) ∧ Hid (Blk wx X 37 (prv tb wb rb)) ∧ Hid (Blk wx Y 37 (prv ub vb sb)) ∧ Hid (Lies wx wx.heap.size (some ⟨rg, roff, none⟩) rg roff (rv (rs t))) ∧ Hid (Lies wx wx.heap.size bo bg boff (dvs (dsP t ps.reverse))) ∧ Hid (Below w.heap.size w wx)) (fun i _ => (intOf i + 1).toNat)
            case atStart => exact ⟨0, Nat.zero_le _, by simp, HT, HX, HY, HRW, HBW, HB⟩
            case round =>
              clear HT HX HY HRW HBW HB
              obtain ⟨j, hj, rfl, HT, HX, HY, HRW, HBW, HB⟩ := hrel
              obtain ⟨wx, rfl⟩ : ∃ x, x = wr := ⟨_, rfl⟩
              by_cases hlt : j < len1
              · obtain ⟨I, hI⟩ : ∃ I : Nat, (len1 : Int) - 1 - (j : Int) = I := ⟨len1 - 1 - j, by omega⟩
                rw [hI]
                have HI := Lib.hid hI
                obtain ⟨p, hp⟩ : ∃ p, ps[j]? = some p := ⟨_, List.getElem?_eq_getElem (by rw [HPL.out]; exact hlt)⟩
                obtain ⟨d, hd⟩ : ∃ d : Dl, d = (pnm t (p.1 : Int), p.2) := ⟨_, rfl⟩
                have HD := Lib.hid (show (dsP t ps.reverse)[I]? = some d by
                  have hl := HPL.out
                  rw [dsP, List.getElem?_map, List.getElem?_reverse (by omega), show ps.length - 1 - I = j by omega, hp, hd]
                  rfl)
                have HDL1 := Lib.hid (show d.1.length = 32 from HDL.out d (List.mem_of_getElem? HD.out))
                have HAP := Lib.hid (show appW t (putP o2 (ps.take j)) [d] = (0, putP o2 (ps.take (j + 1))) by
                  rw [hd]
                  exact put_next HGD.out HO2L.out HO2.out HFP.out HO2T.out hp)
                have hbo := HBW.out.dl_addr HDL.out HD.out
                subst hbo
                have HCD := Lib.hid (HBW.out.dl HDL.out HD.out)
                have HLT := Lib.hid hlt
                have hIl : (I : Int) < (len1 : Int) := by omega
                have HIL := Lib.hid hIl
                have HWI := Lib.hid (show wrap64 ((I : Int) - 1) = (len1 : Int) - 1 - ((j + 1 : Nat) : Int) by have := HLIM.out; have := HLT.out; unfold wrap64; omega)
                have HD33 := Lib.hid (dlv_length (d := d) HDL1.out)
                clear hp hd hI hlt hj hIl
                go_wp2_with fail
                refine wp_region_free (P := Try.prog) 7 (fun w' => Below wx.heap.size wx w') (fun oq v w' => match oq with
                    | 0 => v = .pointer (some ⟨X, 1, none⟩)
                    | 1 => v = .pointer (some ⟨wb, 0, none⟩)
                    | 2 => v = .slice (some ⟨bg, boff, none⟩) len1 bcap
                    | 3 => v = .int .i64 (I : Int)
                    | 4 => v = .pointer (some ⟨bg, boff + I * 33, none⟩)
                    | 5 => v = .agg (dlv d).toArray
                    | 6 => ∃ gb, v = .slice (some ⟨gb, 0, none⟩) 1 1 ∧ Blk w' gb 57 (dlv d) ∧ wx.heap.size ≤ gb
                    | _ => True) (by kernel_rfl) (by kernel_rfl) (Below.refl _ _).drew ?gb ?vb ?steps ?fin
                case gb => exact fun a b h1 h2 => h1.trans (h2.mono h1.size)
                case vb =>
                  intro oq v a b h hb
                  match oq with
                  | 0 => exact h
                  | 1 => exact h
                  | 2 => exact h
                  | 3 => exact h
                  | 4 => exact h
                  | 5 => exact h
                  | 6 => (obtain ⟨gb, h1, h2, h3⟩ := h; exact ⟨gb, h1, h2.below hb h2.lt, h3⟩)
                  | _ + 7 => trivial
                case steps =>
                  intro vals
                  simp only [List.take_succ_cons, List.take_zero, freeSteps, Act.put, List.setIfInBounds_toArray, List.set_cons_zero, List.set_cons_succ, Nat.reduceAdd]
                  refine ⟨fun w8 hG hW => ?_, fun w8 hG hW => ?_, fun w8 hG hW => ?_, fun w8 hG hW => ?_, fun w8 hG hW => ?_, fun w8 hG hW => ?_, fun w8 hG hW => ?_, trivial⟩
                  · clear hW
                    refine stepAt_value rfl rfl rfl (.pointer (some ⟨X, 1, none⟩)) w8 ?_ ⟨rfl, Below.refl _ _⟩
                    go_simp
                  · have q0 := hW 0 (by decide)
                    simp only at q0
                    rw [q0]
                    clear hW
                    refine stepAt_value rfl rfl rfl (.pointer (some ⟨wb, 0, none⟩)) w8 ?_ ⟨rfl, Below.refl _ _⟩
                    have hh := (HX.out.below hG HX.out.lt).cell 1
                    simp only [prv, List.getElem?_cons_succ, List.getElem?_cons_zero] at hh
                    go_simp
                  · clear hW
                    refine stepAt_value rfl rfl rfl (.slice (some ⟨bg, boff, none⟩) len1 bcap) w8 ?_ ⟨rfl, Below.refl _ _⟩
                    go_simp
                  · clear hW
                    refine stepAt_value rfl rfl rfl (.int .i64 (I : Int)) w8 ?_ ⟨rfl, Below.refl _ _⟩
                    go_simp
                  · have q2 := hW 2 (by decide)
                    simp only at q2
                    have q3 := hW 3 (by decide)
                    simp only at q3
                    rw [q2, q3]
                    clear hW
                    refine stepAt_value rfl rfl rfl (.pointer (some ⟨bg, boff + I * 33, none⟩)) w8 ?_ ⟨rfl, Below.refl _ _⟩
                    have hil := HIL.out
                    go_simp
                  · have q4 := hW 4 (by decide)
                    simp only at q4
                    rw [q4]
                    clear hW
                    exact stepAt_load_run rfl rfl rfl _ _ rfl _ _ rfl (run_loadAt_agg (g := bg) (off := boff + I * 33) (cs := dlv d) (fun j' v' hj' => (HBW.out.below hG).dl HDL.out HD.out j' v' hj') 57 Try.aggDl (dsize HDL1.out)) ⟨rfl, Below.refl _ _⟩
                  · have q5 := hW 5 (by decide)
                    simp only at q5
                    rw [q5]
                    clear hW
                    refine stepAt_build_rows rfl rfl rfl 54 57 1 _ rfl i1 (.agg (dlv dl0).toArray) (s := 33) (by omega) [dlv d] (fun rr hrr => by simp at hrr; rw [hrr]; exact HD33.out) Try.underlying54 hi1 hz1 hs1 rfl (by omega) (by omega) rfl ⟨⟨w8.heap.size, rfl, ?_, hG.size⟩, (Below.refl _ _).alloc (Nat.le_refl _) _⟩
                    rw [show ([dlv d] : List (List Value)).flatten = dlv d by simp]
                    exact Blk.new w8 57 (dlv d).toArray

                case fin =>
                  intro vals w9 hG hV
                  have q1 := hV 1 (by omega)
                  simp only at q1
                  have q6 := hV 6 (by omega)
                  simp only at q6
                  obtain ⟨gb, q6, hgb, hgl⟩ := q6
                  simp only [List.take_succ_cons, List.take_zero, List.drop_succ_cons, List.drop_zero, putAll, Act.put, List.setIfInBounds_toArray, List.set_cons_zero, List.set_cons_succ, Nat.reduceAdd]
                  rw [q1, q6]
                  clear hV q1 q6
                  generalize vals 0 = y0
                  generalize vals 2 = y2
                  generalize vals 3 = y3
                  generalize vals 4 = y4
                  generalize vals 5 = y5
                  have HGB := Lib.hid hgb
                  have HT9 := Lib.hid (HT.out.more hG (K' := [gb]) (fun k hk => by simp at hk; omega) (fun k hk => by simp at hk; rw [hk]; exact hgb.lt))
                  have HX9 := Lib.hid (HX.out.below hG HX.out.lt)
                  have HY9 := Lib.hid (HY.out.below hG HY.out.lt)
                  have HRW9 := Lib.hid (HRW.out.below hG)
                  have HBW9 := Lib.hid (HBW.out.below hG)
                  replace HB := Lib.hid (HB.out.trans (hG.mono HB.out.size))
                  have HLG := Lib.hid (show Lies w9 w9.heap.size (some ⟨gb, 0, none⟩) gb 0 (dvs [d]) by
                    rw [dvs_sole]
                    exact ⟨fun _ => rfl, fun _ => hgb.lt, fun j u hj => by rw [Nat.zero_add, hgb.cell]; exact hj⟩)
                  clear hG hgb hgl HT HX HY HRW HBW HCD
                  obtain ⟨Z, hpb, hback⟩ := HT9.out.left
                  have HPB := Lib.hid hpb
                  have HBK := Lib.hid hback
                  clear hpb hback
                  go_wp2_with fail
                  refine (PSX.apply (show PSX B (Z ++ ([gb] ++ (KB ++ ([rg] ++ [X, Y])))) w9 tb wb mb rb t t (putP o2 (ps.take j)) own from HPB.out) [d] (some ⟨gb, 0, none⟩) 1 gb 0 (fun d' hd' => by simp at hd'; rw [hd']; exact HDL1.out) (by simp) HLG.out (fun _ => by simp)).mono ?_
                  rintro e w10 ⟨rfl, hp, hb, hk⟩
                  rw [HAP.out] at hp ⊢
                  have HT := Lib.hid (Two.drop [gb] (HBK.out w10 _ _ _ _ hp hk hb))
                  have HX := Lib.hid (hk.blk HX9.out (by simp))
                  have HY := Lib.hid (hk.blk HY9.out (by simp))
                  have HRW := Lib.hid (lies_held HRW9.out hk (by simp) hb.size)
                  have HBW := Lib.hid (lies_heldE HBW9.out hk (fun h0 => by rw [HLC.out] at h0; simp [HKB.out (by omega)]) hb.size)
                  replace HB := Lib.hid (HB.out.trans (hb.mono HB1.out))
                  clear hp hb hk HPB HBK HT9 HX9 HY9 HRW9 HBW9 HLG HGB HAP HD HDL1 HD33
                  go_wp2_with fail
                  have hlk := HLT.out
                  go_roundw
                  case rel => exact ⟨j + 1, by omega, by rw [HWI.out], HT, HX, HY, HRW, HBW, HB⟩
                  case measure => exact measT I len1 j _ HWI.out HI.out
              · have hlt2 : ¬ (0 : Int) ≤ (len1 : Int) - 1 - (j : Int) := by omega
                obtain rfl : len1 = j := by omega
                obtain ⟨o3, ho3⟩ : ∃ o3, o3 = putP o2 ps.reverse := ⟨_, rfl⟩
                have ho4 : putP o2 (ps.take len1) = o3 := by
                  rw [ho3, putP_reverse ps o2 (fun p hp => by rw [HO2L.out]; exact (HFP.out p hp).1), show ps.take len1 = ps by rw [← HPL.out]; exact List.take_length]
                have hT := HT.out
                rw [ho4, ← ho3] at hT
                have HT3 := Lib.hid hT
                have HOL := Lib.hid (show o3.length = t.length by rw [ho3, putP_length]; exact HO2L.out)
                clear hT ho3 ho4 HT HBW hlt hj hlt2
                have HT := HT3
                clear HT3
                go_wp2_with fail
                go_loopw [118] (fun i wx => ∃ (k : Nat), k ≤ t.length ∧ i = .int .i64 k ∧ Hid (Two B (KB ++ ([rg] ++ [X, Y])) wx ⟨tb, wb, mb, rb, t, t, o3, own⟩ ⟨ub, vb, nb, sb, t, t, o3, own⟩) ∧ Hid (Blk wx X 37 (prv tb wb rb)) ∧ Hid (Blk wx Y 37 (prv ub vb sb)) ∧ Hid (Lies wx wx.heap.size (some ⟨rg, roff, none⟩) rg roff (rv (rs t))) ∧ Hid (Below w.heap.size w wx)) (fun i _ => t.length - (intOf i).toNat)
                case atStart => exact ⟨0, Nat.zero_le _, rfl, HT, HX, HY, HRW, HB⟩
                case round =>
                  clear HT HX HY HRW HB
                  obtain ⟨k, hk, rfl, HT, HX, HY, HRW, HB⟩ := hrel
                  obtain ⟨wx, rfl⟩ : ∃ x, x = wr := ⟨_, rfl⟩
                  by_cases hlt : k < t.length
                  · obtain ⟨n, hn⟩ : ∃ n, t[k]? = some n := ⟨_, List.getElem?_eq_getElem hlt⟩
                    have HNL := Lib.hid (show n.1.length = 32 from HGD.out.nds n (List.mem_of_getElem? hn))
                    have HWV := Lib.hid (tellZ_at HGD.out hn (show k < o3.length by rw [HOL.out]; exact hlt) 0 (wtW t o3))
                    have HOV := Lib.hid (tellZ_at HGD.out hn (show k < o3.length by rw [HOL.out]; exact hlt) 0 (owZ o3))
                    have HRC := Lib.hid (HRW.out.name HRT.out (rs_at hn)).2
                    have HLT := Lib.hid hlt
                    have hlt' : (k : Int) < (t.length : Int) := by omega
                    have HWK := Lib.hid (show wrap64 ((k : Int) + 1) = ((k + 1 : Nat) : Int) by have := HM256.out; have := HLT.out; unfold wrap64; omega)
                    clear hn hlt hk
                    have HZ := Lib.hid (blk_zeroR wx)
                    have HZL := Lib.hid zero32_len
                    have HD := Lib.hid (HZ.out.setRow (bv n.1))
                    have hbx : Below wx.heap.size wx ((wx.alloc (.cells #[.int .u8 0, .int .u8 0, .int .u8 0, .int .u8 0, .int .u8 0, .int .u8 0, .int .u8 0, .int .u8 0, .int .u8 0, .int .u8 0, .int .u8 0, .int .u8 0, .int .u8 0, .int .u8 0, .int .u8 0, .int .u8 0, .int .u8 0, .int .u8 0, .int .u8 0, .int .u8 0, .int .u8 0, .int .u8 0, .int .u8 0, .int .u8 0, .int .u8 0, .int .u8 0, .int .u8 0, .int .u8 0, .int .u8 0, .int .u8 0, .int .u8 0, .int .u8 0] 24)).setRow wx.heap.size (bv n.1).toArray) := below_row ((Below.refl _ wx).alloc (Nat.le_refl _) _) (Nat.le_refl _) _
                    replace HT := Lib.hid (HT.out.below hbx)
                    replace HX := Lib.hid (HX.out.below hbx HX.out.lt)
                    replace HY := Lib.hid (HY.out.below hbx HY.out.lt)
                    replace HRW := Lib.hid (HRW.out.below hbx)
                    replace HB := Lib.hid (HB.out.trans (hbx.mono HB.out.size))
                    clear hbx
                    obtain ⟨D, hRR⟩ : ∃ D, D = wx.heap.size := ⟨_, rfl⟩
                    go_upto_region 34 with (first | ((with_reducible refine wpList_load_name (.tmp 120) ?_ ?_ rg (roff + k * 32) n.1 ?_ HNL.out HRC.out ?_); rfl; rfl; rfl) | ((with_reducible refine wpList_store_name (.tmp 17) (.tmp 121) ?_ ?_ wx.heap.size zero32 n.1 ?_ ?_ HZ.out HZL.out HNL.out ?_); rfl; rfl; rfl; rfl))
                    try simp only [Act.put]
                    rw [← hRR] at HD HT HX HY HRW HB ⊢
                    generalize (wx.alloc (.cells #[.int .u8 0, .int .u8 0, .int .u8 0, .int .u8 0, .int .u8 0, .int .u8 0, .int .u8 0, .int .u8 0, .int .u8 0, .int .u8 0, .int .u8 0, .int .u8 0, .int .u8 0, .int .u8 0, .int .u8 0, .int .u8 0, .int .u8 0, .int .u8 0, .int .u8 0, .int .u8 0, .int .u8 0, .int .u8 0, .int .u8 0, .int .u8 0, .int .u8 0, .int .u8 0, .int .u8 0, .int .u8 0, .int .u8 0, .int .u8 0, .int .u8 0, .int .u8 0] 24)).setRow D (bv n.1).toArray = w9 at HD HT HX HY HRW HB ⊢
                    clear HZ HZL hRR

                    clear HRC
                    refine wp_region_free (P := Try.prog) 20 (fun w' => Below w9.heap.size w9 w') (fun oq v w' => match oq with
                        | 0 => v = .pointer (some ⟨X, 1, none⟩)
                        | 1 => v = .pointer (some ⟨wb, 0, none⟩)
                        | 2 => v = .agg (bv n.1).toArray
                        | 3 => v = .int .i64 (wtW t o3 k)
                        | 4 => v = .pointer (some ⟨Y, 1, none⟩)
                        | 5 => v = .pointer (some ⟨vb, 0, none⟩)
                        | 6 => v = .agg (bv n.1).toArray
                        | 7 => v = .int .i64 (wtW t o3 k)
                        | 8 => v = .bool false
                        | 9 => v = .bool false
                        | 10 => v = .pointer (some ⟨X, 1, none⟩)
                        | 11 => v = .pointer (some ⟨wb, 0, none⟩)
                        | 12 => v = .agg (bv n.1).toArray
                        | 13 => v = .int .i64 (owZ o3 k)
                        | 14 => v = .pointer (some ⟨Y, 1, none⟩)
                        | 15 => v = .pointer (some ⟨vb, 0, none⟩)
                        | 16 => v = .agg (bv n.1).toArray
                        | 17 => v = .int .i64 (owZ o3 k)
                        | 18 => v = .bool false
                        | 19 => v = .bool false
                        | _ => True) (by kernel_rfl) (by kernel_rfl) (Below.refl _ _).drew ?gb ?vb ?steps ?fin
                    case gb => exact fun a b h1 h2 => h1.trans (h2.mono h1.size)
                    case vb =>
                      intro oq v a b h hb
                      match oq with
                      | 0 => exact h
                      | 1 => exact h
                      | 2 => exact h
                      | 3 => exact h
                      | 4 => exact h
                      | 5 => exact h
                      | 6 => exact h
                      | 7 => exact h
                      | 8 => exact h
                      | 9 => exact h
                      | 10 => exact h
                      | 11 => exact h
                      | 12 => exact h
                      | 13 => exact h
                      | 14 => exact h
                      | 15 => exact h
                      | 16 => exact h
                      | 17 => exact h
                      | 18 => exact h
                      | 19 => exact h
                      | _ + 20 => trivial
                    case steps =>
                      intro vals
                      simp only [List.take_succ_cons, List.take_zero, freeSteps, Act.put, List.setIfInBounds_toArray, List.set_cons_zero, List.set_cons_succ, Nat.reduceAdd]
                      refine ⟨fun w8 hG hW => ?_, fun w8 hG hW => ?_, fun w8 hG hW => ?_, fun w8 hG hW => ?_, fun w8 hG hW => ?_, fun w8 hG hW => ?_, fun w8 hG hW => ?_, fun w8 hG hW => ?_, fun w8 hG hW => ?_, fun w8 hG hW => ?_, fun w8 hG hW => ?_, fun w8 hG hW => ?_, fun w8 hG hW => ?_, fun w8 hG hW => ?_, fun w8 hG hW => ?_, fun w8 hG hW => ?_, fun w8 hG hW => ?_, fun w8 hG hW => ?_, fun w8 hG hW => ?_, fun w8 hG hW => ?_, trivial⟩
                      · clear hW
                        refine stepAt_value rfl rfl rfl (.pointer (some ⟨X, 1, none⟩)) w8 ?_ ⟨rfl, Below.refl _ _⟩
                        go_simp
                      · have q0 := hW 0 (by decide)
                        simp only at q0
                        rw [q0]
                        clear hW
                        refine stepAt_value rfl rfl rfl (.pointer (some ⟨wb, 0, none⟩)) w8 ?_ ⟨rfl, Below.refl _ _⟩
                        have hh := (HX.out.below hG HX.out.lt).cell 1
                        simp only [prv, List.getElem?_cons_succ, List.getElem?_cons_zero] at hh
                        go_simp
                      · clear hW
                        exact stepAt_load_run rfl rfl rfl _ _ rfl _ _ rfl (run_load_root HNL.out (HD.out.below hG HD.out.lt).rootAll) ⟨rfl, Below.refl _ _⟩
                      · have q1 := hW 1 (by decide)
                        simp only at q1
                        have q2 := hW 2 (by decide)
                        simp only at q2
                        rw [q1, q2]
                        clear hW
                        refine stepAt_call rfl rfl rfl 14 #[.pointer (some ⟨wb, 0, none⟩), .agg (bv n.1).toArray] (by go_simp) ((PSX.weight (show PSX B (KB ++ ([rg] ++ [X, Y])) w8 tb wb mb rb t t o3 own from (HT.out.below hG).fst) n.1 HNL.out).mono fun e w' ⟨h1, h2⟩ => ⟨_, h1, by rw [HWV.out], h2⟩)
                      · clear hW
                        refine stepAt_value rfl rfl rfl (.pointer (some ⟨Y, 1, none⟩)) w8 ?_ ⟨rfl, Below.refl _ _⟩
                        go_simp
                      · have q4 := hW 4 (by decide)
                        simp only at q4
                        rw [q4]
                        clear hW
                        refine stepAt_value rfl rfl rfl (.pointer (some ⟨vb, 0, none⟩)) w8 ?_ ⟨rfl, Below.refl _ _⟩
                        have hh := (HY.out.below hG HY.out.lt).cell 1
                        simp only [prv, List.getElem?_cons_succ, List.getElem?_cons_zero] at hh
                        go_simp
                      · clear hW
                        exact stepAt_load_run rfl rfl rfl _ _ rfl _ _ rfl (run_load_root HNL.out (HD.out.below hG HD.out.lt).rootAll) ⟨rfl, Below.refl _ _⟩
                      · have q5 := hW 5 (by decide)
                        simp only at q5
                        have q6 := hW 6 (by decide)
                        simp only at q6
                        rw [q5, q6]
                        clear hW
                        refine stepAt_call rfl rfl rfl 14 #[.pointer (some ⟨vb, 0, none⟩), .agg (bv n.1).toArray] (by go_simp) ((PSX.weight (show PSX B (KB ++ ([rg] ++ [X, Y])) w8 ub vb nb sb t t o3 own from (HT.out.below hG).snd) n.1 HNL.out).mono fun e w' ⟨h1, h2⟩ => ⟨_, h1, by rw [HWV.out], h2⟩)
                      · have q3 := hW 3 (by decide)
                        simp only at q3
                        have q7 := hW 7 (by decide)
                        simp only at q7
                        rw [q3, q7]
                        clear hW
                        refine stepAt_value rfl rfl rfl (.bool false) w8 ?_ ⟨rfl, Below.refl _ _⟩
                        have hyy : (wtW t o3 k != wtW t o3 k) = false := bne_self_eq_false _
                        go_simp
                      · have q8 := hW 8 (by decide)
                        simp only at q8
                        rw [q8]
                        clear hW
                        refine stepAt_value rfl rfl rfl (.bool false) w8 ?_ ⟨rfl, Below.refl _ _⟩
                        go_simp
                      · have q9 := hW 9 (by decide)
                        simp only at q9
                        rw [q9]
                        clear hW
                        refine stepAt_value rfl rfl rfl (.pointer (some ⟨X, 1, none⟩)) w8 ?_ ⟨rfl, Below.refl _ _⟩
                        go_simp
                      · have q9 := hW 9 (by decide)
                        simp only at q9
                        have q10 := hW 10 (by decide)
                        simp only at q10
                        rw [q9, q10]
                        clear hW
                        refine stepAt_value rfl rfl rfl (.pointer (some ⟨wb, 0, none⟩)) w8 ?_ ⟨rfl, Below.refl _ _⟩
                        have hh := (HX.out.below hG HX.out.lt).cell 1
                        simp only [prv, List.getElem?_cons_succ, List.getElem?_cons_zero] at hh
                        go_simp
                      · have q9 := hW 9 (by decide)
                        simp only at q9
                        rw [q9]
                        clear hW
                        exact stepAt_load_run rfl rfl rfl _ _ rfl _ _ rfl (run_load_root HNL.out (HD.out.below hG HD.out.lt).rootAll) ⟨rfl, Below.refl _ _⟩
                      · have q9 := hW 9 (by decide)
                        simp only at q9
                        have q11 := hW 11 (by decide)
                        simp only at q11
                        have q12 := hW 12 (by decide)
                        simp only at q12
                        rw [q9, q11, q12]
                        clear hW
                        refine stepAt_call rfl rfl rfl 13 #[.pointer (some ⟨wb, 0, none⟩), .agg (bv n.1).toArray] (by go_simp) ((PSX.own (show PSX B (KB ++ ([rg] ++ [X, Y])) w8 tb wb mb rb t t o3 own from (HT.out.below hG).fst) n.1 HNL.out).mono fun e w' ⟨h1, h2⟩ => ⟨_, h1, by rw [HOV.out], h2⟩)
                      · have q9 := hW 9 (by decide)
                        simp only at q9
                        rw [q9]
                        clear hW
                        refine stepAt_value rfl rfl rfl (.pointer (some ⟨Y, 1, none⟩)) w8 ?_ ⟨rfl, Below.refl _ _⟩
                        go_simp
                      · have q9 := hW 9 (by decide)
                        simp only at q9
                        have q14 := hW 14 (by decide)
                        simp only at q14
                        rw [q9, q14]
                        clear hW
                        refine stepAt_value rfl rfl rfl (.pointer (some ⟨vb, 0, none⟩)) w8 ?_ ⟨rfl, Below.refl _ _⟩
                        have hh := (HY.out.below hG HY.out.lt).cell 1
                        simp only [prv, List.getElem?_cons_succ, List.getElem?_cons_zero] at hh
                        go_simp
                      · have q9 := hW 9 (by decide)
                        simp only at q9
                        rw [q9]
                        clear hW
                        exact stepAt_load_run rfl rfl rfl _ _ rfl _ _ rfl (run_load_root HNL.out (HD.out.below hG HD.out.lt).rootAll) ⟨rfl, Below.refl _ _⟩
                      · have q9 := hW 9 (by decide)
                        simp only at q9
                        have q15 := hW 15 (by decide)
                        simp only at q15
                        have q16 := hW 16 (by decide)
                        simp only at q16
                        rw [q9, q15, q16]
                        clear hW
                        refine stepAt_call rfl rfl rfl 13 #[.pointer (some ⟨vb, 0, none⟩), .agg (bv n.1).toArray] (by go_simp) ((PSX.own (show PSX B (KB ++ ([rg] ++ [X, Y])) w8 ub vb nb sb t t o3 own from (HT.out.below hG).snd) n.1 HNL.out).mono fun e w' ⟨h1, h2⟩ => ⟨_, h1, by rw [HOV.out], h2⟩)
                      · have q9 := hW 9 (by decide)
                        simp only at q9
                        have q13 := hW 13 (by decide)
                        simp only at q13
                        have q17 := hW 17 (by decide)
                        simp only at q17
                        rw [q9, q13, q17]
                        clear hW
                        refine stepAt_value rfl rfl rfl (.bool false) w8 ?_ ⟨rfl, Below.refl _ _⟩
                        have hyy : (owZ o3 k != owZ o3 k) = false := bne_self_eq_false _
                        go_simp
                      · have q9 := hW 9 (by decide)
                        simp only at q9
                        have q18 := hW 18 (by decide)
                        simp only at q18
                        rw [q9, q18]
                        clear hW
                        refine stepAt_value rfl rfl rfl (.bool false) w8 ?_ ⟨rfl, Below.refl _ _⟩
                        go_simp
                    case fin =>
                      intro vals wq hG hV
                      have q19 := hV 19 (by omega)
                      simp only at q19
                      simp only [List.take_succ_cons, List.take_zero, List.drop_succ_cons, List.drop_zero, putAll, Act.put, List.setIfInBounds_toArray, List.set_cons_zero, List.set_cons_succ, Nat.reduceAdd]
                      rw [q19]
                      clear hV q19
                      generalize vals 0 = y0
                      generalize vals 1 = y1
                      generalize vals 2 = y2
                      generalize vals 3 = y3
                      generalize vals 4 = y4
                      generalize vals 5 = y5
                      generalize vals 6 = y6
                      generalize vals 7 = y7
                      generalize vals 8 = y8
                      generalize vals 9 = y9
                      generalize vals 10 = y10
                      generalize vals 11 = y11
                      generalize vals 12 = y12
                      generalize vals 13 = y13
                      generalize vals 14 = y14
                      generalize vals 15 = y15
                      generalize vals 16 = y16
                      generalize vals 17 = y17
                      generalize vals 18 = y18

                      replace HT := Lib.hid (HT.out.below hG)
                      replace HX := Lib.hid (HX.out.below hG HX.out.lt)
                      replace HY := Lib.hid (HY.out.below hG HY.out.lt)
                      replace HRW := Lib.hid (HRW.out.below hG)
                      replace HB := Lib.hid (HB.out.trans (hG.mono HB.out.size))
                      clear hG HD
                      go_wp2_with fail
                      have hlk := HLT.out
                      go_roundw
                      case rel => exact ⟨k + 1, by omega, by first | rw [HWK.out] | rw [Int.natCast_succ], HT, HX, HY, HRW, HB⟩
                      case measure => first | exact measK t.length k 1 ((k : Int) + 1) (by omega) hlk Nat.zero_lt_one | exact measK t.length k 1 (wrap64 ((k : Int) + 1)) HWK.out hlk Nat.zero_lt_one
                  · have hlt2 : ¬ (k : Int) < (t.length : Int) := by omega
                    clear hlt hk
                    obtain ⟨hd, hhd⟩ : ∃ hd, pnm t (hdW t o3 : Int) = hd := ⟨_, rfl⟩
                    have HHL := Lib.hid (show hd.length = 32 by rw [← hhd]; exact HGD.out.pnm_len _)
                    have HHD := Lib.hid hhd
                    clear hhd
                    go_wp2_with fail
                    refine wp_region_free (P := Try.prog) 8 (fun w' => Below wx.heap.size wx w') (fun oq v w' => match oq with
                        | 0 => v = .pointer (some ⟨X, 1, none⟩)
                        | 1 => v = .pointer (some ⟨wb, 0, none⟩)
                        | 2 => v = .agg (bv hd).toArray
                        | 3 => v = .pointer (some ⟨Y, 1, none⟩)
                        | 4 => v = .pointer (some ⟨vb, 0, none⟩)
                        | 5 => v = .agg (bv hd).toArray
                        | 6 => v = .bool true
                        | 7 => v = .bool true
                        | _ => True) (by kernel_rfl) (by kernel_rfl) (Below.refl _ _).drew ?gb ?vb ?steps ?fin
                    case gb => exact fun a b h1 h2 => h1.trans (h2.mono h1.size)
                    case vb =>
                      intro oq v a b h hb
                      match oq with
                      | 0 => exact h
                      | 1 => exact h
                      | 2 => exact h
                      | 3 => exact h
                      | 4 => exact h
                      | 5 => exact h
                      | 6 => exact h
                      | 7 => exact h
                      | _ + 8 => trivial
                    case steps =>
                      intro vals
                      simp only [List.take_succ_cons, List.take_zero, freeSteps, Act.put, List.setIfInBounds_toArray, List.set_cons_zero, List.set_cons_succ, Nat.reduceAdd]
                      refine ⟨fun w8 hG hW => ?_, fun w8 hG hW => ?_, fun w8 hG hW => ?_, fun w8 hG hW => ?_, fun w8 hG hW => ?_, fun w8 hG hW => ?_, fun w8 hG hW => ?_, fun w8 hG hW => ?_, trivial⟩
                      · clear hW
                        refine stepAt_value rfl rfl rfl (.pointer (some ⟨X, 1, none⟩)) w8 ?_ ⟨rfl, Below.refl _ _⟩
                        go_simp
                      · have q0 := hW 0 (by decide)
                        simp only at q0
                        rw [q0]
                        clear hW
                        refine stepAt_value rfl rfl rfl (.pointer (some ⟨wb, 0, none⟩)) w8 ?_ ⟨rfl, Below.refl _ _⟩
                        have hh := (HX.out.below hG HX.out.lt).cell 1
                        simp only [prv, List.getElem?_cons_succ, List.getElem?_cons_zero] at hh
                        go_simp
                      · have q1 := hW 1 (by decide)
                        simp only at q1
                        rw [q1]
                        clear hW
                        refine stepAt_call rfl rfl rfl 15 #[.pointer (some ⟨wb, 0, none⟩)] (by go_simp) ((PSX.head (show PSX B (KB ++ ([rg] ++ [X, Y])) w8 tb wb mb rb t t o3 own from (HT.out.below hG).fst)).mono fun e w' ⟨h1, h2⟩ => ⟨_, h1, by rw [HHD.out], h2⟩)
                      · clear hW
                        refine stepAt_value rfl rfl rfl (.pointer (some ⟨Y, 1, none⟩)) w8 ?_ ⟨rfl, Below.refl _ _⟩
                        go_simp
                      · have q3 := hW 3 (by decide)
                        simp only at q3
                        rw [q3]
                        clear hW
                        refine stepAt_value rfl rfl rfl (.pointer (some ⟨vb, 0, none⟩)) w8 ?_ ⟨rfl, Below.refl _ _⟩
                        have hh := (HY.out.below hG HY.out.lt).cell 1
                        simp only [prv, List.getElem?_cons_succ, List.getElem?_cons_zero] at hh
                        go_simp
                      · have q4 := hW 4 (by decide)
                        simp only at q4
                        rw [q4]
                        clear hW
                        refine stepAt_call rfl rfl rfl 15 #[.pointer (some ⟨vb, 0, none⟩)] (by go_simp) ((PSX.head (show PSX B (KB ++ ([rg] ++ [X, Y])) w8 ub vb nb sb t t o3 own from (HT.out.below hG).snd)).mono fun e w' ⟨h1, h2⟩ => ⟨_, h1, by rw [HHD.out], h2⟩)
                      · have q2 := hW 2 (by decide)
                        simp only at q2
                        have q5 := hW 5 (by decide)
                        simp only at q5
                        rw [q2, q5]
                        clear hW
                        refine stepAt_value rfl rfl rfl (.bool true) w8 ?_ ⟨rfl, Below.refl _ _⟩
                        have he := root_eqW w8 hd hd HHL.out HHL.out
                        rw [show (hd == hd) = true from beq_self_eq_true _] at he
                        go_simp
                      · have q6 := hW 6 (by decide)
                        simp only at q6
                        rw [q6]
                        clear hW
                        refine stepAt_value rfl rfl rfl (.bool true) w8 ?_ ⟨rfl, Below.refl _ _⟩
                        go_simp
                    case fin =>
                      intro vals wq hG hV
                      have q7 := hV 7 (by omega)
                      simp only at q7
                      simp only [List.take_succ_cons, List.take_zero, List.drop_succ_cons, List.drop_zero, putAll, Act.put, List.setIfInBounds_toArray, List.set_cons_zero, List.set_cons_succ, Nat.reduceAdd]
                      rw [q7]
                      clear hV q7
                      generalize vals 0 = y0
                      generalize vals 1 = y1
                      generalize vals 2 = y2
                      generalize vals 3 = y3
                      generalize vals 4 = y4
                      generalize vals 5 = y5
                      generalize vals 6 = y6

                      replace HB := Lib.hid (HB.out.trans (hG.mono HB.out.size))
                      clear hG
                      go_wp2_with fail
                      go_ret
                      exact ⟨rfl, HB.out⟩
end Go.Proofs.Ytpamifdcbnkcdaa
