/-
  The walk of TreeKids.
-/
import Derived.Test.YtmchjmcdlapegaaOnceWalk10
import Derived.Test.YtmchjmcdlapegaaBelowWalk10
namespace Go.Proofs.Ytmchjmcdlapegaa
open Go Go.RowKit
set_option maxRecDepth 10000

/-- How many blocks have a parent whose place is below k. -/
def cntK (t : List Nd) (k : Nat) : Nat := (t.filter fun n => decide (0 ≤ n.2.2 ∧ n.2.2 < (k : Int))).length
theorem cntK_zero (t : List Nd) : cntK t 0 = 0 := by
  unfold cntK
  rw [List.length_eq_zero_iff, List.filter_eq_nil_iff]
  intro n _
  simp
theorem cntK_next (k : Nat) : ∀ t : List Nd, cntK t (k + 1) = cntK t k + (t.filter fun n => n.2.2 == (k : Int)).length
  | [] => rfl
  | n :: t => by
    have h := cntK_next k t
    unfold cntK at h ⊢
    simp only [List.filter_cons]
    by_cases h1 : n.2.2 = (k : Int)
    · rw [if_pos (by simp; omega), if_neg (by simp; omega), if_pos (by simp [h1]), List.length_cons, List.length_cons, h]; omega
    · by_cases h2 : 0 ≤ n.2.2 ∧ n.2.2 < (k : Int)
      · rw [if_pos (by simp; omega), if_pos (by simp; omega), if_neg (by simp [h1]), List.length_cons, List.length_cons, h]; omega
      · rw [if_neg (by simp; omega), if_neg (by simp; omega), if_neg (by simp [h1]), h]
theorem Good.cntK_all {t : List Nd} {most : Int} (G : Good t most) : cntK t t.length = t.length - 1 := by
  unfold cntK
  cases t with
  | nil => exact absurd G.pos (by simp)
  | cons n r =>
    have h0 := G.fst n rfl
    rw [List.filter_cons, if_neg (by simp; omega), List.length_cons, Nat.add_sub_cancel]
    rw [List.filter_eq_self.2]
    intro x hx
    obtain ⟨i, hi, he⟩ := List.getElem_of_mem hx
    obtain ⟨p, m, h1, h2, h3, _⟩ := G.par i x (by rw [List.getElem?_cons_succ, List.getElem?_eq_getElem hi, he])
    simp
    omega
theorem Good.kids_at {t : List Nd} {most : Int} (G : Good t most) {k : Nat} {n : Nd} (h : t[k]? = some n) : kidsT t n.1 = rs (t.filter fun n => n.2.2 == (k : Int)) := by
  unfold kidsT
  rw [G.plc_at h, if_pos (by omega)]
theorem Good.kids_count {t : List Nd} {most : Int} (G : Good t most) {k : Nat} {n : Nd} (h : t[k]? = some n) : cntK t (k + 1) = cntK t k + (kidsT t n.1).length := by
  rw [cntK_next, G.kids_at h, rs_length]
theorem cntK_le (t : List Nd) (k : Nat) : cntK t k ≤ t.length := List.length_filter_le _ _
theorem Good.kid {t : List Nd} {most : Int} (G : Good t most) {k : Nat} {n : Nd} (h : t[k]? = some n) {c : List UInt8} (hc : c ∈ kidsT t n.1) : ∃ (i : Nat) (x : Nd), t[i]? = some x ∧ x.1 = c ∧ plc t c = (i : Int) ∧ x.2.2 = (k : Int) := by
  rw [G.kids_at h, rs] at hc
  obtain ⟨x, hx, rfl⟩ := List.mem_map.1 hc
  obtain ⟨hx, hp⟩ := List.mem_filter.1 hx
  obtain ⟨i, hi, he⟩ := List.getElem_of_mem hx
  have hi' : t[i]? = some x := by rw [List.getElem?_eq_getElem hi, he]
  exact ⟨i, x, hi', rfl, G.plc_at hi', by simpa using hp⟩

attribute [local go_sem] root_eqW
set_option maxRecDepth 100000 in
set_option maxHeartbeats 16000000 in
theorem tkids_any (w : World) (ao : Option Addr) (len cap g off : Nat) (l : List Ad) (a1 : Int) (hl : l.length = len) (h : Lies w w.heap.size ao g off (av l)) :
    Calls Try.prog 6 #[.slice ao len cap, .int .i64 a1] w fun e w' => e = .returned (.bool true) ∧ Below w.heap.size w w' := by
  have HL0 := Lib.hid h
  have HN := Lib.hid hl
  clear h hl
  go_enter Try.func6, Try.ntmps6
  go_wp2_with fail
  refine (alive_any w).mono ?_
  rintro e w1 ⟨rfl, hbc⟩
  have HB := Lib.hid hbc
  clear hbc
  by_cases h1 : (100 : Int) < (len : Int)
  · go_wp2_with fail
    go_ret
    exact ⟨rfl, HB.out⟩
  go_wp2_with fail
  refine (name_any w1 0).mono ?_
  rintro e w2 ⟨rfl, hbc⟩
  replace HB := Lib.hid (HB.out.trans (hbc.mono HB.out.size))
  clear hbc
  by_cases h3 : a1 < 1
  · go_wp2_with fail
    refine (new_bad w2 (nmN 0) 0 a1 (by omega)).mono ?_
    rintro e w3 ⟨rfl, hbc⟩
    replace HB := Lib.hid (HB.out.trans (hbc.mono HB.out.size))
    clear hbc
    go_wp2_with fail
    go_ret
    exact ⟨rfl, HB.out⟩
  by_cases h4 : 256 < a1
  · go_wp2_with fail
    refine (new_bad w2 (nmN 0) 0 a1 (by omega)).mono ?_
    rintro e w3 ⟨rfl, hbc⟩
    replace HB := Lib.hid (HB.out.trans (hbc.mono HB.out.size))
    clear hbc
    go_wp2_with fail
    go_ret
    exact ⟨rfl, HB.out⟩
  have HA1 := Lib.hid (show 1 ≤ a1 ∧ a1 ≤ 256 ∧ len ≤ 100 by omega)
  go_wp2_with fail
  refine (new_ok w2 (nmN 0) 0 a1 (nmN_len 0) (by omega) (by omega) (by omega) (by omega)).mono ?_
  rintro e w3 ⟨F, b, rfl, ht, hf, hbc⟩
  have HT := Lib.hid (show Tre w3 F b root0 a1 from ht)
  have HF := Lib.hid (hf.mono HB.out.size)
  replace HB := Lib.hid (HB.out.trans (hbc.mono HB.out.size))
  clear hbc ht hf
  go_wp2_with fail
  go_loopw [39] (fun i wr => ∃ (k : Nat) (F' : List Nat), k ≤ len ∧ i = .int .i64 k ∧ Hid (Tre wr F' b (addAll a1 root0 (l.take k)) a1) ∧ Hid (High w.heap.size F') ∧ Hid (Below w.heap.size w wr)) (fun i _ => len - (intOf i).toNat)
  case atStart => exact ⟨0, F, Nat.zero_le _, rfl, HT, HF, HB⟩
  case round =>
    clear HT HF HB
    obtain ⟨k, F', hk, rfl, HT, HF, HB⟩ := hrel
    by_cases hlt : k < len
    · obtain ⟨a, ha⟩ : ∃ a, l[k]? = some a := ⟨_, List.getElem?_eq_getElem (by rw [HN.out]; exact hlt)⟩
      obtain ⟨hao, q0, q1, q2⟩ := (HL0.out.keep HB.out).add ha
      subst hao
      obtain ⟨x0, x1, x2⟩ := a
      simp only at q0 q1 q2
      have HNX := Lib.hid (addAll_next (most := a1) (t := root0) ha)
      simp only at HNX
      clear ha
      obtain ⟨V, hV⟩ : ∃ V, V = wr.heap.size := ⟨_, rfl⟩
      have HVF := Lib.hid (show V ∉ F' from fun hm => by have := HT.out.low _ hm; omega)
      have HV := Lib.hid (Blk.new wr 42 #[.int .i64 x0, .int .i64 x1, .int .i64 x2])
      have hb5 : Below wr.heap.size wr (wr.alloc (.cells #[.int .i64 x0, .int .i64 x1, .int .i64 x2] 42)) := (Below.refl _ _).alloc (Nat.le_refl _) _
      replace HT := Lib.hid (HT.out.below hb5)
      replace HB := Lib.hid (HB.out.trans (hb5.mono HB.out.size))
      have HWR := Lib.hid (show wrap64 ((k : Int) + 1) = (k : Int) + 1 by unfold wrap64; omega)
      clear hb5
      go_upto_region 11 with fail
      rw [← hV] at HV ⊢
      generalize wr.alloc (.cells _ 42) = w5 at HV HT HB ⊢
      clear hV q0 q1 q2
      refine wp_region_free (P := Try.prog) 9 (fun w' => Below w5.heap.size w5 w') (fun oq v w' => match oq with
          | 0 => v = .pointer (some ⟨b, 0, none⟩)
          | 1 => v = .pointer (some ⟨V, 0, none⟩)
          | 2 => v = .int .i64 x0
          | 3 => v = .agg (bv (nmN x0)).toArray
          | 4 => v = .pointer (some ⟨V, 1, none⟩)
          | 5 => v = .int .i64 x1
          | 6 => v = .agg (bv (nmN x1)).toArray
          | 7 => v = .pointer (some ⟨V, 2, none⟩)
          | 8 => v = .int .i64 x2
          | _ => True) (by kernel_rfl) (by kernel_rfl) (Below.refl _ _).drew ?gb ?vb ?steps ?fin
      case gb => exact fun a b h1 h2 => h1.trans (h2.mono h1.size)
      case vb =>
        intro oq v a b h hb
        match oq with
        | 0 => exact h
        | 1 => exact h
        | 2 => exact h
        | 3 => exact h
        | 4 => exact h
        | 5 => exact h
        | 6 => exact h
        | 7 => exact h
        | 8 => exact h
        | _ + 9 => trivial
      case steps =>
        intro vals
        simp only [List.take_succ_cons, List.take_zero, freeSteps, Act.put, List.setIfInBounds_toArray, List.set_cons_zero, List.set_cons_succ, Nat.reduceAdd]
        refine ⟨fun w8 hG hW => ?_, fun w8 hG hW => ?_, fun w8 hG hW => ?_, fun w8 hG hW => ?_, fun w8 hG hW => ?_, fun w8 hG hW => ?_, fun w8 hG hW => ?_, fun w8 hG hW => ?_, fun w8 hG hW => ?_, trivial⟩
        · clear hW
          refine stepAt_value rfl rfl rfl (.pointer (some ⟨b, 0, none⟩)) w8 ?_ ⟨rfl, Below.refl _ _⟩
          go_simp
        · clear hW
          refine stepAt_value rfl rfl rfl (.pointer (some ⟨V, 0, none⟩)) w8 ?_ ⟨rfl, Below.refl _ _⟩
          go_simp
        · have q1 := hW 1 (by decide)
          simp only at q1
          rw [q1]
          clear hW
          refine stepAt_value rfl rfl rfl (.int .i64 x0) w8 ?_ ⟨rfl, Below.refl _ _⟩
          have hh := ((HV.out.below hG HV.out.lt).cell 0)
          go_simp
        · have q2 := hW 2 (by decide)
          simp only at q2
          rw [q2]
          clear hW
          refine stepAt_call rfl rfl rfl 20 #[.int .i64 x0] (by go_simp) ((name_any w8 x0).mono fun e w' ⟨h1, h2⟩ => ⟨_, h1, rfl, h2⟩)
        · clear hW
          refine stepAt_value rfl rfl rfl (.pointer (some ⟨V, 1, none⟩)) w8 ?_ ⟨rfl, Below.refl _ _⟩
          go_simp
        · have q4 := hW 4 (by decide)
          simp only at q4
          rw [q4]
          clear hW
          refine stepAt_value rfl rfl rfl (.int .i64 x1) w8 ?_ ⟨rfl, Below.refl _ _⟩
          have hh := ((HV.out.below hG HV.out.lt).cell 1)
          go_simp
        · have q5 := hW 5 (by decide)
          simp only at q5
          rw [q5]
          clear hW
          refine stepAt_call rfl rfl rfl 20 #[.int .i64 x1] (by go_simp) ((name_any w8 x1).mono fun e w' ⟨h1, h2⟩ => ⟨_, h1, rfl, h2⟩)
        · clear hW
          refine stepAt_value rfl rfl rfl (.pointer (some ⟨V, 2, none⟩)) w8 ?_ ⟨rfl, Below.refl _ _⟩
          go_simp
        · have q7 := hW 7 (by decide)
          simp only at q7
          rw [q7]
          clear hW
          refine stepAt_value rfl rfl rfl (.int .i64 x2) w8 ?_ ⟨rfl, Below.refl _ _⟩
          have hh := ((HV.out.below hG HV.out.lt).cell 2)
          go_simp
      case fin =>
        intro vals w10 hG hV
        have q0 := hV 0 (by omega)
        have q3 := hV 3 (by omega)
        have q6 := hV 6 (by omega)
        have q8 := hV 8 (by omega)
        simp only at q0 q3 q6 q8
        simp only [List.take_succ_cons, List.take_zero, List.drop_succ_cons, List.drop_zero, putAll, Act.put, List.setIfInBounds_toArray, List.set_cons_zero, List.set_cons_succ, Nat.reduceAdd]
        rw [q0, q3, q6, q8]
        clear hV q0 q3 q6 q8
        generalize vals 1 = y1
        generalize vals 2 = y2
        generalize vals 4 = y4
        generalize vals 5 = y5
        generalize vals 7 = y7
        replace HT := Lib.hid (HT.out.below hG)
        replace HB := Lib.hid (HB.out.trans (hG.mono HB.out.size))
        clear hG HV
        go_wp2_with fail
        refine (add_any w10 F' b _ a1 (nmN x0) (nmN x1) x2 HT.out (nmN_len _) (nmN_len _)).mono ?_
        rintro e w11 ⟨rfl, F2, ht, hk2, hn2⟩
        rw [← HNX.out] at ht
        have HT2 := Lib.hid ht
        have HF2 := Lib.hid (HF.out.new hn2 HB.out.size)
        have HB2 := Lib.hid (HB.out.trans (hk2.below HB.out.size HF.out))
        clear ht hk2 hn2 HT HF HB HVF
        go_wp2_with fail
        refine ⟨⟨k + 1, F2, by omega, by go_num, HT2, HF2, HB2⟩, ?_⟩
        first | exact meas len k ((k : Int) + 1) (by omega) hlt | exact meas len k (wrap64 ((k : Int) + 1)) (by rw [HWR.out]; omega) hlt
    · have hlt' : ¬ (k : Int) < (len : Int) := by omega
      generalize addAll a1 root0 (l.take k) = t at HT
      have HG := Lib.hid HT.out.1
      clear hlt HF
      have HM256 := Lib.hid (show t.length ≤ 256 ∧ 1 ≤ t.length by have := HG.out.room; have := HG.out.most256; have := HG.out.pos; omega)
      go_wp2_with fail
      refine (roots_any wr F' b t a1 HT.out).mono ?_
      rintro e w4 ⟨v, rfl, hv, hbc⟩
      have HRT := Lib.hid HG.out.rts
      have HRL := Lib.hid (rs_length t)
      obtain ⟨ro, rcap, rg, roff, rfl, hrl⟩ := wide_names hv HRT.out
      have HRW := Lib.hid hrl
      clear hv hrl
      replace HT := Lib.hid (HT.out.below hbc)
      replace HB := Lib.hid (HB.out.trans (hbc.mono HB.out.size))
      clear hbc
      rw [HRL.out]
      have HC0 := Lib.hid (cntK_zero t)
      go_wp2_with fail
      go_loopw [9, 57] (fun c i wx => ∃ (k : Nat), k ≤ t.length ∧ i = .int .i64 k ∧ c = .int .i64 (cntK t k : Nat) ∧ Hid (Tre wx F' b t a1) ∧ Hid (Lies wx wx.heap.size ro rg roff (rv (rs t))) ∧ Hid (Below w.heap.size w wx)) (fun _ i _ => t.length - (intOf i).toNat)
      case atStart => exact ⟨0, Nat.zero_le _, rfl, by rw [HC0.out]; rfl, HT, HRW, HB⟩
      case round =>
        clear HT HRW HB
        obtain ⟨k, hk, rfl, rfl, HT, HRW, HB⟩ := hrel
        obtain ⟨wx, rfl⟩ : ∃ x, x = wr := ⟨_, rfl⟩
        by_cases hlt : k < t.length
        · obtain ⟨n, hn⟩ : ∃ n, t[k]? = some n := ⟨_, List.getElem?_eq_getElem hlt⟩
          have HNL := Lib.hid (show n.1.length = 32 from HG.out.nds n (List.mem_of_getElem? hn))
          have HNK := Lib.hid hn
          obtain ⟨hro, hrc⟩ := HRW.out.name HRT.out (rs_at hn)
          have HRO := Lib.hid hro
          have HRC := Lib.hid hrc
          have HLT := Lib.hid hlt
          have HK := Lib.hid hk
          have hlt' : (k : Int) < (t.length : Int) := by omega
          clear hn hrc hlt hk
          subst hro
          have HWK := Lib.hid (show wrap64 ((k : Int) + 1) = (k : Int) + 1 by have := HM256.out; have := HLT.out; unfold wrap64; omega)
          have HZ := Lib.hid (blk_zeroR wx)
          have HZL := Lib.hid zero32_len
          have HR := Lib.hid (HZ.out.setRow (bv n.1))
          have hbx : Below wx.heap.size wx ((wx.alloc (.cells #[.int .u8 0, .int .u8 0, .int .u8 0, .int .u8 0, .int .u8 0, .int .u8 0, .int .u8 0, .int .u8 0, .int .u8 0, .int .u8 0, .int .u8 0, .int .u8 0, .int .u8 0, .int .u8 0, .int .u8 0, .int .u8 0, .int .u8 0, .int .u8 0, .int .u8 0, .int .u8 0, .int .u8 0, .int .u8 0, .int .u8 0, .int .u8 0, .int .u8 0, .int .u8 0, .int .u8 0, .int .u8 0, .int .u8 0, .int .u8 0, .int .u8 0, .int .u8 0] 23)).setRow wx.heap.size (bv n.1).toArray) := below_row ((Below.refl _ wx).alloc (Nat.le_refl _) _) (Nat.le_refl _) _
          replace HT := Lib.hid (HT.out.below hbx)
          replace HB := Lib.hid (HB.out.trans (hbx.mono HB.out.size))
          replace HRW := Lib.hid (HRW.out.below hbx)
          clear hbx
          go_upto_region 17 with (first | ((with_reducible refine wpList_load_name (.tmp 59) ?_ ?_ rg (roff + k * 32) n.1 ?_ HNL.out HRC.out ?_); rfl; rfl; rfl) | ((with_reducible refine wpList_store_name (.tmp 11) (.tmp 60) ?_ ?_ wx.heap.size zero32 n.1 ?_ ?_ HZ.out HZL.out HNL.out ?_); rfl; rfl; rfl; rfl))
          generalize (wx.alloc (.cells #[.int .u8 0, .int .u8 0, .int .u8 0, .int .u8 0, .int .u8 0, .int .u8 0, .int .u8 0, .int .u8 0, .int .u8 0, .int .u8 0, .int .u8 0, .int .u8 0, .int .u8 0, .int .u8 0, .int .u8 0, .int .u8 0, .int .u8 0, .int .u8 0, .int .u8 0, .int .u8 0, .int .u8 0, .int .u8 0, .int .u8 0, .int .u8 0, .int .u8 0, .int .u8 0, .int .u8 0, .int .u8 0, .int .u8 0, .int .u8 0, .int .u8 0, .int .u8 0] 23)).setRow wx.heap.size (bv n.1).toArray = w5 at HR HRW HT HB ⊢
          generalize wx.heap.size = R at HR ⊢
          clear HZ HZL
          clear HRC HRO
          have HKR := Lib.hid (HG.out.kids_rts n.1)
          have HKC := Lib.hid (HG.out.kids_count HNK.out)
          have HKD := Lib.hid (fun c hc => HG.out.kid HNK.out (c := c) hc)
          go_wp2_with ((with_reducible refine wpList_load_name (.tmp 11) ?_ ?_ R 0 n.1 ?_ HNL.out HR.out.rootAll ?_); rfl; rfl; rfl)
          refine (kids_any w5 F' b t a1 n.1 HT.out HNL.out).mono ?_
          rintro e w6 ⟨v, rfl, hv, hbc⟩
          generalize kidsT t n.1 = K at hv HKR HKC HKD
          obtain ⟨ko, kcap, kg, koff, rfl, hkl⟩ := wide_names hv HKR.out
          have HKW := Lib.hid hkl
          clear hv hkl
          replace HT := Lib.hid (HT.out.below hbc)
          replace HB := Lib.hid (HB.out.trans (hbc.mono HB.out.size))
          replace HR := Lib.hid (HR.out.below hbc HR.out.lt)
          replace HRW := Lib.hid (HRW.out.below hbc)
          clear hbc
          go_wp2_with fail
          go_loopw [9, 65] (fun c i wy => ∃ (j : Nat), j ≤ K.length ∧ i = .int .i64 j ∧ c = .int .i64 ((cntK t k + j : Nat) : Int) ∧ Hid (Tre wy F' b t a1) ∧ Hid (Lies wy wy.heap.size (some ⟨rg, roff, none⟩) rg roff (rv (rs t))) ∧ Hid (Lies wy wy.heap.size ko kg koff (rv K)) ∧ Hid (Blk wy R 23 (bv n.1)) ∧ Hid (Below w.heap.size w wy)) (fun _ i _ => K.length - (intOf i).toNat)
          case atStart => exact ⟨0, Nat.zero_le _, rfl, rfl, HT, HRW, HKW, HR, HB⟩
          case round =>
            clear HT HRW HKW HR HB
            obtain ⟨j, hj, rfl, rfl, HT, HRW, HKW, HR, HB⟩ := hrel
            obtain ⟨wy, rfl⟩ : ∃ x, x = wr := ⟨_, rfl⟩
            have HC256 := Lib.hid (show cntK t k + K.length ≤ 256 by have := cntK_le t (k + 1); have := HKC.out; have := HM256.out; omega)
            by_cases hlt : j < K.length
            · obtain ⟨c, hc⟩ : ∃ c, K[j]? = some c := ⟨_, List.getElem?_eq_getElem hlt⟩
              obtain ⟨hko, hkc⟩ := HKW.out.name HKR.out hc
              have HKC2 := Lib.hid hkc
              have HCL := Lib.hid (HKR.out c (List.mem_of_getElem? hc))
              obtain ⟨i, x, hx, hxc, hpc, hxk⟩ := HKD.out c (List.mem_of_getElem? hc)
              have HXL := Lib.hid (show x.1.length = 32 from HG.out.nds x (List.mem_of_getElem? hx))
              have HPC := Lib.hid hpc
              have HXK := Lib.hid hxk
              have HN1 := Lib.hid (nodeOr_some hx)
              have HN2 := Lib.hid (nodeOr_some HNK.out)
              have HLJ := Lib.hid hlt
              have hnn : (n.1 == n.1) = true := beq_self_eq_true n.1
              have hlt2 : (j : Int) < (K.length : Int) := by omega
              have HWJ := Lib.hid (show wrap64 ((j : Int) + 1) = (j : Int) + 1 by have := HC256.out; unfold wrap64; omega)
              have HWC := Lib.hid (show wrap64 (((cntK t k + j : Nat) : Int) + 1) = ((cntK t k + (j + 1) : Nat) : Int) by have := HC256.out; unfold wrap64; omega)
              clear hc hkc hx hxc hpc hxk hlt hj
              subst hko
              generalize hcj : cntK t k + j = cj at HWC ⊢
              have HZ := Lib.hid (blk_zeroR wy)
              have HZL := Lib.hid zero32_len
              have HC := Lib.hid (HZ.out.setRow (bv c))
              have hbx : Below wy.heap.size wy ((wy.alloc (.cells #[.int .u8 0, .int .u8 0, .int .u8 0, .int .u8 0, .int .u8 0, .int .u8 0, .int .u8 0, .int .u8 0, .int .u8 0, .int .u8 0, .int .u8 0, .int .u8 0, .int .u8 0, .int .u8 0, .int .u8 0, .int .u8 0, .int .u8 0, .int .u8 0, .int .u8 0, .int .u8 0, .int .u8 0, .int .u8 0, .int .u8 0, .int .u8 0, .int .u8 0, .int .u8 0, .int .u8 0, .int .u8 0, .int .u8 0, .int .u8 0, .int .u8 0, .int .u8 0] 23)).setRow wy.heap.size (bv c).toArray) := below_row ((Below.refl _ wy).alloc (Nat.le_refl _) _) (Nat.le_refl _) _
              replace HT := Lib.hid (HT.out.below hbx)
              replace HB := Lib.hid (HB.out.trans (hbx.mono HB.out.size))
              replace HR := Lib.hid (HR.out.below hbx HR.out.lt)
              replace HRW := Lib.hid (HRW.out.below hbx)
              replace HKW := Lib.hid (HKW.out.below hbx)
              clear hbx
              go_upto_region 20 with (first | ((with_reducible refine wpList_load_name (.tmp 67) ?_ ?_ kg (koff + j * 32) c ?_ HCL.out HKC2.out ?_); rfl; rfl; rfl) | ((with_reducible refine wpList_store_name (.tmp 13) (.tmp 68) ?_ ?_ wy.heap.size zero32 c ?_ ?_ HZ.out HZL.out HCL.out ?_); rfl; rfl; rfl; rfl))
              generalize (wy.alloc (.cells #[.int .u8 0, .int .u8 0, .int .u8 0, .int .u8 0, .int .u8 0, .int .u8 0, .int .u8 0, .int .u8 0, .int .u8 0, .int .u8 0, .int .u8 0, .int .u8 0, .int .u8 0, .int .u8 0, .int .u8 0, .int .u8 0, .int .u8 0, .int .u8 0, .int .u8 0, .int .u8 0, .int .u8 0, .int .u8 0, .int .u8 0, .int .u8 0, .int .u8 0, .int .u8 0, .int .u8 0, .int .u8 0, .int .u8 0, .int .u8 0, .int .u8 0, .int .u8 0] 23)).setRow wy.heap.size (bv c).toArray = w7 at HC HR HRW HKW HT HB ⊢
              generalize wy.heap.size = C at HC ⊢
              clear HZ HZL
              clear HKC2
              go_wp2_with ((with_reducible refine wpList_load_name (.tmp 13) ?_ ?_ C 0 c ?_ HCL.out HC.out.rootAll ?_); rfl; rfl; rfl)
              refine (place_any w7 F' b t a1 c HT.out HCL.out).mono ?_
              rintro e w8 ⟨rfl, hbc⟩
              replace HT := Lib.hid (HT.out.below hbc)
              replace HB := Lib.hid (HB.out.trans (hbc.mono HB.out.size))
              replace HR := Lib.hid (HR.out.below hbc HR.out.lt)
              replace HC := Lib.hid (HC.out.below hbc HC.out.lt)
              replace HRW := Lib.hid (HRW.out.below hbc)
              replace HKW := Lib.hid (HKW.out.below hbc)
              clear hbc
              rw [HPC.out]
              go_wp2_with fail
              refine (node_any w8 F' b t a1 i HT.out).mono ?_
              rintro e w9 ⟨rfl, hbc⟩
              replace HT := Lib.hid (HT.out.below hbc)
              replace HB := Lib.hid (HB.out.trans (hbc.mono HB.out.size))
              replace HR := Lib.hid (HR.out.below hbc HR.out.lt)
              replace HC := Lib.hid (HC.out.below hbc HC.out.lt)
              replace HRW := Lib.hid (HRW.out.below hbc)
              replace HKW := Lib.hid (HKW.out.below hbc)
              clear hbc
              rw [HN1.out.1, HN1.out.2]
              have HZ := Lib.hid (blk_zero w9)
              have HZL := Lib.hid nd0_len
              have HX := Lib.hid (HZ.out.setRow (ndv x))
              have hbx : Below w9.heap.size w9 ((w9.alloc (.cells #[.int .u8 0, .int .u8 0, .int .u8 0, .int .u8 0, .int .u8 0, .int .u8 0, .int .u8 0, .int .u8 0, .int .u8 0, .int .u8 0, .int .u8 0, .int .u8 0, .int .u8 0, .int .u8 0, .int .u8 0, .int .u8 0, .int .u8 0, .int .u8 0, .int .u8 0, .int .u8 0, .int .u8 0, .int .u8 0, .int .u8 0, .int .u8 0, .int .u8 0, .int .u8 0, .int .u8 0, .int .u8 0, .int .u8 0, .int .u8 0, .int .u8 0, .int .u8 0, .int .i64 0, .int .i64 0] 51)).setRow w9.heap.size (ndv x).toArray) := below_row ((Below.refl _ w9).alloc (Nat.le_refl _) _) (Nat.le_refl _) _
              replace HT := Lib.hid (HT.out.below hbx)
              replace HB := Lib.hid (HB.out.trans (hbx.mono HB.out.size))
              replace HR := Lib.hid (HR.out.below hbx HR.out.lt)
              replace HC := Lib.hid (HC.out.below hbx HC.out.lt)
              replace HRW := Lib.hid (HRW.out.below hbx)
              replace HKW := Lib.hid (HKW.out.below hbx)
              clear hbx
              go_upto_region 22 with ((with_reducible refine wpList_store_node (.tmp 14) (.tmp 77) ?_ ?_ w9.heap.size nd0 x ?_ ?_ HZ.out HZL.out HXL.out ?_); rfl; rfl; rfl; rfl)
              generalize (w9.alloc (.cells #[.int .u8 0, .int .u8 0, .int .u8 0, .int .u8 0, .int .u8 0, .int .u8 0, .int .u8 0, .int .u8 0, .int .u8 0, .int .u8 0, .int .u8 0, .int .u8 0, .int .u8 0, .int .u8 0, .int .u8 0, .int .u8 0, .int .u8 0, .int .u8 0, .int .u8 0, .int .u8 0, .int .u8 0, .int .u8 0, .int .u8 0, .int .u8 0, .int .u8 0, .int .u8 0, .int .u8 0, .int .u8 0, .int .u8 0, .int .u8 0, .int .u8 0, .int .u8 0, .int .i64 0, .int .i64 0] 51)).setRow w9.heap.size (ndv x).toArray = w10 at HX HR HC HRW HKW HT HB ⊢
              generalize w9.heap.size = X at HX ⊢
              clear HZ HZL
              have c33 := HX.out.nodeParent HXL.out
              rw [HXK.out] at c33
              go_wp2_with fail
              refine (node_any w10 F' b t a1 k HT.out).mono ?_
              rintro e w11 ⟨rfl, hbc⟩
              replace HT := Lib.hid (HT.out.below hbc)
              replace HB := Lib.hid (HB.out.trans (hbc.mono HB.out.size))
              replace HR := Lib.hid (HR.out.below hbc HR.out.lt)
              replace HC := Lib.hid (HC.out.below hbc HC.out.lt)
              replace HX := Lib.hid (HX.out.below hbc HX.out.lt)
              replace HRW := Lib.hid (HRW.out.below hbc)
              replace HKW := Lib.hid (HKW.out.below hbc)
              clear hbc
              rw [HN2.out.1, HN2.out.2]
              clear c33
              have HZ := Lib.hid (blk_zero w11)
              have HZL := Lib.hid nd0_len
              have HY := Lib.hid (HZ.out.setRow (ndv n))
              have hbx : Below w11.heap.size w11 ((w11.alloc (.cells #[.int .u8 0, .int .u8 0, .int .u8 0, .int .u8 0, .int .u8 0, .int .u8 0, .int .u8 0, .int .u8 0, .int .u8 0, .int .u8 0, .int .u8 0, .int .u8 0, .int .u8 0, .int .u8 0, .int .u8 0, .int .u8 0, .int .u8 0, .int .u8 0, .int .u8 0, .int .u8 0, .int .u8 0, .int .u8 0, .int .u8 0, .int .u8 0, .int .u8 0, .int .u8 0, .int .u8 0, .int .u8 0, .int .u8 0, .int .u8 0, .int .u8 0, .int .u8 0, .int .i64 0, .int .i64 0] 51)).setRow w11.heap.size (ndv n).toArray) := below_row ((Below.refl _ w11).alloc (Nat.le_refl _) _) (Nat.le_refl _) _
              replace HT := Lib.hid (HT.out.below hbx)
              replace HB := Lib.hid (HB.out.trans (hbx.mono HB.out.size))
              replace HR := Lib.hid (HR.out.below hbx HR.out.lt)
              replace HC := Lib.hid (HC.out.below hbx HC.out.lt)
              replace HX := Lib.hid (HX.out.below hbx HX.out.lt)
              replace HRW := Lib.hid (HRW.out.below hbx)
              replace HKW := Lib.hid (HKW.out.below hbx)
              clear hbx
              go_upto_region 23 with ((with_reducible refine wpList_store_node (.tmp 16) (.tmp 84) ?_ ?_ w11.heap.size nd0 n ?_ ?_ HZ.out HZL.out HNL.out ?_); rfl; rfl; rfl; rfl)
              generalize (w11.alloc (.cells #[.int .u8 0, .int .u8 0, .int .u8 0, .int .u8 0, .int .u8 0, .int .u8 0, .int .u8 0, .int .u8 0, .int .u8 0, .int .u8 0, .int .u8 0, .int .u8 0, .int .u8 0, .int .u8 0, .int .u8 0, .int .u8 0, .int .u8 0, .int .u8 0, .int .u8 0, .int .u8 0, .int .u8 0, .int .u8 0, .int .u8 0, .int .u8 0, .int .u8 0, .int .u8 0, .int .u8 0, .int .u8 0, .int .u8 0, .int .u8 0, .int .u8 0, .int .u8 0, .int .i64 0, .int .i64 0] 51)).setRow w11.heap.size (ndv n).toArray = w12 at HY HR HC HX HRW HKW HT HB ⊢
              generalize w11.heap.size = Y at HY ⊢
              clear HZ HZL
              have hnlen := HNL.out
              go_wp2_with (first | ((with_reducible refine wpList_load_name (.tmp 93) ?_ ?_ Y 0 n.1 ?_ HNL.out HY.out.nodeName ?_); rfl; rfl; rfl) | ((with_reducible refine wpList_load_name (.tmp 11) ?_ ?_ R 0 n.1 ?_ HNL.out HR.out.rootAll ?_); rfl; rfl; rfl))
              have hlj := HLJ.out
              have h256 := HC256.out
              subst hcj
              go_roundw
              case rel => exact ⟨j + 1, by omega, by first | (rw [HWJ.out]; rfl) | go_num, by first | (rw [HWC.out]) | go_num, HT, HRW, HKW, HR, HB⟩
              case measure => exact meas K.length j _ (by first | (rw [HWJ.out]; omega) | omega) hlj
            · have hlt2 : ¬ (j : Int) < (K.length : Int) := by omega
              have hje : j = K.length := by omega
              have HCE := Lib.hid (show cntK t k + j = cntK t (k + 1) by rw [hje]; exact HKC.out.symm)
              rw [HCE.out]
              have HLT2 := Lib.hid HLT.out
              clear hje hlt hj
              go_wp2_with fail
              have hlk := HLT.out
              have h256 := HM256.out
              go_roundw
              case rel => exact ⟨k + 1, by omega, by first | (rw [HWK.out]; rfl) | go_num, rfl, HT, HRW, HB⟩
              case measure => exact meas t.length k _ (by first | (rw [HWK.out]; omega) | omega) hlk
        · have hlt2 : ¬ (k : Int) < (t.length : Int) := by omega
          obtain rfl : k = t.length := by omega
          have HCA := Lib.hid HG.out.cntK_all
          rw [HCA.out]
          have hcast : ((t.length - 1 : Nat) : Int) = (t.length : Int) - 1 := by have := HM256.out; omega
          rw [hcast]
          have HCS := Lib.hid hcast
          clear hcast hlt hk
          obtain ⟨hm1, hm2⟩ := HM256.out
          obtain ⟨ha1, ha2, ha3⟩ := HA1.out
          generalize hTL : t.length = TL at hm1 hm2 HCS hlt2 ⊢
          have HTL := Lib.hid hTL
          clear hTL hlt2
          have hss : ((TL : Int) - 1 == (TL : Int) - 1) = true := beq_self_eq_true _
          go_wp2_with fail
          refine (len_any wx F' b t a1 HT.out).mono ?_
          rintro e u1 ⟨rfl, hw⟩
          have hw := hw.symm
          subst hw
          rw [HTL.out]
          go_wp2_with fail
          refine (len_any wx F' b t a1 HT.out).mono ?_
          rintro e u2 ⟨rfl, hw⟩
          have hw := hw.symm
          subst hw
          rw [HTL.out]
          go_wp2_with fail
          refine (room_any wx F' b t a1 HT.out).mono ?_
          rintro e u3 ⟨rfl, m4, rfl⟩
          rw [HTL.out]
          have HB2 := Lib.hid (below_dN HB.out m4)
          have hE : (TL : Int) + (a1 - (TL : Int)) = a1 := by omega
          have haa : (a1 == a1) = true := beq_self_eq_true a1
          go_wp2_with fail
          go_ret
          exact ⟨rfl, HB2.out⟩
end Go.Proofs.Ytmchjmcdlapegaa
