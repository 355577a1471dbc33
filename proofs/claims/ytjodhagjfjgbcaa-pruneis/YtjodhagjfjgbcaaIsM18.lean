/-
  The texts Cut1, CutOwns, CutAll, one behind the other.
-/
import Derived.Test.YtjodhagjfjgbcaaIsM17
import Derived.Test.YtjodhagjfjgbcaaIsM8
import Derived.Test.YtjodhagjfjgbcaaIsM9
import Derived.Test.YtjodhagjfjgbcaaIsM13
import Derived.Test.YtjodhagjfjgbcaaIsM15
/-
  Cuts, plainly: own weights laid into a cut; a cut of a cut; by the first block; by the head.
-/
namespace Go.Proofs.Ytjodhagjfjgbcaa
open Go

/-- What each block of a tree u weighs of its own, by t's weights. -/
def ownsL (t : List Nd) (own : List Int) (u : List Nd) : List Dl := (rs u).map fun r => (r, tellZ t own.length r 0 (owZ own))
theorem ownsL_length (t : List Nd) (own : List Int) (u : List Nd) : (ownsL t own u).length = u.length := by simp [ownsL, rs_length]
theorem take_set_next {O : List Int} {k : Nat} {x : Int} (n : Nat) (h : O[k]? = some x) (hn : O.length = n) : (O.take k ++ List.replicate (n - k) 0).set k x = O.take (k + 1) ++ List.replicate (n - (k + 1)) 0 := by
  have hk := (List.getElem?_eq_some_iff.1 h).1
  have hl : (O.take k).length = k := by rw [List.length_take]; omega
  obtain ⟨m, hm⟩ : ∃ m, n - k = m + 1 := ⟨n - k - 1, by omega⟩
  rw [List.set_append_right _ _ (by omega), hl, Nat.sub_self, hm, show n - (k + 1) = m by omega, List.replicate_succ, List.set_cons_zero, List.take_add_one, h, Option.toList_some, List.append_assoc]
  rfl
theorem chg_zeros {t : List Nd} {most : Int} (G : Good t most) {O : List Int} (hO : OwnG O) (hl : O.length = t.length) {ds : List Dl} (hds : ds.length = t.length) (hd : ∀ (k : Nat) (d : Dl), ds[k]? = some d → d.1 = pnm t (k : Int) ∧ d.2 = owZ O k) :
    ∀ (m k : Nat), k + m = t.length → chgW t (O.take k ++ List.replicate (t.length - k) 0) (ds.drop k) = (0, O)
  | 0, k, h => by
    rw [List.drop_eq_nil_of_le (by omega), List.take_of_length_le (by omega), show t.length - k = 0 by omega, List.replicate_zero, List.append_nil, chgW]
  | m + 1, k, h => by
    obtain ⟨d, hdk⟩ : ∃ d, ds[k]? = some d := ⟨_, List.getElem?_eq_getElem (by omega)⟩
    obtain ⟨x, hx⟩ : ∃ x, O[k]? = some x := ⟨_, List.getElem?_eq_getElem (by omega)⟩
    obtain ⟨h1, h2⟩ := hd k d hdk
    have hkl : (O.take k).length = k := by rw [List.length_take]; omega
    have hz : owZ (O.take k ++ List.replicate (t.length - k) 0) k = 0 := by
      unfold owZ
      rw [List.getElem?_append_right (by omega), hkl, Nat.sub_self]
      cases hc : (List.replicate (t.length - k) (0 : Int))[0]? with
      | none => rfl
      | some y =>
        have := List.mem_of_getElem? hc
        rw [List.mem_replicate] at this
        rw [this.2]; rfl
    have hxp := hO.pos x (List.mem_of_getElem? hx)
    have hxl := hO.lt x (List.mem_of_getElem? hx)
    rw [owZ_at hx] at h2
    obtain ⟨y, hy⟩ : ∃ y, t[k]? = some y := ⟨_, List.getElem?_eq_getElem (by omega)⟩
    have hplc : plc t d.1 = (k : Int) := by rw [h1, pnm_at hy, G.plc_at hy]
    rw [chgW_at hdk, hplc, h2, if_neg (by omega), if_neg (by omega), Int.toNat_natCast, hz, Int.zero_add, if_pos (show okZ x from ⟨hxp, hxl⟩), take_set_next t.length hx hl]
    exact chg_zeros G hO hl hds hd m (k + 1) (by omega)
theorem app_zeros {t : List Nd} {most : Int} (G : Good t most) {O : List Int} (hO : OwnG O) (hl : O.length = t.length) {ds : List Dl} (hds : ds.length = t.length) (hd : ∀ (k : Nat) (d : Dl), ds[k]? = some d → d.1 = pnm t (k : Int) ∧ d.2 = owZ O k) :
    appW t (List.replicate t.length 0) ds = (0, O) := by
  have h := chg_zeros G hO hl hds hd t.length 0 (by omega)
  rw [List.take_zero, List.nil_append, List.drop_zero, Nat.sub_zero] at h
  rw [appW, padW_full (by simp), h, endW, if_pos rfl, if_pos hO.tot]
section
variable {t : List Nd} {most : Int} {own : List Int} {p : Nat}
theorem Good.cut_app (G : Good t most) (hp : p < t.length) (hl : own.length = t.length) (hO : OwnG own) : appW (cutT t p) (List.replicate (cutT t p).length 0) (ownsL t own (cutT t p)) = (0, cutO t own p) := by
  refine app_zeros (G.cut hp) (G.cut_own hp hl hO) (cutO_length t own p) (ownsL_length _ _ _) fun k d hd => ?_
  have hk := (List.getElem?_eq_some_iff.1 hd).1
  rw [ownsL_length, cutT_length] at hk
  obtain ⟨j, h1, h2, rfl⟩ := nuN_onto t p _ k hk
  obtain ⟨x, hx, e1, _, _⟩ := G.at h1
  have h3 := rs_at (cut_at h2 h1)
  have h4 : (ownsL t own (cutT t p))[nuN t p j]? = some (pnm t (j : Int), tellZ t own.length (pnm t (j : Int)) 0 (owZ own)) := by
    rw [ownsL, List.getElem?_map, h3]; rfl
  rw [h4] at hd
  cases hd
  refine ⟨(cut_pnm h2 h1).symm, ?_⟩
  show tellZ t own.length (pnm t (j : Int)) 0 (owZ own) = _
  rw [e1, tellZ_at G hx (by omega), cut_owZ own h2 h1]
/-- A cut of a cut. -/
theorem Good.cut_twice (G : Good t most) (hp : p < t.length) {q : Nat} (hq : abW t p q = true) : ∀ n : Nat, n ≤ t.length → rs (cutN (cutT t p) (nuN t p q) (nuN t p n)) = rs (cutN t q n)
  | 0, _ => rfl
  | n + 1, hn => by
    have ih := Good.cut_twice G hp hq n (by omega)
    by_cases ha : abW t p n = true
    · have e := G.cut_ab hp hq (n + 1) n (by omega) (by omega) ha
      rw [nuN_hit ha]
      by_cases hb : abW t q n = true
      · rw [cutN_hit (by rw [e]; exact hb), cutN_hit hb, rs_append, rs_append, ih]
        congr 1
        show [pnm (cutT t p) (nuN t p n : Int)] = [pnm t (n : Int)]
        rw [cut_pnm ha (by omega)]
      · rw [cutN_miss (by rw [e]; exact hb), cutN_miss hb, ih]
    · rw [nuN_miss ha, cutN_miss (fun hb => ha (G.abW_trans hq (n + 1) n (by omega) hb)), ih]
theorem Good.cut_two (G : Good t most) (hp : p < t.length) {q : Nat} (hq : abW t p q = true) : rs (cutT (cutT t p) (nuN t p q)) = rs (cutT t q) := by
  have := G.cut_twice hp hq t.length (Nat.le_refl _)
  rw [← cutT_length] at this
  exact this
theorem Good.cut_two_len (G : Good t most) (hp : p < t.length) {q : Nat} (hq : abW t p q = true) : (cutT (cutT t p) (nuN t p q)).length = (cutT t q).length := by
  have := congrArg List.length (G.cut_two hp hq)
  rwa [rs_length, rs_length] at this
theorem Good.cut_two_head (G : Good t most) (hp : p < t.length) (hl : own.length = t.length) {q : Nat} (hql : q < t.length) (hq : abW t p q = true) : pnm (cutT (cutT t p) (nuN t p q)) (hdW (cutT (cutT t p) (nuN t p q)) (cutO (cutT t p) (cutO t own p) (nuN t p q)) : Int) = pnm (cutT t q) (hdW (cutT t q) (cutO t own q) : Int) := by
  rw [(G.cut hp).cut_headnm (nuN_lt_cut hq hql) (cutO_length t own p), G.cut_headnm hql hl]
  obtain ⟨h1, h2⟩ := G.cut_hd (own := own) hp hl own.length q (by omega) (by omega) hq
  have h3 := G.hdF_is (Nat.le_of_eq hl) own.length q (by omega) (by omega)
  rw [h1, cut_pnm h2 (by omega)]
theorem Good.cut_two_wt (G : Good t most) (hp : p < t.length) (hl : own.length = t.length) {q : Nat} (hql : q < t.length) (hq : abW t p q = true) : wtW (cutT (cutT t p) (nuN t p q)) (cutO (cutT t p) (cutO t own p) (nuN t p q)) 0 = wtW (cutT t q) (cutO t own q) 0 := by
  have h1 := (G.cut hp).cut_wt (own := cutO t own p) (nuN_lt_cut hq hql) (cutO_length t own p) ((G.cut hp).abW_self (nuN t p q))
  have h2 := G.cut_wt (own := own) hql hl (G.abW_self q)
  rw [(G.cut hp).nuN_zero _ (Nat.le_refl _)] at h1
  rw [G.nuN_zero _ (Nat.le_refl _)] at h2
  rw [h1, h2, G.cut_wt hp hl hq]
/-- By the first block all is left. -/
theorem Good.nuN_all (G : Good t most) : ∀ n : Nat, n ≤ t.length → nuN t 0 n = n
  | 0, _ => rfl
  | n + 1, h => by rw [nuN_hit (G.abW_root (n + 1) n (by omega) (by omega)), Good.nuN_all G n (by omega)]
theorem Good.cutE_all (G : Good t most) {j : Nat} {x : Nd} (h : t[j]? = some x) : cutE t 0 j = x := by
  have hj := (List.getElem?_eq_some_iff.1 h).1
  have e : cutP t 0 j = x.2.2 := by
    unfold cutP
    by_cases h0 : j = 0
    · subst h0; rw [if_pos rfl, G.fst x h]
    · obtain ⟨q, hq, hlt⟩ := G.parW_pos (show 0 < j by omega) hj
      rw [if_neg h0, hq, Int.toNat_natCast, G.nuN_all q (by omega), ← hq, parW_at h]
  rw [cutE, e, pnm_at h, slW_at h]
theorem Good.cutN_all (G : Good t most) : ∀ n : Nat, n ≤ t.length → cutN t 0 n = t.take n
  | 0, _ => by simp [cutN]
  | n + 1, h => by
    have hx := List.getElem?_eq_getElem (show n < t.length by omega)
    rw [cutN_hit (G.abW_root (n + 1) n (by omega) (by omega)), Good.cutN_all G n (by omega), G.cutE_all hx, List.take_add_one, hx]; rfl
theorem Good.cut_all (G : Good t most) : cutT t 0 = t := by
  have := G.cutN_all t.length (Nat.le_refl _)
  rwa [List.take_length] at this
theorem Good.cuo_all (G : Good t most) (hl : own.length = t.length) : cutO t own 0 = own := by
  refine List.ext_getElem? fun i => ?_
  by_cases hi : i < t.length
  · have ha := G.abW_root (i + 1) i (by omega) hi
    have := cuoN_at own ha t.length hi
    rw [G.nuN_all i (by omega)] at this
    have hx := List.getElem?_eq_getElem (show i < own.length by omega)
    rw [hx]
    exact this.trans (congrArg some (owZ_at hx))
  · rw [List.getElem?_eq_none (by rw [cutO_length, G.cut_all]; omega), List.getElem?_eq_none (by omega)]
/-- By the head one block is left. -/
theorem nuN_lone {h : Nat} (hs : abW t h h = true) : ∀ n : Nat, (∀ j, j < n → abW t h j = true → j = h) → nuN t h n = if h < n then 1 else 0
  | 0, _ => by simp [nuN]
  | n + 1, hj => by
    have ih := nuN_lone hs n (fun j h1 h2 => hj j (by omega) h2)
    by_cases e : h = n
    · subst e
      rw [nuN_hit hs, ih, if_neg (by omega), if_pos (by omega)]
    · rw [nuN_miss (fun ha => e (hj n (by omega) ha).symm), ih]
      by_cases hlt : h < n
      · rw [if_pos hlt, if_pos (by omega)]
      · rw [if_neg hlt, if_neg (by omega)]
theorem Good.lone (G : Good t most) (hl : own.length = t.length) (h0 : 0 < own.length) : (cutT t (hdW t own)).length = 1 ∧ hdW t own < t.length := by
  obtain ⟨h1, h2⟩ := G.hdF_is (Nat.le_of_eq hl) own.length 0 h0 (by omega)
  have h1' : hdW t own < own.length := h1
  rw [cutT_length, nuN_lone (G.abW_self _) t.length (fun j hj ha => Classical.byContradiction fun e => ?_), if_pos (by omega)]
  · exact ⟨rfl, by omega⟩
  · have hk : ∀ (N j : Nat), j < N → j < t.length → abW t (hdW t own) j = true → j ≠ hdW t own → ∃ k, k < t.length ∧ parW t k = (hdW t own : Int) := by
      intro N
      induction N with
      | zero => intro j h; omega
      | succ N ih =>
        intro j hN hjl hab hne
        obtain ⟨q, hq, hqj, haq⟩ := abW_pos G hne hab hjl
        by_cases e2 : q = hdW t own
        · exact ⟨j, hjl, by rw [hq, e2]⟩
        · exact ih q (by omega) (by omega) haq e2
    obtain ⟨k, h5, h6⟩ := hk (j + 1) j (by omega) hj ha e
    rcases G.bsW_place (Nat.le_of_eq hl) (hdW t own) with ⟨_, h7⟩ | ⟨k', h7, _, _, _⟩
    · exact h7 k (by omega) h6
    · have h8 : bsW t own (hdW t own) = -1 := h2
      omega
theorem Good.hd_self (G : Good t most) (hl : own.length = t.length) (h0 : 0 < own.length) : hdF t own (hdW t own) = hdW t own := by
  obtain ⟨h1, h2⟩ := G.hdF_is (Nat.le_of_eq hl) own.length 0 h0 (by omega)
  exact G.hdF_end (show bsW t own (hdW t own) < 0 by have h3 : bsW t own (hdW t own) = -1 := h2; omega)
end
end Go.Proofs.Ytjodhagjfjgbcaa

/-
  prune's owns: what each block of a tree weighs of its own by weights of a greater one.
-/
namespace Go.Proofs.Ytjodhagjfjgbcaa
open Go Go.RowKit
set_option maxRecDepth 10000

theorem ownsL_dls {t u : List Nd} {own : List Int} (h : Rts (rs u)) : Dls (ownsL t own u) := fun d hd => by
  obtain ⟨r, hr, rfl⟩ := List.mem_map.1 hd
  exact h r hr
theorem ownsL_next {t u : List Nd} {own : List Int} {k : Nat} {r : List UInt8} (h : (rs u)[k]? = some r) : (ownsL t own u).take (k + 1) = (ownsL t own u).take k ++ [(r, tellZ t own.length r 0 (owZ own))] := by
  rw [List.take_add_one, ownsL, List.getElem?_map, h]; rfl
theorem dls_take {l : List Dl} (h : Dls l) (k : Nat) : Dls (l.take k) := fun d hd => h d (List.mem_of_mem_take hd)

set_option maxHeartbeats 4000000 in
theorem owns_any (w : World) (U : List Nat) (ub : Nat) (u : List Nd) (mu : Int) (G : List Nat) (tb : Nat) (t : List Nd) (mt : Int) (F : List Nat) (wb : Nat) (own : List Int) (hU : Tre w U ub u mu) (hT : Tre w G tb t mt) (hW : WgtG w F wb tb t own) :
    Calls Try.prog 38 #[.pointer (some ⟨ub, 0, none⟩), .pointer (some ⟨wb, 0, none⟩)] w fun e w' => ∃ v, e = .returned v ∧ Wide 33 w' w.heap.size v (dvs (ownsL t own u)) ∧ Below w.heap.size w w' := by
  obtain ⟨i1, hi1, hz1, hs1, hb1⟩ := info_parts Try.infoDl
  have HRT := Lib.hid hU.1.rts
  have HM256 := Lib.hid (show u.length ≤ 256 by have := hU.1.room; have := hU.1.most256; omega)
  have HDS := Lib.hid (ownsL_dls (t := t) (own := own) hU.1.rts)
  have HU := Lib.hid hU
  have HT := Lib.hid hT
  have HW := Lib.hid hW
  clear hU hT hW
  go_enter Try.func38, Try.ntmps38
  go_wp2_with fail
  refine (roots_any w U ub u mu HU.out).mono ?_
  rintro e w1 ⟨v, rfl, hv, hbc⟩
  have HT1 := Lib.hid (HT.out.below hbc)
  have HW1 := Lib.hid (HW.out.below hbc)
  have HB := Lib.hid hbc
  obtain ⟨ro, rcap, rg, roff, rfl, hrl⟩ := wide_names hv HRT.out
  have HRL := Lib.hid hrl
  obtain ⟨N, hN⟩ : ∃ N, (rs u).length = N := ⟨_, rfl⟩
  have HN := Lib.hid hN
  have HNL := Lib.hid (show N ≤ 256 by rw [← hN, rs_length]; exact HM256.out)
  rw [hN]
  obtain ⟨B1, hB1⟩ : ∃ B1, B1 = w1.heap.size := ⟨_, rfl⟩
  have HBE := Lib.hid hB1
  have HBS := Lib.hid (show B1 ≤ w1.heap.size by rw [hB1]; exact Nat.le_refl _)
  have HWB := Lib.hid (show w.heap.size ≤ B1 by rw [hB1]; exact hbc.size)
  have HS0 := Lib.hid (show Wide 33 w1 B1 (.slice none 0 0) (dvs ((ownsL t own u).take 0)) from wide_nil0 33 w1 _)
  have HB0 := Lib.hid (show Below B1 w1 w1 from Below.refl _ _)
  clear hv hbc hrl hN HU HT HW hB1
  go_wp2_with fail
  go_loopw [5, 11] (fun v i wx => ∃ k : Nat, k ≤ N ∧ i = .int .i64 k ∧ Hid (Wide 33 wx B1 v (dvs ((ownsL t own u).take k))) ∧ Hid (Below B1 w1 wx)) (fun _ i _ => N - (intOf i).toNat)
  case atStart => exact ⟨0, Nat.zero_le _, rfl, HS0, HB0⟩
  case round =>
    clear HS0 HB0
    obtain ⟨k, hk, rfl, HS, HB2⟩ := hrel
    obtain ⟨wx, rfl⟩ : ∃ x, x = wr := ⟨_, rfl⟩
    by_cases hlt : k < N
    · obtain ⟨r, hr⟩ : ∃ r, (rs u)[k]? = some r := ⟨_, List.getElem?_eq_getElem (by rw [HN.out]; exact hlt)⟩
      have hbl : Below w1.heap.size w1 wx := by rw [← HBE.out]; exact HB2.out
      have HT := Lib.hid (HT1.out.below hbl)
      have HW := Lib.hid (HW1.out.below hbl)
      have HRk := Lib.hid (HRL.out.below hbl)
      clear hbl
      obtain ⟨hro, hrc⟩ := HRk.out.name HRT.out hr
      subst hro
      have HRC := Lib.hid hrc
      have HLR := Lib.hid (HRT.out r (List.mem_of_getElem? hr))
      have HNX := Lib.hid (ownsL_next (t := t) (own := own) hr)
      have HLT := Lib.hid hlt
      have hlt' : (k : Int) < (N : Int) := by omega
      have HWK := Lib.hid (show wrap64 ((k : Int) + 1) = ((k + 1 : Nat) : Int) by have := HNL.out; have := HLT.out; unfold wrap64; omega)
      have HLK := Lib.hid (show (dvs ((ownsL t own u).take k)).length = k * 33 by rw [dvs_length _ (dls_take HDS.out k), List.length_take, ownsL_length, ← rs_length, HN.out, Nat.min_eq_left (Nat.le_of_lt HLT.out)])
      obtain ⟨z, hz⟩ : ∃ z, tellZ t own.length r 0 (owZ own) = z := ⟨_, rfl⟩
      have HZE := Lib.hid hz
      rw [hz] at HNX
      clear hr hrc hlt hk hz
      obtain ⟨qo, qn, qcap, qg, qoff, rfl, hqn, hql⟩ := HS.out.lies
      have HQN := Lib.hid (show qn = k by rw [HLK.out] at hqn; omega)
      rw [HQN.out] at HS ⊢
      clear hqn hql HQN
      have HZ := Lib.hid (blk_zeroR wx)
      have HZL := Lib.hid zero32_len
      have HR := Lib.hid (HZ.out.setRow (bv r))
      have hbx : Below wx.heap.size wx ((wx.alloc (.cells #[.int .u8 0, .int .u8 0, .int .u8 0, .int .u8 0, .int .u8 0, .int .u8 0, .int .u8 0, .int .u8 0, .int .u8 0, .int .u8 0, .int .u8 0, .int .u8 0, .int .u8 0, .int .u8 0, .int .u8 0, .int .u8 0, .int .u8 0, .int .u8 0, .int .u8 0, .int .u8 0, .int .u8 0, .int .u8 0, .int .u8 0, .int .u8 0, .int .u8 0, .int .u8 0, .int .u8 0, .int .u8 0, .int .u8 0, .int .u8 0, .int .u8 0, .int .u8 0] 24)).setRow wx.heap.size (bv r).toArray) := below_row ((Below.refl _ wx).alloc (Nat.le_refl _) _) (Nat.le_refl _) _
      replace HS := Lib.hid (HS.out.below hbx)
      replace HB2 := Lib.hid (HB2.out.trans (hbx.mono (Nat.le_trans HBS.out HB2.out.size)))
      replace HT := Lib.hid (HT.out.below hbx)
      replace HW := Lib.hid (HW.out.below hbx)
      clear hbx
      obtain ⟨R, hRR⟩ : ∃ R, R = wx.heap.size := ⟨_, rfl⟩
      go_upto_region 5 with (first | ((with_reducible refine wpList_load_name (.tmp 13) ?_ ?_ rg (roff + k * 32) r ?_ HLR.out HRC.out ?_); rfl; rfl; rfl) | ((with_reducible refine wpList_store_name (.tmp 7) (.tmp 14) ?_ ?_ wx.heap.size zero32 r ?_ ?_ HZ.out HZL.out HLR.out ?_); rfl; rfl; rfl; rfl))
      try simp only [Act.put]
      rw [← hRR] at HR HS HB2 HT HW ⊢
      generalize (wx.alloc (.cells #[.int .u8 0, .int .u8 0, .int .u8 0, .int .u8 0, .int .u8 0, .int .u8 0, .int .u8 0, .int .u8 0, .int .u8 0, .int .u8 0, .int .u8 0, .int .u8 0, .int .u8 0, .int .u8 0, .int .u8 0, .int .u8 0, .int .u8 0, .int .u8 0, .int .u8 0, .int .u8 0, .int .u8 0, .int .u8 0, .int .u8 0, .int .u8 0, .int .u8 0, .int .u8 0, .int .u8 0, .int .u8 0, .int .u8 0, .int .u8 0, .int .u8 0, .int .u8 0] 24)).setRow R (bv r).toArray = w3 at HR HS HB2 HT HW ⊢
      clear HZ HZL hRR
      clear HRC
      refine wp_region_free (P := Try.prog) 7 (fun w' => Below w3.heap.size w3 w') (fun oq v w' => match oq with
          | 0 => v = .slice qo k qcap
          | 1 => v = .agg (bv r).toArray
          | 2 => v = .pointer (some ⟨wb, 0, none⟩)
          | 3 => v = .agg (bv r).toArray
          | 4 => v = .int .i64 z
          | 5 => v = .agg (dlv (r, z)).toArray
          | 6 => ∃ g, v = .slice (some ⟨g, 0, none⟩) 1 1 ∧ Lies w' w'.heap.size (some ⟨g, 0, none⟩) g 0 (dlv (r, z))
          | _ => True) (by kernel_rfl) (by kernel_rfl) (Below.refl _ _).drew ?gb ?vb ?steps ?fin
      case gb => exact fun a b h1 h2 => h1.trans (h2.mono h1.size)
      case vb =>
        intro oq v a b h hb
        match oq with
        | 0 => exact h
        | 1 => exact h
        | 2 => exact h
        | 3 => exact h
        | 4 => exact h
        | 5 => exact h
        | 6 => (obtain ⟨g, h1, h2⟩ := h; exact ⟨g, h1, h2.below hb⟩)
        | _ + 7 => trivial
      case steps =>
        intro vals
        simp only [List.take_succ_cons, List.take_zero, freeSteps, Act.put, List.setIfInBounds_toArray, List.set_cons_zero, List.set_cons_succ, Nat.reduceAdd]
        refine ⟨fun w8 hG hW => ?_, fun w8 hG hW => ?_, fun w8 hG hW => ?_, fun w8 hG hW => ?_, fun w8 hG hW => ?_, fun w8 hG hW => ?_, fun w8 hG hW => ?_, trivial⟩
        · clear hW
          refine stepAt_value rfl rfl rfl (.slice qo k qcap) w8 ?_ ⟨rfl, Below.refl _ _⟩
          go_simp
        · clear hW
          exact stepAt_load_run rfl rfl rfl _ _ rfl _ _ rfl (run_load_root HLR.out (HR.out.below hG HR.out.lt).rootAll) ⟨rfl, Below.refl _ _⟩
        · clear hW
          refine stepAt_value rfl rfl rfl (.pointer (some ⟨wb, 0, none⟩)) w8 ?_ ⟨rfl, Below.refl _ _⟩
          go_simp
        · clear hW
          exact stepAt_load_run rfl rfl rfl _ _ rfl _ _ rfl (run_load_root HLR.out (HR.out.below hG HR.out.lt).rootAll) ⟨rfl, Below.refl _ _⟩
        · have q2 := hW 2 (by decide)
          simp only at q2
          have q3 := hW 3 (by decide)
          simp only at q3
          rw [q2, q3]
          clear hW
          refine stepAt_call rfl rfl rfl 21 #[.pointer (some ⟨wb, 0, none⟩), .agg (bv r).toArray] (by go_simp) ((own_any w8 G tb t mt F wb own r (HT.out.below hG) (HW.out.below hG) HLR.out).mono fun e w' ⟨h1, h2⟩ => ⟨_, h1, by rw [HZE.out], h2⟩)
        · have q1 := hW 1 (by decide)
          simp only at q1
          have q4 := hW 4 (by decide)
          simp only at q4
          rw [q1, q4]
          clear hW
          refine stepAt_build rfl rfl rfl 73 _ rfl (dlv (r, z)).toArray ?_ ⟨rfl, Below.refl _ _⟩
          simp only [List.map_toArray, List.map_cons, List.map_nil]
          exact built_dl r z HLR.out
        · have q5 := hW 5 (by decide)
          simp only at q5
          rw [q5]
          clear hW
          refine stepAt_build_rows rfl rfl rfl 68 73 1 _ rfl i1 (.agg (dlv dl0).toArray) (s := 33) (by omega) [dlv (r, z)] (fun rr hrr => by simp at hrr; rw [hrr]; exact dlv_length HLR.out) Try.underlying68 hi1 hz1 hs1 rfl (by omega) (by omega) rfl ⟨⟨w8.heap.size, rfl, ?_⟩, (Below.refl _ _).alloc (Nat.le_refl _) _⟩
          rw [show ([dlv (r, z)] : List (List Value)).flatten = dlv (r, z) by simp]
          exact ⟨fun _ => rfl, fun _ => by simp, fun j u hj => by rw [Nat.zero_add]; exact ((Blk.new w8 73 (dlv (r, z)).toArray).cell j).trans hj⟩
      case fin =>
        intro vals w9 hG hV
        have q0 := hV 0 (by omega)
        simp only at q0
        obtain ⟨gd, qd, hld⟩ := hV 6 (by omega)
        simp only [List.take_succ_cons, List.take_zero, List.drop_succ_cons, List.drop_zero, putAll, Act.put, List.setIfInBounds_toArray, List.set_cons_zero, List.set_cons_succ, Nat.reduceAdd]
        rw [q0, qd]
        clear hV q0 qd
        generalize vals 1 = y1
        generalize vals 2 = y2
        generalize vals 3 = y3
        generalize vals 4 = y4
        generalize vals 5 = y5
        have HW9 := Lib.hid (HS.out.below hG)
        have HB9 := Lib.hid (HB2.out.trans (hG.mono (Nat.le_trans HBS.out HB2.out.size)))
        have HSRC := Lib.hid (hld.src (P := Try.prog) (n := 1) (k := 33) 1 68 73 Try.underlying68 (by rw [dlv_length (d := (r, z)) HLR.out]) (dlv_one _) (by decide))
        have hlt9 : k < 256 := by have := HNL.out; have := HLT.out; omega
        have HM1 := Lib.hid (show (dvs ((ownsL t own u).take k)).length + 1 ≤ maxLen by rw [HLK.out]; unfold maxLen; omega)
        have HM2 := Lib.hid (show ((dvs ((ownsL t own u).take k)).length + 1) * 40 ≤ 140737488355328 by rw [HLK.out]; omega)
        have HSK := Lib.hid (show B1 ≤ w9.heap.size from Nat.le_trans HBS.out HB9.out.size)
        clear hld hG
        go_wp2_with (at_builtin; refine wpList_append_wide rfl _ _ 68 68 rfl rfl HW9.out (by decide) 73 i1 (.agg (dlv dl0).toArray) 40 Try.underlying68 hi1 hz1 hs1 hb1 rfl _ rfl 1 (dlv (r, z)) HSRC.out HM1.out HM2.out HSK.out ?_)
        intro v' w10 hv hg
        have HBN := Lib.hid (HB9.out.trans (hg.belowW HW9.out HSK.out))
        have HSN := Lib.hid (show Wide 33 w10 B1 v' (dvs ((ownsL t own u).take (k + 1))) by rw [HNX.out, dvs_append, dvs_sole]; exact hv)
        clear hg hv HM1 HM2 HSRC HSK HW9 HB9 HS HB2 HT HW HRk HR hlt9
        have hlk := HLT.out
        go_wp2_with fail
        go_roundw
        case rel => exact ⟨k + 1, by omega, by first | rw [HWK.out] | rw [Int.natCast_succ], HSN, HBN⟩
        case measure => first | exact measK N k 1 ((k : Int) + 1) (by omega) hlk Nat.zero_lt_one | exact measK N k 1 (wrap64 ((k : Int) + 1)) HWK.out hlk Nat.zero_lt_one
    · obtain rfl : k = N := by omega
      have HE := Lib.hid (show (ownsL t own u).take k = ownsL t own u from List.take_of_length_le (by rw [ownsL_length, ← rs_length, HN.out]; exact Nat.le_refl _))
      rw [HE.out] at HS
      clear hlt
      go_wp2_with fail
      go_ret
      exact ⟨_, rfl, HS.out.mono HWB.out, HB.out.trans (HB2.out.mono HWB.out)⟩
end Go.Proofs.Ytjodhagjfjgbcaa

/-
  prune's All: another tree, and its weights.
-/
namespace Go.Proofs.Ytjodhagjfjgbcaa
open Go Go.RowKit
set_option maxRecDepth 10000

theorem tre_in {w : World} {F : List Nat} {b : Nat} {t : List Nd} {most : Int} (h : Tre w F b t most) : b ∈ F := by
  obtain ⟨_, m, v, h⟩ := h
  exact h.inb
theorem tre_ne {w w' : World} {F G : List Nat} {b c : Nat} {t u : List Nd} {most most' : Int} (h : Tre w F b t most) (k : Tre w' G c u most') (hh : High w.heap.size G) : c ≠ b := fun e => by
  have h1 := h.low b (tre_in h)
  have h2 := hh c (tre_in k)
  omega

theorem pall_nil (w : World) (v : Value) (r : List UInt8) (hr : r.length = 32) :
    Calls Try.prog 11 #[.pointer none, v, .agg (bv r).toArray] w fun e w' => e = .returned (.tuple #[.pointer none, .pointer none, .int .i64 2]) ∧ Below w.heap.size w w' := by
  have HB := Lib.hid (show Below w.heap.size w (w.alloc (.cells (bv r).toArray 24)) from (Below.refl _ w).alloc (Nat.le_refl _) _)
  have HX := Lib.hid (Blk.new w 24 (bv r).toArray)
  obtain ⟨X, hX⟩ : ∃ X, X = w.heap.size := ⟨_, rfl⟩
  rw [← hX] at HX
  go_enter Try.func11, Try.ntmps11
  go_upto_region 1 with fail
  rw [← hX]
  generalize w.alloc (.cells (bv r).toArray 24) = w1 at HB HX ⊢
  clear hX
  have HXC := Lib.hid HX.out.rootAll
  go_wp2_with ((with_reducible refine wpList_load_name (.tmp 5) ?_ ?_ X 0 r ?_ hr HXC.out ?_); rfl; rfl; rfl)
  refine (ptree_nil w1 r).mono ?_
  rintro e w2 ⟨rfl, hbc⟩
  replace HB := Lib.hid (HB.out.trans (hbc.mono HB.out.size))
  clear hbc
  go_wp2_with fail
  go_ret3
  exact ⟨rfl, HB.out⟩
theorem pall_none (w : World) (G : List Nat) (tb : Nat) (t : List Nd) (most : Int) (v : Value) (r : List UInt8) (hP : plc t r = -1) (hT : Tre w G tb t most) (hr : r.length = 32) :
    Calls Try.prog 11 #[.pointer (some ⟨tb, 0, none⟩), v, .agg (bv r).toArray] w fun e w' => e = .returned (.tuple #[.pointer none, .pointer none, .int .i64 7]) ∧ Below w.heap.size w w' := by
  have HB := Lib.hid (show Below w.heap.size w (w.alloc (.cells (bv r).toArray 24)) from (Below.refl _ w).alloc (Nat.le_refl _) _)
  have HX := Lib.hid (Blk.new w 24 (bv r).toArray)
  obtain ⟨X, hX⟩ : ∃ X, X = w.heap.size := ⟨_, rfl⟩
  rw [← hX] at HX
  go_enter Try.func11, Try.ntmps11
  go_upto_region 1 with fail
  rw [← hX]
  generalize w.alloc (.cells (bv r).toArray 24) = w1 at HB HX ⊢
  clear hX
  have HXC := Lib.hid HX.out.rootAll
  go_wp2_with ((with_reducible refine wpList_load_name (.tmp 5) ?_ ?_ X 0 r ?_ hr HXC.out ?_); rfl; rfl; rfl)
  refine (ptree_none w1 G tb t most r hP (hT.below HB.out) hr).mono ?_
  rintro e w2 ⟨rfl, hbc⟩
  replace HB := Lib.hid (HB.out.trans (hbc.mono HB.out.size))
  clear hbc
  go_wp2_with fail
  go_ret3
  exact ⟨rfl, HB.out⟩

set_option maxHeartbeats 4000000 in
theorem pall_ok (w : World) (G : List Nat) (tb : Nat) (t : List Nd) (most : Int) (F : List Nat) (wb : Nat) (own : List Int) (r : List UInt8) (p : Nat) (hP : plc t r = (p : Int)) (hT : Tre w G tb t most) (hW : WgtG w F wb tb t own) (hl : own.length = t.length) (hr : r.length = 32) :
    Calls Try.prog 11 #[.pointer (some ⟨tb, 0, none⟩), .pointer (some ⟨wb, 0, none⟩), .agg (bv r).toArray] w fun e w' => ∃ U ub V vb, e = .returned (.tuple #[.pointer (some ⟨ub, 0, none⟩), .pointer (some ⟨vb, 0, none⟩), .int .i64 0]) ∧ Tre w' U ub (cutT t p) most ∧ WgtG w' V vb ub (cutT t p) (cutO t own p) ∧ High w.heap.size U ∧ Below w.heap.size w w' := by
  have HPL := Lib.hid (show p < t.length by have := plc_lt t r; omega)
  have HGD := Lib.hid hT.1
  have HLW := Lib.hid hl
  have HOG := Lib.hid hW.1
  have HT0 := Lib.hid hT
  have HW0 := Lib.hid hW
  clear hW hl
  have HB := Lib.hid (show Below w.heap.size w (w.alloc (.cells (bv r).toArray 24)) from (Below.refl _ w).alloc (Nat.le_refl _) _)
  have HX := Lib.hid (Blk.new w 24 (bv r).toArray)
  obtain ⟨X, hX⟩ : ∃ X, X = w.heap.size := ⟨_, rfl⟩
  rw [← hX] at HX
  go_enter Try.func11, Try.ntmps11
  go_upto_region 1 with fail
  rw [← hX]
  generalize w.alloc (.cells (bv r).toArray 24) = w1 at HB HX ⊢
  clear hX
  have HXC := Lib.hid HX.out.rootAll
  go_wp2_with ((with_reducible refine wpList_load_name (.tmp 5) ?_ ?_ X 0 r ?_ hr HXC.out ?_); rfl; rfl; rfl)
  refine (ptree_ok w1 G tb t most r p hP (HT0.out.below HB.out) hr).mono ?_
  rintro e w2 ⟨U, ub, rfl, hu, hh, hbc⟩
  have HU := Lib.hid hu
  have HH := Lib.hid (hh.mono HB.out.size)
  replace HB := Lib.hid (HB.out.trans (hbc.mono HB.out.size))
  have HCG := Lib.hid (HGD.out.cut HPL.out)
  have HAPP := Lib.hid (HGD.out.cut_app HPL.out HLW.out HOG.out)
  clear hbc hu hh hT
  go_wp2_with fail
  refine (wnew_any w2 U ub (cutT t p) most HU.out).mono ?_
  rintro e w3 ⟨V, vb, rfl, hv, hh, hbc⟩
  have HAUV := Lib.hid (Away.high HU.out.low hh)
  replace HU := Lib.hid (HU.out.below hbc)
  have HV := Lib.hid hv
  have HHV := Lib.hid (hh.mono HB.out.size)
  replace HB := Lib.hid (HB.out.trans (hbc.mono HB.out.size))
  clear hbc hv hh
  go_wp2_with fail
  refine (owns_any w3 U ub (cutT t p) most G tb t most F wb own HU.out (HT0.out.below HB.out) (HW0.out.below HB.out)).mono ?_
  rintro e w4 ⟨v, rfl, hv, hbc⟩
  obtain ⟨dao, dcap, dg, doff, rfl, hdl, hdg⟩ := wide_dls hv (ownsL_dls HCG.out.rts)
  have HDL := Lib.hid hdl
  have HDG := Lib.hid (show 0 < (ownsL t own (cutT t p)).length → dg ∉ V from fun h0 hm => by have := hdg h0; have := HV.out.low dg hm; omega)
  replace HU := Lib.hid (HU.out.below hbc)
  replace HV := Lib.hid (HV.out.below hbc)
  replace HB := Lib.hid (HB.out.trans (hbc.mono HB.out.size))
  have HDN := Lib.hid (show (ownsL t own (cutT t p)).length ≤ 1000 by rw [ownsL_length]; have := HCG.out.room; have := HCG.out.most256; omega)
  clear hbc hv hdl hdg
  go_wp2_with fail
  refine (apply_any w4 U ub (cutT t p) most V vb _ _ _ (ownsL t own (cutT t p)) dao dcap dg doff HU.out HV.out.2.2.2 HAUV.out HV.out.2.1 HV.out.1 (ownsL_dls HCG.out.rts) HDN.out HDL.out HDG.out).mono ?_
  rintro e w5 ⟨rfl, V2, hv2, hk2, hn2⟩
  rw [HAPP.out] at hv2 ⊢
  replace HU := Lib.hid (HU.out.keep hk2 HAUV.out)
  replace HB := Lib.hid (HB.out.trans (hk2.below HB.out.size HHV.out))
  have HV2 := Lib.hid hv2
  clear hv2 hk2 hn2 HV
  go_wp2_with fail
  go_ret3
  exact ⟨U, ub, V2, vb, rfl, HU.out, HV2.out, HH.out, HB.out⟩
end Go.Proofs.Ytjodhagjfjgbcaa
