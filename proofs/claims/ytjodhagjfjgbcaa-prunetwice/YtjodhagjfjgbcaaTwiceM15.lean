/-
  The texts WApply, RWApply, WAsk, one behind the other.
-/
import Derived.Test.YtjodhagjfjgbcaaTwiceM14
import Derived.Test.YtjodhagjfjgbcaaTwiceM12
/-
  Apply and New: the weights behind deltas; a tree's weights, all 0.
-/
namespace Go.Proofs.Ytjodhagjfjgbcaa
open Go Go.RowKit
set_option maxRecDepth 10000

/-- The weights at block b are those of this tree, at these own weights. -/
def WgtG (w : World) (F : List Nat) (b tb : Nat) (t : List Nd) (own : List Int) : Prop := OwnG own ∧ own.length ≤ t.length ∧ 0 < own.length ∧ Wgt w F b tb own (wtsL t own) (bssL t own)
theorem WgtG.keep {w w' : World} {F G : List Nat} {b tb : Nat} {t : List Nd} {own : List Int} (h : WgtG w F b tb t own) (hk : Kept G w w') (hF : Away F G) : WgtG w' F b tb t own := ⟨h.1, h.2.1, h.2.2.1, h.2.2.2.keep hk hF⟩
theorem WgtG.below {w w' : World} {F : List Nat} {b tb : Nat} {t : List Nd} {own : List Int} (h : WgtG w F b tb t own) (hb : Below w.heap.size w w') : WgtG w' F b tb t own := ⟨h.1, h.2.1, h.2.2.1, h.2.2.2.below hb⟩
theorem WgtG.low {w : World} {F : List Nat} {b tb : Nat} {t : List Nd} {own : List Int} (h : WgtG w F b tb t own) : Low w F := h.2.2.2.low

set_option maxHeartbeats 4000000 in
theorem apply_any (w : World) (G : List Nat) (tb : Nat) (t : List Nd) (most : Int) (F : List Nat) (b : Nat) (own s0 b0 : List Int) (ds : List Dl) (dao : Option Addr) (dcap dg doff : Nat) (hT : Tre w G tb t most) (h : Wgt w F b tb own s0 b0) (hA : Away G F) (hl : own.length ≤ t.length) (hO : OwnG own)
    (hD : Dls ds) (hdl : ds.length ≤ 1000) (hL : Lies w w.heap.size dao dg doff (dvs ds)) (hdF : 0 < ds.length → dg ∉ F) :
    Calls Try.prog 35 #[.pointer (some ⟨b, 0, none⟩), .slice dao ds.length dcap] w fun e w' => e = .returned (.int .i64 (appW t own ds).1) ∧ ∃ F', WgtG w' F' b tb t (appW t own ds).2 ∧ Kept F w w' ∧ NewF w F F' := by
  have HT := Lib.hid hT
  have HO := Lib.hid hO
  have HD := Lib.hid hD
  have HL := Lib.hid hL
  have HW := Lib.hid h
  have HA := Lib.hid hA
  have HLE := Lib.hid hl
  have HDF := Lib.hid hdF
  have HLO := Lib.hid hT.low
  have HTP := Lib.hid hT.1.pos
  clear hT h hA hl hO hD hL hdF
  go_enter Try.func35, Try.ntmps35
  go_wp2_with fail
  refine (learn_any w G tb t most F b own s0 b0 HT.out HW.out HA.out HLE.out).mono ?_
  rintro e w1 ⟨rfl, F1, hw1, hk1, hn1⟩
  have HW1 := Lib.hid hw1
  have HK1 := Lib.hid hk1
  have HN1 := Lib.hid hn1
  have HT1 := Lib.hid (HT.out.keep hk1 HA.out)
  have HA1 := Lib.hid (HA.out.new' hn1 HLO.out)
  have HL1 := Lib.hid (show Lies w1 w1.heap.size dao dg doff (dvs ds) from
    ⟨HL.out.addr, fun h0 => Nat.lt_of_lt_of_le (HL.out.lt h0) hk1.size, fun j u hj => by
      have h0 : 0 < (dvs ds).length := by have := (List.getElem?_eq_some_iff.1 hj).1; omega
      have h1 : 0 < ds.length := by
        rcases Nat.eq_zero_or_pos ds.length with h2 | h2
        · rw [List.eq_nil_of_length_eq_zero h2] at h0; simp [dvs] at h0
        · exact h2
      exact (World.cell?_of_block (a := ⟨dg, doff + j, none⟩) (hk1.block dg (HL.out.lt h0) (HDF.out h1))).trans (HL.out.cells j u hj)⟩)
  have HPL := Lib.hid (padW_length HLE.out)
  have HPO := Lib.hid (HO.out.pad t)
  clear hw1 hk1 hn1
  go_wp2_with fail
  refine (changed_any w1 G tb t most F1 b (padW t own) s0 b0 ds dao dcap dg doff HT1.out HW1.out HPL.out HPO.out HD.out hdl HL1.out).mono ?_
  rintro e w2 ⟨v, rfl, ⟨ao, n, cap, rfl⟩, hv, hb2⟩
  rw [← show appW t own ds = endW (padW t own) (chgW t (padW t own) ds) from rfl] at hv ⊢
  have HOE := Lib.hid (appW_ok HO.out t ds)
  have HLN := Lib.hid (appW_length HO.out HLE.out ds)
  have HER := Lib.hid (show (appW t own ds).1 ≠ 0 → (appW t own ds).2 = padW t own from fun hne => by
    unfold appW endW at hne ⊢
    split
    · rename_i h1
      rw [if_pos h1] at hne
      split
      · rename_i h2; rw [if_pos h2] at hne; exact absurd rfl hne
      · rfl
    · rfl)
  have HV := Lib.hid hv
  have HB2 := Lib.hid hb2
  clear hv hb2
  obtain ⟨E, hE⟩ : ∃ E, E = (appW t own ds).1 := ⟨_, rfl⟩
  obtain ⟨N, hN⟩ : ∃ N, N = (appW t own ds).2 := ⟨_, rfl⟩
  rw [← hE] at HV HER ⊢
  rw [← hN] at HV HER HOE HLN
  have HEQ := Lib.hid hE
  have HNQ := Lib.hid hN
  clear hE hN
  by_cases hE0 : E = 0
  · subst hE0
    obtain ⟨a1, a2, a3, c1, c2, c3, g1, g2, g3, o1, o2, o3, hs⟩ := HW1.out.open
    have hst := hs.own2 HB2.out (HV.out rfl) (by rw [HLN.out]; exact HTP.out)
    have c1' := (hs.below HB2.out).cell1
    have f1' := (hs.below HB2.out).blk.free 1
    have HST := Lib.hid hst
    clear hst hs
    go_wp2_with fail
    obtain ⟨F3, hF3⟩ : ∃ F3, F3 = ownL (.slice ao n cap) ++ F1 := ⟨_, rfl⟩
    rw [← hF3] at HST
    generalize w2.setCell ⟨b, 1, none⟩ (.slice ao n cap) = w3 at HST ⊢
    have HK3 := Lib.hid (HK1.out.trans HST.out.2.1 HN1.out)
    have HN3 := Lib.hid (HN1.out.trans HST.out.2.2 HK1.out.size)
    have HT3 := Lib.hid (HT.out.keep HK3.out HA.out)
    have HA3 := Lib.hid (HA.out.new' HN3.out HLO.out)
    clear hF3 c1' f1'
    refine (rank_any w3 G tb t most F3 b N s0 b0 HT3.out HST.out.1 HA3.out (by rw [HLN.out]; exact Nat.le_refl _) (by rw [HLN.out]; exact HTP.out) HOE.out).mono ?_
    rintro e w4 ⟨rfl, F4, hw4, hk4, hn4⟩
    have HFIN := Lib.hid hw4
    have HKF := Lib.hid (HK3.out.trans hk4 HN3.out)
    have HNF := Lib.hid (HN3.out.trans hn4 HK3.out.size)
    clear hw4 hk4 hn4
    go_wp2_with fail
    go_ret
    exact ⟨by rw [← HEQ.out]; rfl, F4, by rw [← HNQ.out]; exact ⟨HOE.out, by rw [HLN.out]; exact Nat.le_refl _, by rw [HLN.out]; exact HTP.out, HFIN.out⟩, HKF.out, HNF.out⟩
  · have hE1 : (E == 0) = false := by simp [hE0]
    have HNE := Lib.hid (HER.out hE0)
    go_wp2_with fail
    have HK3 := Lib.hid (HK1.out.then HB2.out)
    have HT3 := Lib.hid (HT.out.keep HK3.out HA.out)
    refine (rank_any w2 G tb t most F1 b (padW t own) s0 b0 HT3.out (HW1.out.below HB2.out) HA1.out (by rw [HPL.out]; exact Nat.le_refl _) (by rw [HPL.out]; exact HTP.out) HPO.out).mono ?_
    rintro e w4 ⟨rfl, F4, hw4, hk4, hn4⟩
    have HFIN := Lib.hid hw4
    have HKF := Lib.hid (HK3.out.trans hk4 HN1.out)
    have HNF := Lib.hid (HN1.out.trans (show NewF w1 F1 F4 from fun x hx => (hn4 x hx).imp id (fun h => Nat.le_trans HB2.out.size h)) HK1.out.size)
    clear hw4 hk4 hn4
    go_wp2_with fail
    go_ret
    exact ⟨by rw [← HEQ.out]; rfl, F4, by rw [← HNQ.out, HNE.out]; exact ⟨HPO.out, by rw [HPL.out]; exact Nat.le_refl _, by rw [HPL.out]; exact HTP.out, HFIN.out⟩, HKF.out, HNF.out⟩

theorem apply_nil (w : World) (v : Value) : Calls Try.prog 35 #[.pointer none, v] w fun e w' => e = .returned (.int .i64 2) ∧ w' = w := by
  go_enter Try.func35, Try.ntmps35
  go_wp2_with fail
  go_ret
  exact ⟨rfl, rfl⟩

theorem wnew_nil (w : World) : Calls Try.prog 33 #[.pointer none] w fun e w' => e = .returned (.pointer none) ∧ w' = w := by
  go_enter Try.func33, Try.ntmps33
  go_wp2_with fail
  go_ret
  exact ⟨rfl, rfl⟩

theorem wgt_start (w : World) (tb b : Nat) (hb : b = w.heap.size) : Wgt (w.alloc (.cells #[.pointer (some ⟨tb, 0, none⟩), .slice none 0 0, .slice none 0 0, .slice none 0 0] 89)) [b] b tb [] [] [] := by
  subst hb
  refine ⟨.slice none 0 0, .slice none 0 0, .slice none 0 0, ?_, fun x hx => ?_, fun x hx => ?_, ?_, by simp, fun x hx k hk => ?_, fun x hx => ?_⟩
  · exact Blk.new w 89 #[.pointer (some ⟨tb, 0, none⟩), .slice none 0 0, .slice none 0 0, .slice none 0 0]
  · simp only [wItems, List.mem_cons, List.not_mem_nil, or_false] at hx
    rcases hx with rfl | rfl | rfl <;> exact wide_nil0 1 _ 0
  · simp only [wItems, List.mem_cons, List.not_mem_nil, or_false] at hx
    rcases hx with rfl | rfl | rfl <;> simp [Value.ownBlock]
  · intro i j x y hij hx hy k hk
    have hm := List.mem_of_getElem? hx
    simp only [wItems, List.mem_cons, List.not_mem_nil, or_false] at hm
    rcases hm with rfl | rfl | rfl <;> simp [Value.ownBlock] at hk
  · simp only [wItems, List.mem_cons, List.not_mem_nil, or_false] at hx
    rcases hx with rfl | rfl | rfl <;> simp [Value.ownBlock] at hk
  · simp at hx
    simp [hx]

set_option maxHeartbeats 4000000 in
theorem wnew_any (w : World) (G : List Nat) (tb : Nat) (t : List Nd) (most : Int) (hT : Tre w G tb t most) :
    Calls Try.prog 33 #[.pointer (some ⟨tb, 0, none⟩)] w fun e w' => ∃ F b, e = .returned (.pointer (some ⟨b, 0, none⟩)) ∧ WgtG w' F b tb t (List.replicate t.length 0) ∧ High w.heap.size F ∧ Below w.heap.size w w' := by
  have hb1 : Below w.heap.size w (w.alloc (.cells #[.pointer (some ⟨tb, 0, none⟩), .slice none 0 0, .slice none 0 0, .slice none 0 0] 89)) := (Below.refl _ w).alloc (Nat.le_refl _) _
  have HB := Lib.hid hb1
  have HW := Lib.hid (wgt_start w tb w.heap.size rfl)
  have HT := Lib.hid (hT.below hb1)
  have HA := Lib.hid (show Away G [w.heap.size] from fun x hx hm => by have := hT.low x hx; simp at hm; omega)
  have HTP := Lib.hid hT.1.pos
  have HLO := Lib.hid hT.low
  have HEX := Lib.hid (show padW t [] = List.replicate t.length 0 by simp [padW])
  clear hb1 hT
  go_enter Try.func33, Try.ntmps33
  go_upto_region 4 with fail
  have HH := Lib.hid (show High w.heap.size [w.heap.size] from fun x hx => by simp at hx; omega)
  obtain ⟨b, hb⟩ : ∃ b, b = w.heap.size := ⟨_, rfl⟩
  rw [← hb] at HW HA
  have HHB := Lib.hid (show High w.heap.size [b] from fun x hx => by simp at hx; omega)
  rw [show (.pointer (some ⟨w.heap.size, 0, none⟩) : Value) = .pointer (some ⟨b, 0, none⟩) by rw [hb]]
  generalize w.alloc (.cells #[.pointer (some ⟨tb, 0, none⟩), .slice none 0 0, .slice none 0 0, .slice none 0 0] 89) = w1 at HB HW HT ⊢
  clear hb HH
  go_wp2_with fail
  refine (learn_any w1 G tb t most [b] b [] [] [] HT.out HW.out HA.out (Nat.zero_le _)).mono ?_
  rintro e w2 ⟨rfl, F2, hw2, hk2, hn2⟩
  rw [HEX.out] at hw2
  have HW2 := Lib.hid hw2
  have HK2 := Lib.hid hk2
  have HN2 := Lib.hid hn2
  have HT2 := Lib.hid (HT.out.keep hk2 HA.out)
  have HA2 := Lib.hid (HA.out.new' hn2 HT.out.low)
  have HOG := Lib.hid (show OwnG (List.replicate t.length (0 : Int)) from OwnG.none.zeros t.length)
  clear hw2 hk2 hn2
  go_wp2_with fail
  refine (rank_any w2 G tb t most F2 b (List.replicate t.length 0) [] [] HT2.out HW2.out HA2.out (by rw [List.length_replicate]; exact Nat.le_refl _) (by rw [List.length_replicate]; exact HTP.out) HOG.out).mono ?_
  rintro e w3 ⟨rfl, F3, hw3, hk3, hn3⟩
  have HFIN := Lib.hid hw3
  have HH2 := Lib.hid (HHB.out.new HN2.out HB.out.size)
  have HB2 := Lib.hid (HB.out.trans (HK2.out.below HB.out.size HHB.out))
  have HH3 := Lib.hid (HH2.out.new hn3 HB2.out.size)
  have HB3 := Lib.hid (HB2.out.trans (hk3.below HB2.out.size HH2.out))
  clear hw3 hk3 hn3
  go_wp2_with fail
  go_ret
  exact ⟨F3, b, rfl, ⟨HOG.out, by rw [List.length_replicate]; exact Nat.le_refl _, by rw [List.length_replicate]; exact HTP.out, HFIN.out⟩, HH3.out, HB3.out⟩
end Go.Proofs.Ytjodhagjfjgbcaa

/-
  The document's own weights: Apply.
-/
namespace Go.Proofs.Ytjodhagjfjgbcaa
open Go Go.RowKit
set_option maxRecDepth 10000

def lenAt (b : Nat) (w : World) : Nat := match w.cell? ⟨b, 1, none⟩ with
  | some (.slice _ n _) => n
  | _ => 0
theorem RWs.lenAt {w : World} {F : List Nat} {b tb known : Nat} {own : List Int} {a1 : Option Addr} {c1 g1 o1 : Nat} (h : RWs w F b tb own known a1 c1 g1 o1) : lenAt b w = own.length := by
  unfold Go.Proofs.Ytjodhagjfjgbcaa.lenAt
  rw [h.cell1]
theorem RWk.lenAt {w : World} {F : List Nat} {b tb known : Nat} {own : List Int} (h : RWk w F b tb own known) : Go.Proofs.Ytjodhagjfjgbcaa.lenAt b w = own.length := by
  obtain ⟨a1, c1, g1, o1, h⟩ := h.open
  exact h.lenAt
theorem appW_is (t : List Nd) (own : List Int) (ds : List Dl) : appW t own ds = endW (padW t own) (chgW t (padW t own) ds) := rfl
theorem endW_err (own cur : List Int) {e : Int} (h : e ≠ 0) : endW own (e, cur) = (e, own) := by unfold endW; rw [if_neg h]

set_option maxHeartbeats 16000000 in
theorem rapply_any (w : World) (G : List Nat) (m : Nat) (t : List Nd) (most : Int) (F : List Nat) (b : Nat) (own : List Int) (ds : List Dl) (dao : Option Addr) (dcap dg doff : Nat) (hT : Ref w G m t most) (h : RWk w F b m own own.length) (hA : Away G F) (hl : own.length ≤ t.length) (hO : OwnG own)
    (hD : Dls ds) (hdl : ds.length ≤ 1000) (hL : Lies w w.heap.size dao dg doff (dvs ds)) (hdF : 0 < ds.length → dg ∉ F) :
    Calls Try.prog 36 #[.pointer (some ⟨b, 0, none⟩), .slice dao ds.length dcap] w fun e w' => e = .returned (.int .i64 (appW t own ds).1) ∧ ∃ F', RWk w' F' b m (appW t own ds).2 (appW t own ds).2.length ∧ Kept F w w' ∧ NewF w F F' := by
  obtain ⟨i0, hi0, hz0, hz1, hz2⟩ := info_parts Try.info3
  have htl : t.length ≤ 256 := by have := hT.1.room; have := hT.1.most256; omega
  have HT := Lib.hid hT
  have HO := Lib.hid hO
  have HD := Lib.hid hD
  have HL := Lib.hid hL
  have HA := Lib.hid hA
  have HLE := Lib.hid hl
  have HDF := Lib.hid hdF
  have HLO := Lib.hid hT.low
  have HTP := Lib.hid hT.1.pos
  have HW := Lib.hid (show ∃ F', RWk w F' b m (own ++ List.replicate 0 0) own.length ∧ Kept F w w ∧ NewF w F F' from ⟨F, by rw [List.replicate_zero, List.append_nil]; exact h, Kept.refl _ _, NewF.refl _ _⟩)
  obtain ⟨K0, hK0⟩ : ∃ K0, K0 = own.length := ⟨_, rfl⟩
  have HKE := Lib.hid hK0
  rw [← hK0] at HW
  clear hT h hA hl hO hD hL hdF hK0
  go_enter Try.func36, Try.ntmps36
  go_wp2_with fail
  go_loopw [12] (fun _ wr => ∃ k : Nat, own.length + k ≤ t.length ∧ Hid (∃ F', RWk wr F' b m (own ++ List.replicate k 0) K0 ∧ Kept F w wr ∧ NewF w F F')) (fun _ wr => t.length - lenAt b wr)
  case atStart => exact ⟨0, by have := HLE.out; omega, HW⟩
  case round =>
    clear HW
    obtain ⟨k, hk, HR⟩ := hrel
    obtain ⟨F', hr, hkp, hnw⟩ := HR.out
    have HRW := Lib.hid hr
    have HKP := Lib.hid hkp
    have HNW := Lib.hid hnw
    clear hr hkp hnw HR
    obtain ⟨a1, c1, g1, o1, hs⟩ := HRW.out.open
    have HTr := Lib.hid (HT.out.keep HKP.out HA.out)
    obtain ⟨ta1, ta2, ta3, tk1, tk2, tk3, tg1, tg2, tg3, to1, to2, to3, ht⟩ := HTr.out.open
    have k0 := hs.cell0
    have k1 := hs.cell1
    have t0 := ht.cell0
    have HLX := Lib.hid (show (own ++ List.replicate k 0).length = own.length + k by rw [List.length_append, List.length_replicate])
    have HS := Lib.hid hs
    have HLA := Lib.hid hs.lenAt
    rw [HLX.out] at k1
    clear hs ht
    by_cases hlt : own.length + k < t.length
    · have d1 : ((own.length + k : Nat) : Int) < (t.length : Int) := by omega
      go_upto_region 1 with fail
      go_quiet (fail)
      have HSq := Lib.hid (HS.out.below (below_dN (Below.refl _ _) nq))
      have HKq := Lib.hid (HKP.out.drewN nq)
      generalize wr.drewN nq = wq at HSq HKq ⊢
      clear k0 k1 t0 HS HKP HRW HTr
      have hb1 : Below wq.heap.size wq (wq.alloc (.cells #[.int .i64 0] 3)) := (Below.refl _ _).alloc (Nat.le_refl _) _
      have HB1 := Lib.hid hb1
      have k1 := HSq.out.cell1
      rw [HLX.out] at k1
      have HWI := Lib.hid ((HSq.out.below hb1).wide1)
      rw [HLX.out] at HWI
      have HSRC := Lib.hid (show Src Try.prog 1 42 (.slice (some ⟨wq.heap.size, 0, none⟩) 1 1) 1 (zv [0]) (wq.alloc (.cells #[.int .i64 0] 3)) from src_int wq 42 Try.underlying42 0)
      have HM1 := Lib.hid (show (zv (own ++ List.replicate k 0)).length + 1 ≤ maxLen by rw [zv_length, HLX.out]; unfold maxLen; omega)
      have HM2 := Lib.hid (show ((zv (own ++ List.replicate k 0)).length + 1) * 8 ≤ 140737488355328 by rw [zv_length, HLX.out]; omega)
      clear hb1
      go_upto_region 2 with fail
      go_wp2_with (at_builtin; refine wpList_append_wide rfl _ _ 42 42 rfl rfl HWI.out (by decide) 3 i0 (.int .i64 0) 8 Try.underlying42 hi0 hz0 hz1 hz2 rfl _ rfl 1 (zv [0]) HSRC.out HM1.out HM2.out (Nat.zero_le _) ?_)
      intro v' w' hv hg
      obtain ⟨ao', n', cap', hu⟩ : ∃ ao n cap, v' = .slice ao n cap := by
        obtain ⟨n', cap', g', off', ao', hu, _⟩ := hv
        exact ⟨_, _, _, hu⟩
      subst hu
      rw [← zv_append, List.append_assoc, show List.replicate k (0 : Int) ++ [0] = List.replicate (k + 1) 0 by rw [List.replicate_succ']] at hv
      have hkg : Kept (ownL (.slice a1 (own ++ List.replicate k 0).length c1)) wq w' := by
        rw [HLX.out]
        exact (Kept.of_below _ HB1.out).trans (Kept.of_grown _ hg.grown (fun q hq => mem_ownL.2 hq)) (NewF.refl _ _)
      have hst := HSq.out.own1 hkg hv (by rw [List.length_append, List.length_replicate]; omega) (by
        rw [HLX.out]
        rcases hg.own with h1 | ⟨j, h1, h2⟩
        · exact .inl h1
        · exact .inr ⟨j, h1, Nat.le_trans HB1.out.size h2⟩)
      have hbk := HSq.out.blk.kept hkg HSq.out.nb1
      have c1' := hbk.cell 1
      have f1' := hbk.free 1
      have HST := Lib.hid hst
      clear hst hv hg hkg hbk k1 HWI HSRC HM1 HM2 HB1
      go_wp2_with fail
      obtain ⟨F3, hF3⟩ : ∃ F3, F3 = ownL (.slice ao' n' cap') ++ F' := ⟨_, rfl⟩
      rw [← hF3] at HST
      generalize w'.setCell ⟨b, 1, none⟩ (.slice ao' n' cap') = w3 at HST ⊢
      have HFIN := Lib.hid (show ∃ F', RWk w3 F' b m (own ++ List.replicate (k + 1) 0) K0 ∧ Kept F w w3 ∧ NewF w F F' from ⟨F3, HST.out.1, HKq.out.trans HST.out.2.1 HNW.out, HNW.out.trans HST.out.2.2 HKq.out.size⟩)
      have HLB := Lib.hid (show lenAt b w3 = own.length + (k + 1) by rw [HST.out.1.lenAt, List.length_append, List.length_replicate])
      clear hF3 c1' f1' HST
      go_roundw
      case rel => exact ⟨k + 1, by omega, HFIN⟩
      case measure => rw [HLB.out, HLA.out, HLX.out]; omega
    · have HEX := Lib.hid (show own.length + k = t.length by omega)
      have HPW := Lib.hid (show own ++ List.replicate k 0 = padW t own by rw [padW, show t.length - own.length = k by omega])
      have d1 : ¬ (((own.length + k : Nat) : Int) < (t.length : Int)) := by omega
      go_upto_region 1 with fail
      go_quiet (fail)
      have HSq := Lib.hid (HS.out.below (below_dN (Below.refl _ _) nq))
      have HKq := Lib.hid (HKP.out.drewN nq)
      have HTq := Lib.hid (HTr.out.below (below_dN (Below.refl _ _) nq))
      have t0' : (wr.drewN nq).cell? ⟨m, 0, none⟩ = some (.slice ta1 t.length tk1) := t0
      generalize wr.drewN nq = wq at HSq HKq HTq t0' ⊢
      clear k0 k1 t0 HS HKP HRW HTr
      have k0 := HSq.out.cell0
      have k2 := HSq.out.cell2
      have f2 := HSq.out.blk.free 2
      have hkn := HSq.out.know t.length
      rw [HPW.out] at hkn
      have HKN := Lib.hid hkn
      clear hkn
      go_upto_region 4 with fail
      generalize wq.setCell ⟨b, 2, none⟩ (.int .i64 (t.length : Int)) = w3 at HKN ⊢
      have HW3 := Lib.hid HKN.out.1
      have HK3 := Lib.hid (HKq.out.trans HKN.out.2 HNW.out)
      have HN3 := HNW
      have HT3 := Lib.hid (HT.out.keep HK3.out HA.out)
      have HL3 := Lib.hid (show Lies w3 w3.heap.size dao dg doff (dvs ds) from
        ⟨HL.out.addr, fun h0 => Nat.lt_of_lt_of_le (HL.out.lt h0) HK3.out.size, fun j u hj => by
          have h0 : 0 < (dvs ds).length := by have := (List.getElem?_eq_some_iff.1 hj).1; omega
          have h1 : 0 < ds.length := by
            rcases Nat.eq_zero_or_pos ds.length with h2 | h2
            · rw [List.eq_nil_of_length_eq_zero h2] at h0; simp [dvs] at h0
            · exact h2
          exact (World.cell?_of_block (a := ⟨dg, doff + j, none⟩) (HK3.out.block dg (HL.out.lt h0) (HDF.out h1))).trans (HL.out.cells j u hj)⟩)
      have HPO := Lib.hid (HO.out.pad t)
      have HPL := Lib.hid (padW_length HLE.out)
      obtain ⟨PW, hPW⟩ : ∃ PW, PW = padW t own := ⟨_, rfl⟩
      have HPE := Lib.hid hPW
      rw [← hPW] at HW3 HPO HPL
      clear hPW HKN HSq HKq HTq t0' k0 k2 f2 HPW
      obtain ⟨a1, c1, g1, o1, hs3⟩ := HW3.out.open
      have HS3 := Lib.hid hs3
      have k1 := hs3.cell1
      have ha := hs3.l1.addr (by rw [zv_length]; have := HPL.out; have := HTP.out; omega)
      subst ha
      have HWE := Lib.hid (wide_empty 1 w3 3 w3.heap.size (Nat.le_refl _))
      have HB4 := Lib.hid (show Below w3.heap.size w3 (w3.alloc (.cells #[] 3)) from (Below.refl _ w3).alloc (Nat.le_refl _) _)
      have HM1 := Lib.hid (show ([] : List Value).length + PW.length ≤ maxLen by unfold maxLen; have := HPL.out; simp; omega)
      have HM2 := Lib.hid (show (([] : List Value).length + PW.length) * 8 ≤ 140737488355328 by have := HPL.out; simp; omega)
      have HSR := Lib.hid ((hs3.l1.below HB4.out).src c1 42 3 Try.underlying42 (n := PW.length) (k := 1) (by rw [zv_length, Nat.mul_one]) (zv_one _) (by decide))
      have k1' := (hs3.below HB4.out).cell1
      clear hs3
      go_wp2_with (at_builtin; refine wpList_append_wide rfl _ _ 42 42 rfl rfl HWE.out (by decide) 3 i0 (.int .i64 0) 8 Try.underlying42 hi0 hz0 hz1 hz2 rfl _ rfl PW.length (zv PW) HSR.out HM1.out HM2.out HB4.out.size ?_)
      intro v4 w4 hv hg
      obtain ⟨ao1, n1, cap1, hu⟩ : ∃ ao n cap, v4 = .slice ao n cap := by
        obtain ⟨n', cap', g', off', ao', hu, _⟩ := hv
        exact ⟨_, _, _, hu⟩
      subst hu
      try rw [List.nil_append] at hv
      have HR := Lib.hid (show ChRel w3 t PW ds ao1 n1 cap1 0 PW w4 from ⟨rfl, HPO.out.allOk, by rw [List.drop_zero], hv, HB4.out.trans (hg.belowW HWE.out HB4.out.size)⟩)
      clear hv hg k1 k1' HWE HB4 HM1 HM2 HSR
      go_wp2_with fail
      go_loopw [54] (fun i wr => ∃ (k : Nat) (cur : List Int), k ≤ ds.length ∧ i = .int .i64 k ∧ Hid (ChRel w3 t PW ds ao1 n1 cap1 k cur wr)) (fun i _ => ds.length - (intOf i).toNat)
      case atStart => exact ⟨0, PW, Nat.zero_le _, rfl, HR⟩
      case round =>
        clear HR
        obtain ⟨k, cur, hk, rfl, HR⟩ := hrel
        by_cases hlt : k < ds.length
        · obtain ⟨d, hd⟩ : ∃ d, ds[k]? = some d := ⟨_, List.getElem?_eq_getElem hlt⟩
          have HDL := Lib.hid (HD.out d (List.mem_of_getElem? hd))
          have HLr := Lib.hid (HL3.out.keep HR.out.below)
          have hda := HLr.out.dl_addr HD.out hd
          subst hda
          have HLD := Lib.hid (HLr.out.dl HD.out hd)
          have HST := Lib.hid (show chgW t PW ds = _ from HR.out.eq.symm.trans (chgW_at hd))
          have HWR := Lib.hid (show wrap64 ((k : Int) + 1) = ((k + 1 : Nat) : Int) by unfold wrap64; omega)
          obtain ⟨X, hX⟩ : ∃ X, X = wr.heap.size := ⟨_, rfl⟩
          have HX0 := Lib.hid (show Blk (wr.alloc (.cells #[.int .u8 0, .int .u8 0, .int .u8 0, .int .u8 0, .int .u8 0, .int .u8 0, .int .u8 0, .int .u8 0, .int .u8 0, .int .u8 0, .int .u8 0, .int .u8 0, .int .u8 0, .int .u8 0, .int .u8 0, .int .u8 0, .int .u8 0, .int .u8 0, .int .u8 0, .int .u8 0, .int .u8 0, .int .u8 0, .int .u8 0, .int .u8 0, .int .u8 0, .int .u8 0, .int .u8 0, .int .u8 0, .int .u8 0, .int .u8 0, .int .u8 0, .int .u8 0, .int .i64 0] 74)) wr.heap.size 74 (dlv dl0) from Blk.new wr 74 (dlv dl0).toArray)
          have hbx : Below wr.heap.size wr ((wr.alloc (.cells #[.int .u8 0, .int .u8 0, .int .u8 0, .int .u8 0, .int .u8 0, .int .u8 0, .int .u8 0, .int .u8 0, .int .u8 0, .int .u8 0, .int .u8 0, .int .u8 0, .int .u8 0, .int .u8 0, .int .u8 0, .int .u8 0, .int .u8 0, .int .u8 0, .int .u8 0, .int .u8 0, .int .u8 0, .int .u8 0, .int .u8 0, .int .u8 0, .int .u8 0, .int .u8 0, .int .u8 0, .int .u8 0, .int .u8 0, .int .u8 0, .int .u8 0, .int .u8 0, .int .i64 0] 74)).setRow wr.heap.size (dlv d).toArray) := below_row ((Below.refl _ wr).alloc (Nat.le_refl _) _) (Nat.le_refl _) _
          have HX1 := Lib.hid (HX0.out.setRow (dlv d))
          have HWI := Lib.hid (HR.out.wide.below hbx)
          have HBE := Lib.hid (HR.out.below.trans (hbx.mono HR.out.below.size))
          have HCL := Lib.hid HR.out.len
          have HCO := Lib.hid HR.out.ok
          clear hbx HR
          go_upto_region 8 with (first
            | ((with_reducible refine wpList_load_dlR (.tmp 56) ?_ ?_ dg (doff + k * 33) d ?_ HDL.out HLD.out ?_); rfl; rfl; rfl)
            | ((with_reducible refine wpList_store_dlR (.tmp 7) (.tmp 57) ?_ ?_ wr.heap.size dl0 d ?_ ?_ HX0.out dl0_len HDL.out ?_); rfl; rfl; rfl; rfl))
          simp only [Act.put]
          rw [← hX] at HX1 HWI HBE ⊢
          generalize (wr.alloc (.cells #[.int .u8 0, .int .u8 0, .int .u8 0, .int .u8 0, .int .u8 0, .int .u8 0, .int .u8 0, .int .u8 0, .int .u8 0, .int .u8 0, .int .u8 0, .int .u8 0, .int .u8 0, .int .u8 0, .int .u8 0, .int .u8 0, .int .u8 0, .int .u8 0, .int .u8 0, .int .u8 0, .int .u8 0, .int .u8 0, .int .u8 0, .int .u8 0, .int .u8 0, .int .u8 0, .int .u8 0, .int .u8 0, .int .u8 0, .int .u8 0, .int .u8 0, .int .u8 0, .int .i64 0] 74)).setRow X (dlv d).toArray = w5 at HX1 HWI HBE ⊢
          clear hX HX0 HLD HLr
          have HT5 := Lib.hid (HT3.out.keep (Kept.of_below (w' := w5) [] HBE.out) (fun _ _ hx => by cases hx))
          obtain ⟨e1', e2', e3', e4', hs5⟩ := (HW3.out.below HBE.out).open
          have k0 := hs5.cell0
          have HQ := Lib.hid (show ∀ w', (∃ nq, w' = w5.drewN nq) → ∀ j v, (bv d.1)[j]? = some v → w'.cell? ⟨X, 0 + j, none⟩ = some v by
            rintro w' ⟨nq, rfl⟩
            exact (HX1.out.drewN nq).dlName)
          clear hs5
          refine wp_region_draws_tail 6 (by kernel_rfl) (by kernel_rfl) ?_
          simp only [List.take_succ_cons, List.take_zero, List.drop_succ_cons, List.drop_zero]
          repeat (first | ((with_reducible refine wpQuiet_load_name (.tmp 62) ?_ ?_ X 0 d.1 ?_ HDL.out HQ.out ?_); rfl; rfl; rfl; simp only [Act.put, List.setIfInBounds_toArray, List.set_cons_zero, List.set_cons_succ]) | go_big_quiet_step (fail))
          refine wpQuiet_nil ?_
          rintro _ ⟨nq, rfl⟩
          have HX6 := Lib.hid (HX1.out.drewN nq)
          have HWI6 := Lib.hid (HWI.out.below (below_dN (Below.refl _ _) nq))
          have HBE6 := Lib.hid (below_dN HBE.out nq)
          have HT6 := Lib.hid (HT5.out.below (below_dN (Below.refl _ _) nq))
          generalize w5.drewN nq = w6 at HX6 HWI6 HBE6 HT6 ⊢
          clear HX1 HWI HBE HT5 HQ k0
          go_wp2_with fail
          refine (refplace_any w6 G m t most d.1 HT6.out HDL.out).mono ?_
          rintro e w7 ⟨rfl, hb7⟩
          have HX7 := Lib.hid (HX6.out.below hb7 HX6.out.lt)
          have HWI7 := Lib.hid (HWI6.out.below hb7)
          have HBE7 := Lib.hid (HBE6.out.trans (hb7.mono HBE6.out.size))
          clear hb7 HX6 HWI6 HBE6 HT6
          rcases plc_cases t d.1 with ⟨j, nd, hnd, _, hpl, _⟩ | ⟨_, hpl⟩
          · rw [hpl]
            have hjl : j < t.length := (List.getElem?_eq_some_iff.1 hnd).1
            have HPJ := Lib.hid hpl
            have hjc : j < cur.length := by have := HCL.out; have := HPL.out; omega
            clear hnd hpl
            obtain ⟨y, hy⟩ : ∃ y, cur[j]? = some y := ⟨_, List.getElem?_eq_getElem hjc⟩
            have HOY := Lib.hid (show owZ cur j = y from owZ_at hy)
            have HYO := Lib.hid (HCO.out y (List.mem_of_getElem? hy))
            obtain ⟨gc, oc, hao, hnl, q1, q2, q3, q4⟩ := HWI7.out.setZ hy
            subst hao; subst hnl
            have kd := HX7.out.dlNum HDL.out
            have d1 : ¬ ((j : Int) < 0) := by omega
            have d3 : (0 : Int) ≤ (j : Int) := by omega
            have d4 : (j : Int) < (cur.length : Int) := by omega
            have HQ4 := Lib.hid q4
            have HQ3 := Lib.hid q3
            clear hy q3 q4
            by_cases hA : d.2 ≤ -4611686018427387904
            · have HRES := Lib.hid (show chgW t PW ds = (1, cur) by rw [HST.out, HPJ.out, if_neg (by omega), if_pos (.inl hA)])
              have hdA : decide (d.2 ≤ -4611686018427387904) = true := decide_eq_true hA
              clear q1 q2 HQ4 HQ3
              have HFIN := Lib.hid (show appW t own ds = (1, PW) by rw [appW_is, ← HPE.out, HRES.out]; exact endW_err _ _ (by decide))
              have HWF := Lib.hid (show RWk w7 F' b m PW PW.length by rw [HPL.out]; exact HW3.out.below HBE7.out)
              have HKF := Lib.hid (HK3.out.then HBE7.out)
              go_wp2_with fail
              go_ret
              exact ⟨by rw [HFIN.out]; rfl, F', by rw [HFIN.out]; exact HWF.out, HKF.out, HN3.out⟩
            have hA0 : decide (d.2 ≤ -4611686018427387904) = false := decide_eq_false hA
            by_cases hB : 4611686018427387904 ≤ d.2
            · have HRES := Lib.hid (show chgW t PW ds = (1, cur) by rw [HST.out, HPJ.out, if_neg (by omega), if_pos (.inr hB)])
              have hB0 : decide (4611686018427387904 ≤ d.2) = true := decide_eq_true hB
              clear q1 q2 HQ4 HQ3
              have HFIN := Lib.hid (show appW t own ds = (1, PW) by rw [appW_is, ← HPE.out, HRES.out]; exact endW_err _ _ (by decide))
              have HWF := Lib.hid (show RWk w7 F' b m PW PW.length by rw [HPL.out]; exact HW3.out.below HBE7.out)
              have HKF := Lib.hid (HK3.out.then HBE7.out)
              go_wp2_with fail
              go_ret
              exact ⟨by rw [HFIN.out]; rfl, F', by rw [HFIN.out]; exact HWF.out, HKF.out, HN3.out⟩
            have hB0 : decide (4611686018427387904 ≤ d.2) = false := decide_eq_false hB
            have hadd : wrap64 (y + d.2) = y + d.2 := by unfold wrap64; have := HYO.out.1; have := HYO.out.2; omega
            have HDR := Lib.hid (show ¬ (d.2 ≤ -4611686018427387904 ∨ 4611686018427387904 ≤ d.2) by omega)
            go_upto_region 13 with fail
            clear hA0 hB0
            refine wp_region_draws_tail 10 (by kernel_rfl) (by kernel_rfl) ?_
            simp only [List.take_succ_cons, List.take_zero, List.drop_succ_cons, List.drop_zero]
            repeat (go_big_quiet_step (fail))
            refine wpQuiet_nil ?_
            rintro _ ⟨nq, rfl⟩
            have q1' : (w7.drewN nq).cell? ⟨gc, oc + j, none⟩ = some (.int .i64 y) := q1
            have q2' : (w7.drewN nq).frozen? ⟨gc, oc + j, none⟩ = false := q2
            have HW8 := Lib.hid (show Wide 1 ((w7.drewN nq).setCell ⟨gc, oc + j, none⟩ (.int .i64 (y + d.2))) w3.heap.size (.slice (some ⟨gc, oc, none⟩) cur.length cap1) (zv (cur.set j (y + d.2))) from (HQ4.out (y + d.2)).below ⟨rfl, rfl, rfl, Nat.le_refl _, fun _ _ => rfl⟩)
            have HB8 := Lib.hid (show Below w3.heap.size w3 ((w7.drewN nq).setCell ⟨gc, oc + j, none⟩ (.int .i64 (y + d.2))) from (below_dN HBE7.out nq).setCell HQ3.out _)
            have hc8 : ((w7.drewN nq).setCell ⟨gc, oc + j, none⟩ (.int .i64 (y + d.2))).cell? ⟨gc, oc + j, none⟩ = some (.int .i64 (y + d.2)) := World.cell?_setCell_same _ _ _ q1'
            have HC8 := Lib.hid hc8
            clear q1 q2 kd HQ4 HX7 HWI7 hc8 HBE7
            go_upto_region 14 with fail
            generalize (w7.drewN nq).setCell ⟨gc, oc + j, none⟩ (.int .i64 (y + d.2)) = w8 at HW8 HB8 HC8 ⊢
            clear q1' q2'
            have hc8 := HC8.out
            obtain ⟨Y, hY⟩ : ∃ Y, Y = y + d.2 := ⟨_, rfl⟩
            have HYE := Lib.hid hY
            rw [← hY] at hc8 HW8
            clear hY HC8 hadd
            by_cases hC0 : Y < 0
            · have hC1 : decide (Y < 0) = true := decide_eq_true hC0
              have HRES := Lib.hid (show chgW t PW ds = (1, cur) by rw [HST.out, HPJ.out, if_neg (by omega), if_neg HDR.out, Int.toNat_natCast, HOY.out, ← HYE.out, if_neg (fun hh => by have := hh.1; omega)])
              have HFIN := Lib.hid (show appW t own ds = (1, PW) by rw [appW_is, ← HPE.out, HRES.out]; exact endW_err _ _ (by decide))
              have HWF := Lib.hid (show RWk w8 F' b m PW PW.length by rw [HPL.out]; exact HW3.out.below HB8.out)
              have HKF := Lib.hid (HK3.out.then HB8.out)
              go_wp2_with fail
              go_ret
              exact ⟨by rw [HFIN.out]; rfl, F', by rw [HFIN.out]; exact HWF.out, HKF.out, HN3.out⟩
            have hC1 : decide (Y < 0) = false := decide_eq_false hC0
            by_cases hC2 : 4611686018427387904 ≤ Y
            · have hC3 : decide (4611686018427387904 ≤ Y) = true := decide_eq_true hC2
              have HRES := Lib.hid (show chgW t PW ds = (1, cur) by rw [HST.out, HPJ.out, if_neg (by omega), if_neg HDR.out, Int.toNat_natCast, HOY.out, ← HYE.out, if_neg (fun hh => by have := hh.2; omega)])
              have HFIN := Lib.hid (show appW t own ds = (1, PW) by rw [appW_is, ← HPE.out, HRES.out]; exact endW_err _ _ (by decide))
              have HWF := Lib.hid (show RWk w8 F' b m PW PW.length by rw [HPL.out]; exact HW3.out.below HB8.out)
              have HKF := Lib.hid (HK3.out.then HB8.out)
              go_wp2_with fail
              go_ret
              exact ⟨by rw [HFIN.out]; rfl, F', by rw [HFIN.out]; exact HWF.out, HKF.out, HN3.out⟩
            have hC3 : decide (4611686018427387904 ≤ Y) = false := decide_eq_false hC2
            have HOKY := Lib.hid (show okZ Y from ⟨by omega, by omega⟩)
            have HRES := Lib.hid (show chgW t PW ds = chgW t (cur.set j Y) (ds.drop (k + 1)) by rw [HST.out, HPJ.out, if_neg (by omega), if_neg HDR.out, Int.toNat_natCast, HOY.out, ← HYE.out, if_pos HOKY.out])
            go_wp2_with fail
            go_roundw
            case rel => exact ⟨k + 1, cur.set j Y, by omega, by first | rw [HWR.out] | rw [Int.natCast_succ], Lib.hid ⟨by rw [List.length_set]; exact HCL.out, HCO.out.set j HOKY.out, HRES.out.symm, HW8.out, HB8.out⟩⟩
            case measure => exact measK ds.length k 1 _ (by first | exact HWR.out | rw [Int.natCast_succ]) hlt (by omega)
          · rw [hpl]
            have HRES := Lib.hid (show chgW t PW ds = (7, cur) by rw [HST.out, hpl, if_pos (by omega)])
            clear hpl
            have HFIN := Lib.hid (show appW t own ds = (7, PW) by rw [appW_is, ← HPE.out, HRES.out]; exact endW_err _ _ (by decide))
            have HWF := Lib.hid (show RWk w7 F' b m PW PW.length by rw [HPL.out]; exact HW3.out.below HBE7.out)
            have HKF := Lib.hid (HK3.out.then HBE7.out)
            go_wp2_with fail
            go_ret
            exact ⟨by rw [HFIN.out]; rfl, F', by rw [HFIN.out]; exact HWF.out, HKF.out, HN3.out⟩
        · obtain rfl : k = ds.length := by omega
          have HCH := Lib.hid (show chgW t PW ds = (0, cur) from HR.out.eq.symm.trans (by rw [List.drop_length]; rfl))
          obtain ⟨ao2, n2, cap2, gg, oo, e2, hn2, hl2⟩ := HR.out.wide.lies
          injection e2 with e21 e22 e23
          subst e21; subst e22; subst e23
          rw [zv_length, Nat.mul_one] at hn2
          obtain rfl : cur.length = n1 := hn2
          have HLL := Lib.hid hl2
          have HCL := Lib.hid (show cur.length = t.length by have := HR.out.len; have := HPL.out; omega)
          have HCM := Lib.hid (show cur.length ≤ 1000 by have := HR.out.len; have := HPL.out; omega)
          have HAC := Lib.hid HR.out.ok
          have HBF := Lib.hid HR.out.below
          have HWF := Lib.hid HR.out.wide
          clear hl2 HR
          go_wp2_with fail
          go_loopw [9, 100] (fun s i wz => ∃ q : Nat, q ≤ cur.length ∧ i = .int .i64 q ∧ s = .int .u64 (totW (cur.take q)) ∧ Hid (totW (cur.take q) < 4611686018427387904) ∧ wz = wr) (fun _ i _ => cur.length - (intOf i).toNat)
          case atStart => exact ⟨0, Nat.zero_le _, rfl, rfl, Lib.hid (by rw [List.take_zero, totW_nil]; decide), rfl⟩
          case round =>
            obtain ⟨q, hq, rfl, rfl, HS, hwz⟩ := hrel
            subst hwz
            by_cases hlt2 : q < cur.length
            · obtain ⟨x, hx⟩ : ∃ x, cur[q]? = some x := ⟨_, List.getElem?_eq_getElem hlt2⟩
              obtain ⟨ha, e1⟩ := lies_z HLL.out hx
              subst ha
              have hok := HAC.out x (List.mem_of_getElem? hx)
              have hnn := (HAC.out.take q).tot_nonneg
              have hs := HS.out
              have HTT := Lib.hid (totW_take hx)
              have HM := Lib.hid (HAC.out.tot_take (cur.length) (q + 1) (by omega))
              obtain ⟨s, hse⟩ : ∃ s, s = totW (cur.take q) := ⟨_, rfl⟩
              rw [← hse] at HTT hs hnn ⊢
              have hcv : IntKind.u64.wrap x = x := by rw [IntKind.wrap_u64]; have := hok.1; have := hok.2; omega
              have hadd : IntKind.u64.wrap (s + x) = s + x := by rw [IntKind.wrap_u64]; have := hok.1; have := hok.2; omega
              have HWR := Lib.hid (show wrap64 ((q : Int) + 1) = ((q + 1 : Nat) : Int) by have := HCM.out; unfold wrap64; omega)
              clear hok hnn hs hse hx
              by_cases h2 : 4611686018427387904 ≤ s + x
              · have h3 : decide (4611686018427387904 ≤ s + x) = true := decide_eq_true h2
                have HRES := Lib.hid (show endW PW (chgW t PW ds) = (1, PW) by rw [HCH.out, endW, if_pos rfl, if_neg (show ¬ totW cur < 4611686018427387904 by have := HM.out; rw [HTT.out] at this; omega)])
                have HFIN := Lib.hid (show appW t own ds = (1, PW) by rw [appW_is, ← HPE.out, HRES.out])
                have HWG := Lib.hid (show RWk wr F' b m PW PW.length by rw [HPL.out]; exact HW3.out.below HBF.out)
                have HKF := Lib.hid (HK3.out.then HBF.out)
                go_wp2_with fail
                go_ret
                exact ⟨by rw [HFIN.out]; rfl, F', by rw [HFIN.out]; exact HWG.out, HKF.out, HN3.out⟩
              · have h3 : decide (4611686018427387904 ≤ s + x) = false := decide_eq_false h2
                go_wp2_with fail
                go_roundw
                case rel => exact ⟨q + 1, by omega, by first | (rw [HWR.out]) | rw [Int.natCast_succ], by rw [HTT.out], Lib.hid (by rw [HTT.out]; omega), by first | rfl | trivial⟩
                case measure => exact measK cur.length q 1 _ (by first | exact HWR.out | rw [Int.natCast_succ]) hlt2 (by omega)
            · obtain rfl : q = cur.length := by omega
              have hs := HS.out
              rw [List.take_length] at hs
              have HFIN := Lib.hid (show appW t own ds = (0, cur) by rw [appW_is, ← HPE.out, HCH.out, endW, if_pos rfl, if_pos hs])
              have hst := HS3.out.own2 HBF.out HWF.out (by have := HCL.out; have := HTP.out; omega)
              have c1' := (HS3.out.below HBF.out).cell1
              have f1' := (HS3.out.below HBF.out).blk.free 1
              have HST := Lib.hid hst
              have hst1 := hst.1
              rw [← HCL.out] at hst1
              have HST1 := Lib.hid hst1
              clear hst hst1 hs
              go_wp2_with fail
              go_ret
              exact ⟨by rw [HFIN.out]; rfl, _, by rw [HFIN.out]; exact HST1.out, HK3.out.trans HST.out.2.1 HN3.out, HN3.out.trans HST.out.2.2 HK3.out.size⟩
end Go.Proofs.Ytjodhagjfjgbcaa

/-
  What weights are asked: told, Own, Weight, Best, Head.
-/
namespace Go.Proofs.Ytjodhagjfjgbcaa
open Go Go.RowKit
set_option maxRecDepth 10000

theorem callOwn (args : Array Value) (W : World) : (callFunc 44 args).run Try.prog W = .ok (.enter 44 args) W := by go_simp
theorem callWeight (args : Array Value) (W : World) : (callFunc 48 args).run Try.prog W = .ok (.enter 48 args) W := by go_simp
theorem callBest (args : Array Value) (W : World) : (callFunc 47 args).run Try.prog W = .ok (.enter 47 args) W := by go_simp
/-- A number of a block's place; none, if it isn't known. -/
def tellZ (t : List Nd) (N : Nat) (r : List UInt8) (dn : Int) (z : Nat → Int) : Int := if 0 ≤ plc t r ∧ plc t r < (N : Int) then z (plc t r).toNat else dn

set_option maxHeartbeats 4000000 in
theorem told_any (w : World) (G : List Nat) (tb : Nat) (t : List Nd) (most : Int) (F : List Nat) (b : Nat) (own s0 b0 : List Int) (r : List UInt8) (dn : Int) (fn P : Nat) (z : Nat → Int) (hcf : ∀ (args : Array Value) (W : World), (callFunc fn args).run Try.prog W = .ok (.enter fn args) W) (hT : Tre w G tb t most) (h : Wgt w F b tb own s0 b0) (hr : r.length = 32)
    (hf : ∀ (j : Nat) W, j < own.length → Below w.heap.size w W → Calls Try.prog fn #[.int .i64 (j : Int), .pointer (some ⟨P, 0, none⟩)] W fun e w' => e = .returned (.int .i64 (z j)) ∧ w' = W) :
    Calls Try.prog 43 #[.pointer (some ⟨b, 0, none⟩), .agg (bv r).toArray, .int .i64 dn, .func (.func fn) #[] #[.pointer (some ⟨P, 0, none⟩)]] w fun e w' => e = .returned (.int .i64 (tellZ t own.length r dn z)) ∧ Below w.heap.size w w' := by
  have hb1 : Below w.heap.size w (w.alloc (.cells (bv r).toArray 24)) := (Below.refl _ w).alloc (Nat.le_refl _) _
  have HX := Lib.hid (Blk.new w 24 (bv r).toArray)
  obtain ⟨X, hX⟩ : ∃ X, X = w.heap.size := ⟨_, rfl⟩
  rw [← hX] at HX
  have HT := Lib.hid (hT.below hb1)
  have HW := Lib.hid (h.below hb1)
  have HB := Lib.hid hb1
  have HF := Lib.hid hf
  clear hT h hf hb1
  go_enter Try.func43, Try.ntmps43
  go_upto_region 3 with fail
  rw [← hX]
  generalize w.alloc (.cells (bv r).toArray 24) = w2 at HT HW HB HX ⊢
  clear hX
  obtain ⟨e1', e2', e3', e4', e5', e6', e7', e8', e9', f1', f2', f3', hs2⟩ := HW.out.open
  have k0 := hs2.cell0
  have HQ := Lib.hid (show ∀ w', (∃ nq, w' = w2.drewN nq) → ∀ j v, (bv r)[j]? = some v → w'.cell? ⟨X, 0 + j, none⟩ = some v by
    rintro w' ⟨nq, rfl⟩
    exact (HX.out.drewN nq).rootAll)
  clear hs2
  refine wp_region_draws_tail 5 (by kernel_rfl) (by kernel_rfl) ?_
  simp only [List.take_succ_cons, List.take_zero, List.drop_succ_cons, List.drop_zero]
  repeat (first | ((with_reducible refine wpQuiet_load_name (.tmp 5) ?_ ?_ X 0 r ?_ hr HQ.out ?_); rfl; rfl; rfl; simp only [Act.put, List.setIfInBounds_toArray, List.set_cons_zero, List.set_cons_succ]) | go_big_quiet_step (fail))
  refine wpQuiet_nil ?_
  rintro _ ⟨nq, rfl⟩
  have HT3 := Lib.hid (HT.out.below (below_dN (Below.refl _ _) nq))
  have HW3 := Lib.hid (HW.out.below (below_dN (Below.refl _ _) nq))
  have HB3 := Lib.hid (below_dN HB.out nq)
  generalize w2.drewN nq = w3 at HT3 HW3 HB3 ⊢
  clear HT HW HB HX HQ k0
  go_wp2_with fail
  refine (place_any w3 G tb t most r HT3.out hr).mono ?_
  rintro e w4 ⟨rfl, hb4⟩
  have HB4 := Lib.hid (HB3.out.trans (hb4.mono HB3.out.size))
  obtain ⟨e1', e2', e3', e4', e5', e6', e7', e8', e9', f1', f2', f3', hs4⟩ := (HW3.out.below hb4).open
  have k1 := hs4.cell1
  clear hb4 HT3 HW3 HB3 hs4
  rcases plc_cases t r with ⟨j, nd, hnd, _, hpl, _⟩ | ⟨_, hpl⟩
  · rw [hpl]
    have HPL := Lib.hid hpl
    have d1 : ¬ ((j : Int) = -1) := by omega
    have d2 : ((j : Int) == -1) = false := by simp [d1]
    clear hnd hpl
    by_cases hj : j < own.length
    · have d3 : (j : Int) < (own.length : Int) := by omega
      have d4 : ¬ ((own.length : Int) ≤ (j : Int)) := by omega
      have d5 : decide ((own.length : Int) ≤ (j : Int)) = false := decide_eq_false d4
      have HR := Lib.hid (show tellZ t own.length r dn z = z j by unfold tellZ; rw [HPL.out, if_pos (by omega), Int.toNat_natCast])
      go_wp2_with fail
      refine (HF.out j w4 hj HB4.out).mono ?_
      rintro e w5 ⟨rfl, hw5⟩
      have hw5 := hw5.symm
      subst hw5
      go_wp2_with fail
      go_ret
      exact ⟨by rw [HR.out]; rfl, HB4.out⟩
    · have d4 : (own.length : Int) ≤ (j : Int) := by omega
      have d5 : decide ((own.length : Int) ≤ (j : Int)) = true := decide_eq_true d4
      have HR := Lib.hid (show tellZ t own.length r dn z = dn by unfold tellZ; rw [HPL.out, if_neg (by omega)])
      go_wp2_with fail
      go_ret
      exact ⟨by rw [HR.out]; rfl, HB4.out⟩
  · rw [hpl]
    have HR := Lib.hid (show tellZ t own.length r dn z = dn by unfold tellZ; rw [hpl, if_neg (by omega)])
    clear hpl
    go_wp2_with fail
    go_ret
    exact ⟨by rw [HR.out]; rfl, HB4.out⟩
theorem told_nil (w : World) (r : List UInt8) (dn : Int) (f : Value) :
    Calls Try.prog 43 #[.pointer none, .agg (bv r).toArray, .int .i64 dn, f] w fun e w' => e = .returned (.int .i64 dn) ∧ Below w.heap.size w w' := by
  have HB := Lib.hid (show Below w.heap.size w (w.alloc (.cells (bv r).toArray 24)) from (Below.refl _ w).alloc (Nat.le_refl _) _)
  go_enter Try.func43, Try.ntmps43
  go_wp2_with fail
  go_ret
  exact ⟨rfl, HB.out⟩
theorem own_fn (W : World) (F : List Nat) (b tb P j : Nat) (t : List Nd) (own : List Int) (h : Wgt W F b tb own (wtsL t own) (bssL t own)) (hP : W.cell? ⟨P, 0, none⟩ = some (.pointer (some ⟨b, 0, none⟩))) (hj : j < own.length) :
    Calls Try.prog 44 #[.int .i64 (j : Int), .pointer (some ⟨P, 0, none⟩)] W fun e w' => e = .returned (.int .i64 (owZ own j)) ∧ w' = W := by
  obtain ⟨a1, a2, a3, c1, c2, c3, g1, g2, g3, o1, o2, o3, hs⟩ := h.open
  obtain ⟨ha, e1⟩ := lies_z hs.l1 (show own[j]? = some (owZ own j) by rw [List.getElem?_eq_getElem hj, owZ_at (List.getElem?_eq_getElem hj)])
  subst ha
  have k := hs.cell1
  have d1 : (0 : Int) ≤ (j : Int) := by omega
  have d2 : (j : Int) < (own.length : Int) := by omega
  have d3 : j < own.length := by omega
  clear h hs
  go_enter Try.func44, Try.ntmps44
  go_wp2_with fail
  go_ret
  exact ⟨rfl, rfl⟩

theorem wt_fn (W : World) (F : List Nat) (b tb P j : Nat) (t : List Nd) (own : List Int) (h : Wgt W F b tb own (wtsL t own) (bssL t own)) (hP : W.cell? ⟨P, 0, none⟩ = some (.pointer (some ⟨b, 0, none⟩))) (hj : j < own.length) :
    Calls Try.prog 48 #[.int .i64 (j : Int), .pointer (some ⟨P, 0, none⟩)] W fun e w' => e = .returned (.int .i64 (wtW t own j)) ∧ w' = W := by
  obtain ⟨a1, a2, a3, c1, c2, c3, g1, g2, g3, o1, o2, o3, hs⟩ := h.open
  obtain ⟨ha, e1⟩ := lies_z hs.l2 (wtsL_at hj)
  subst ha
  have k := hs.cell2
  have d1 : (0 : Int) ≤ (j : Int) := by omega
  have d2 : (j : Int) < ((wtsL t own).length : Int) := by rw [wtsL_length]; omega
  have d3 : j < (wtsL t own).length := by rw [wtsL_length]; omega
  clear h hs
  go_enter Try.func48, Try.ntmps48
  go_wp2_with fail
  go_ret
  exact ⟨rfl, rfl⟩

theorem bs_fn (W : World) (F : List Nat) (b tb P j : Nat) (t : List Nd) (own : List Int) (h : Wgt W F b tb own (wtsL t own) (bssL t own)) (hP : W.cell? ⟨P, 0, none⟩ = some (.pointer (some ⟨b, 0, none⟩))) (hj : j < own.length) :
    Calls Try.prog 47 #[.int .i64 (j : Int), .pointer (some ⟨P, 0, none⟩)] W fun e w' => e = .returned (.int .i64 (bsW t own j)) ∧ w' = W := by
  obtain ⟨a1, a2, a3, c1, c2, c3, g1, g2, g3, o1, o2, o3, hs⟩ := h.open
  obtain ⟨ha, e1⟩ := lies_z hs.l3 (bssL_at hj)
  subst ha
  have k := hs.cell3
  have d1 : (0 : Int) ≤ (j : Int) := by omega
  have d2 : (j : Int) < ((bssL t own).length : Int) := by rw [bssL_length]; omega
  have d3 : j < (bssL t own).length := by rw [bssL_length]; omega
  clear h hs
  go_enter Try.func47, Try.ntmps47
  go_wp2_with fail
  go_ret
  exact ⟨rfl, rfl⟩

set_option maxHeartbeats 4000000 in
theorem own_any (w : World) (G : List Nat) (tb : Nat) (t : List Nd) (most : Int) (F : List Nat) (b : Nat) (own : List Int) (r : List UInt8) (hT : Tre w G tb t most) (h : WgtG w F b tb t own) (hr : r.length = 32) :
    Calls Try.prog 21 #[.pointer (some ⟨b, 0, none⟩), .agg (bv r).toArray] w fun e w' => e = .returned (.int .i64 (tellZ t own.length r 0 (owZ own))) ∧ Below w.heap.size w w' := by
  have hb1 : Below w.heap.size w ((w.alloc (.cells #[.pointer (some ⟨b, 0, none⟩)] 27)).alloc (.cells (bv r).toArray 24)) := ((Below.refl _ w).alloc (Nat.le_refl _) _).alloc (by simp) _
  have HP := Lib.hid ((Blk.new w 27 #[.pointer (some ⟨b, 0, none⟩)]).alloc (.cells (bv r).toArray 24))
  have hx := Blk.new (w.alloc (.cells #[.pointer (some ⟨b, 0, none⟩)] 27)) 24 (bv r).toArray
  rw [World.size_alloc] at hx
  have HX := Lib.hid hx
  have HT := Lib.hid (hT.below hb1)
  have HW := Lib.hid (h.2.2.2.below hb1)
  have HB := Lib.hid hb1
  clear hT h hx hb1
  go_enter Try.func21, Try.ntmps21
  go_upto_region 1 with fail
  try simp only [World.size_alloc]
  generalize (w.alloc (.cells #[.pointer (some ⟨b, 0, none⟩)] 27)).alloc (.cells (bv r).toArray 24) = w1 at HP HX HT HW HB ⊢
  generalize w.heap.size + 1 = X at HX ⊢
  obtain ⟨P, hP⟩ : ∃ P, P = w.heap.size := ⟨_, rfl⟩
  have HPE := Lib.hid hP
  rw [← hP] at HP ⊢
  clear hP
  have HXA := Lib.hid HX.out.rootAll
  have kp := HP.out.cell 0
  simp only [List.getElem?_cons_zero] at kp
  have HF := Lib.hid (show ∀ (j : Nat) W, j < own.length → Below w1.heap.size w1 W → Calls Try.prog 44 #[.int .i64 (j : Int), .pointer (some ⟨P, 0, none⟩)] W fun e w' => e = .returned (.int .i64 (owZ own j)) ∧ w' = W from fun j W hj hb => own_fn W F b tb P j t own (HW.out.below hb) ((HP.out.below hb HP.out.lt).cell 0) hj)
  go_wp2_with ((with_reducible refine wpList_load_name (.tmp 3) ?_ ?_ X 0 r ?_ hr HXA.out ?_); rfl; rfl; rfl)
  refine (told_any w1 G tb t most F b own (wtsL t own) (bssL t own) r 0 _ P (owZ own) callOwn HT.out HW.out hr HF.out).mono ?_
  rintro e w2 ⟨rfl, hb2⟩
  have HB2 := Lib.hid (HB.out.trans (hb2.mono HB.out.size))
  clear hb2
  go_wp2_with fail
  go_ret
  exact ⟨rfl, HB2.out⟩
theorem own_nil (w : World) (r : List UInt8) (hr : r.length = 32) : Calls Try.prog 21 #[.pointer none, .agg (bv r).toArray] w fun e w' => e = .returned (.int .i64 0) ∧ Below w.heap.size w w' := by
  have HB := Lib.hid (show Below w.heap.size w ((w.alloc (.cells #[.pointer none] 27)).alloc (.cells (bv r).toArray 24)) from ((Below.refl _ w).alloc (Nat.le_refl _) _).alloc (by simp) _)
  have HP := Lib.hid ((Blk.new w 27 #[.pointer none]).alloc (.cells (bv r).toArray 24))
  have hx := Blk.new (w.alloc (.cells #[.pointer none] 27)) 24 (bv r).toArray
  rw [World.size_alloc] at hx
  have HX := Lib.hid hx
  clear hx
  go_enter Try.func21, Try.ntmps21
  go_upto_region 1 with fail
  try simp only [World.size_alloc]
  generalize (w.alloc (.cells #[.pointer none] 27)).alloc (.cells (bv r).toArray 24) = w1 at HP HX HB ⊢
  generalize w.heap.size + 1 = X at HX ⊢
  have HXA := Lib.hid HX.out.rootAll
  have kp := HP.out.cell 0
  simp only [List.getElem?_cons_zero] at kp
  go_wp2_with ((with_reducible refine wpList_load_name (.tmp 3) ?_ ?_ X 0 r ?_ hr HXA.out ?_); rfl; rfl; rfl)
  refine (told_nil w1 r 0 _).mono ?_
  rintro e w2 ⟨rfl, hb2⟩
  have HB2 := Lib.hid (HB.out.trans (hb2.mono HB.out.size))
  clear hb2
  go_wp2_with fail
  go_ret
  exact ⟨rfl, HB2.out⟩

set_option maxHeartbeats 4000000 in
theorem wt_any (w : World) (G : List Nat) (tb : Nat) (t : List Nd) (most : Int) (F : List Nat) (b : Nat) (own : List Int) (r : List UInt8) (hT : Tre w G tb t most) (h : WgtG w F b tb t own) (hr : r.length = 32) :
    Calls Try.prog 26 #[.pointer (some ⟨b, 0, none⟩), .agg (bv r).toArray] w fun e w' => e = .returned (.int .i64 (tellZ t own.length r 0 (wtW t own))) ∧ Below w.heap.size w w' := by
  have hb1 : Below w.heap.size w ((w.alloc (.cells #[.pointer (some ⟨b, 0, none⟩)] 27)).alloc (.cells (bv r).toArray 24)) := ((Below.refl _ w).alloc (Nat.le_refl _) _).alloc (by simp) _
  have HP := Lib.hid ((Blk.new w 27 #[.pointer (some ⟨b, 0, none⟩)]).alloc (.cells (bv r).toArray 24))
  have hx := Blk.new (w.alloc (.cells #[.pointer (some ⟨b, 0, none⟩)] 27)) 24 (bv r).toArray
  rw [World.size_alloc] at hx
  have HX := Lib.hid hx
  have HT := Lib.hid (hT.below hb1)
  have HW := Lib.hid (h.2.2.2.below hb1)
  have HB := Lib.hid hb1
  clear hT h hx hb1
  go_enter Try.func26, Try.ntmps26
  go_upto_region 1 with fail
  try simp only [World.size_alloc]
  generalize (w.alloc (.cells #[.pointer (some ⟨b, 0, none⟩)] 27)).alloc (.cells (bv r).toArray 24) = w1 at HP HX HT HW HB ⊢
  generalize w.heap.size + 1 = X at HX ⊢
  obtain ⟨P, hP⟩ : ∃ P, P = w.heap.size := ⟨_, rfl⟩
  have HPE := Lib.hid hP
  rw [← hP] at HP ⊢
  clear hP
  have HXA := Lib.hid HX.out.rootAll
  have kp := HP.out.cell 0
  simp only [List.getElem?_cons_zero] at kp
  have HF := Lib.hid (show ∀ (j : Nat) W, j < own.length → Below w1.heap.size w1 W → Calls Try.prog 48 #[.int .i64 (j : Int), .pointer (some ⟨P, 0, none⟩)] W fun e w' => e = .returned (.int .i64 (wtW t own j)) ∧ w' = W from fun j W hj hb => wt_fn W F b tb P j t own (HW.out.below hb) ((HP.out.below hb HP.out.lt).cell 0) hj)
  go_wp2_with ((with_reducible refine wpList_load_name (.tmp 3) ?_ ?_ X 0 r ?_ hr HXA.out ?_); rfl; rfl; rfl)
  refine (told_any w1 G tb t most F b own (wtsL t own) (bssL t own) r 0 _ P (wtW t own) callWeight HT.out HW.out hr HF.out).mono ?_
  rintro e w2 ⟨rfl, hb2⟩
  have HB2 := Lib.hid (HB.out.trans (hb2.mono HB.out.size))
  clear hb2
  go_wp2_with fail
  go_ret
  exact ⟨rfl, HB2.out⟩
theorem wt_nil (w : World) (r : List UInt8) (hr : r.length = 32) : Calls Try.prog 26 #[.pointer none, .agg (bv r).toArray] w fun e w' => e = .returned (.int .i64 0) ∧ Below w.heap.size w w' := by
  have HB := Lib.hid (show Below w.heap.size w ((w.alloc (.cells #[.pointer none] 27)).alloc (.cells (bv r).toArray 24)) from ((Below.refl _ w).alloc (Nat.le_refl _) _).alloc (by simp) _)
  have HP := Lib.hid ((Blk.new w 27 #[.pointer none]).alloc (.cells (bv r).toArray 24))
  have hx := Blk.new (w.alloc (.cells #[.pointer none] 27)) 24 (bv r).toArray
  rw [World.size_alloc] at hx
  have HX := Lib.hid hx
  clear hx
  go_enter Try.func26, Try.ntmps26
  go_upto_region 1 with fail
  try simp only [World.size_alloc]
  generalize (w.alloc (.cells #[.pointer none] 27)).alloc (.cells (bv r).toArray 24) = w1 at HP HX HB ⊢
  generalize w.heap.size + 1 = X at HX ⊢
  have HXA := Lib.hid HX.out.rootAll
  have kp := HP.out.cell 0
  simp only [List.getElem?_cons_zero] at kp
  go_wp2_with ((with_reducible refine wpList_load_name (.tmp 3) ?_ ?_ X 0 r ?_ hr HXA.out ?_); rfl; rfl; rfl)
  refine (told_nil w1 r 0 _).mono ?_
  rintro e w2 ⟨rfl, hb2⟩
  have HB2 := Lib.hid (HB.out.trans (hb2.mono HB.out.size))
  clear hb2
  go_wp2_with fail
  go_ret
  exact ⟨rfl, HB2.out⟩
end Go.Proofs.Ytjodhagjfjgbcaa
