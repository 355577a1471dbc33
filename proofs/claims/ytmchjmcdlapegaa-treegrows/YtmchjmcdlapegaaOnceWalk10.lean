/-
  The walk of TreeOnce.
-/
import Derived.Test.YtmchjmcdlapegaaMade10
import Derived.Lib.BytesEntry
namespace Go.Proofs.Ytmchjmcdlapegaa
open Go Go.RowKit
set_option maxRecDepth 10000

theorem addAll_prefix (most : Int) : ∀ (l : List Ad) (t : List Nd), t <+: addAll most t l
  | [], _ => List.prefix_refl _
  | _ :: l, t => (addT_prefix most t _ _ _).trans (addAll_prefix most l _)
theorem addAll_append (most : Int) (t : List Nd) (l k : List Ad) : addAll most t (l ++ k) = addAll most (addAll most t l) k := by simp [addAll]
theorem madeT_take (l : List Ad) (k : Nat) : madeT (l.take k) <+: madeT l := by
  have h := addAll_prefix 256 (l.drop k) (madeT (l.take k))
  rwa [madeT, ← addAll_append, List.take_append_drop] at h
theorem av_take : ∀ (l : List Ad) (k : Nat), av (l.take k) = (av l).take (k * 3)
  | [], k => by simp [av]
  | a :: l, 0 => by simp [av]
  | a :: l, k + 1 => by
    have h := av_take l k
    rw [List.take_succ_cons, show av (a :: l.take k) = adv a ++ av (l.take k) from rfl, h, show av (a :: l) = adv a ++ av l from rfl, show (k + 1) * 3 = (adv a).length + k * 3 by simp [adv]; omega, List.take_append, List.take_of_length_le (Nat.le_add_right _ _), Nat.add_sub_cancel_left]
theorem nodeOr_some {t : List Nd} {i : Nat} {n : Nd} (h : t[i]? = some n) : nodeOr t (i : Int) = n ∧ (nodeAt t (i : Int)).isSome = true := by
  unfold nodeOr
  rw [nodeAt_nat, h]
  exact ⟨rfl, rfl⟩
theorem nd_same (n : Nd) : (n == n) = true := beq_self_eq_true n
theorem prefix_at {t u : List Nd} (h : t <+: u) {i : Nat} {n : Nd} (hi : t[i]? = some n) : u[i]? = some n := by
  obtain ⟨v, rfl⟩ := h
  rw [List.getElem?_append_left (List.getElem?_eq_some_iff.1 hi).1, hi]

attribute [local go_sem high] node_eq
set_option maxRecDepth 100000 in
set_option maxHeartbeats 8000000 in
theorem once_any (w : World) (ao : Option Addr) (len cap g off : Nat) (l : List Ad) (c : Int) (hl : l.length = len) (hlc : len ≤ cap) (h : Lies w w.heap.size ao g off (av l)) :
    Calls Try.prog 7 #[.slice ao len cap, .int .i64 c] w fun e w' => e = .returned (.bool true) ∧ Below w.heap.size w w' := by
  have HL0 := Lib.hid h
  have HN := Lib.hid hl
  have HLC := Lib.hid hlc
  clear h hl hlc
  go_enter Try.func7, Try.ntmps7
  go_wp2_with fail
  refine (alive_any w).mono ?_
  rintro e w1 ⟨rfl, hbc⟩
  have HB := Lib.hid hbc
  have HL := Lib.hid (HL0.out.below hbc)
  clear hbc HL0
  by_cases h1 : (100 : Int) < (len : Int)
  · go_wp2_with fail
    go_ret
    exact ⟨rfl, HB.out⟩
  by_cases h2 : c < 0
  · go_wp2_with fail
    go_ret
    exact ⟨rfl, HB.out⟩
  by_cases h3 : (len : Int) < c
  · go_wp2_with fail
    go_ret
    exact ⟨rfl, HB.out⟩
  obtain ⟨k, hk⟩ : ∃ k : Nat, c = (k : Int) := ⟨c.toNat, by omega⟩
  subst hk
  have HK := Lib.hid (show k ≤ len ∧ len ≤ 100 by omega)
  obtain ⟨ao2, e2⟩ : ∃ x, x = (if cap = 0 then ao else ao.map (·.add (0 * 3))) := ⟨_, rfl⟩
  have hsl2 : ∀ w', (Instr.sliceAt 24 (.slice ao len cap) none (some (.int .i64 (k : Int))) none).run Try.prog w' = .ok (.slice ao2 k cap) w' := fun w' => by
    have := HLC.out
    rw [run_sliceAt_slice _ _ _ _ _ _ (by kernel_rfl), run_slice_h _ _ _ _ _ (by kernel_rfl) .i64 (k : Int) (by omega) (by omega)]
    rw [show Try.prog.elem 24 = 42 by kernel_rfl, show (sizeOf 42).run Try.prog w' = .ok 3 w' by kernel_rfl]
    simp only [Result.andThen, sliced, Int.toNat_natCast]
    rw [e2]
    rfl
  have HL2 := Lib.hid (show Lies w1 w1.heap.size ao2 g off (av (l.take k)) by
    have := HLC.out
    have hlv : (av l).length = len * 3 := by rw [av_length, HN.out]
    rw [av_take]
    have h := HL.out.take (k * 3)
    refine ⟨fun h0 => ?_, h.lt, h.cells⟩
    rw [List.length_take, hlv] at h0
    rw [e2, if_neg (by omega), h.addr (by rw [List.length_take, hlv]; omega)]
    simp [Addr.add])
  have HN2 := Lib.hid (show (l.take k).length = k by rw [List.length_take, HN.out, Nat.min_eq_left HK.out.1])
  have HPF0 := Lib.hid (madeT_take l k)
  clear e2
  go_wp2_with fail
  refine (made_any w1 ao2 k cap g off (l.take k) HN2.out (by have := HK.out; omega) HL2.out).mono ?_
  rintro e w2 ⟨F1, G1, b1, m1, rfl, ht, _, _, _, _, hbc⟩
  have HT1 := Lib.hid ht
  have HL3 := Lib.hid (HL.out.below hbc)
  replace HB := Lib.hid (HB.out.trans (hbc.mono HB.out.size))
  clear ht hbc hsl2 HL2 HL
  go_wp2_with fail
  refine (made_any w2 ao len cap g off l HN.out (by have := HK.out; omega) HL3.out).mono ?_
  rintro e w3 ⟨F2, G2, b2, m2, rfl, ht, _, _, _, _, hbc⟩
  have HT2 := Lib.hid ht
  replace HT1 := Lib.hid (HT1.out.below hbc)
  replace HB := Lib.hid (HB.out.trans (hbc.mono HB.out.size))
  clear ht hbc HL3
  generalize madeT (l.take k) = t1 at HT1 HPF0
  generalize madeT l = t2 at HT2 HPF0
  have HPF := HPF0
  have hnl : ¬ ((t2.length : Int) < (t1.length : Int)) := by have := HPF.out.length_le; omega
  have hnl2 : ¬ (t2.length < t1.length) := by omega
  have hnl3 : decide (t2.length < t1.length) = false := by simp only [hnl2, decide_false]
  clear HPF0
  go_wp2_with fail
  refine (len_any w3 F1 b1 t1 256 HT1.out).mono ?_
  rintro e w4 ⟨rfl, hw⟩
  have hw := hw.symm
  subst hw
  go_wp2_with fail
  refine (len_any w3 F2 b2 t2 256 HT2.out).mono ?_
  rintro e w4 ⟨rfl, hw⟩
  have hw := hw.symm
  subst hw
  go_wp2_with fail
  go_loopw [9] (fun i wr => ∃ (j : Nat), j ≤ t1.length ∧ i = .int .i64 j ∧ Hid (Tre wr F1 b1 t1 256) ∧ Hid (Tre wr F2 b2 t2 256) ∧ Hid (Below w.heap.size w wr)) (fun i _ => t1.length - (intOf i).toNat)
  case atStart => exact ⟨0, Nat.zero_le _, rfl, HT1, HT2, HB⟩
  case round =>
    clear HT1 HT2 HB
    obtain ⟨j, hj, rfl, HT1, HT2, HB⟩ := hrel
    have HM256 := Lib.hid (show t1.length ≤ 256 by have := HT1.out.1.room; have := HT1.out.1.most256; omega)
    by_cases hlt : j < t1.length
    · obtain ⟨n, hn⟩ : ∃ n, t1[j]? = some n := ⟨_, List.getElem?_eq_getElem hlt⟩
      have HNL := Lib.hid (show n.1.length = 32 from HT1.out.1.nds n (List.mem_of_getElem? hn))
      have HN1 := Lib.hid (nodeOr_some hn)
      have HN2' := Lib.hid (nodeOr_some (prefix_at HPF.out hn))
      have hnn := nd_same n
      have hnlen := HNL.out
      have HWR := Lib.hid (show wrap64 ((j : Int) + 1) = (j : Int) + 1 by have := HM256.out; unfold wrap64; omega)
      clear hn
      have hlt' : (j : Int) < (t1.length : Int) := by omega
      have HLT := Lib.hid hlt
      have HJ := Lib.hid hj
      clear hlt hj
      go_wp2_with fail
      refine (len_any wr F1 b1 t1 256 HT1.out).mono ?_
      rintro e w4 ⟨rfl, hw⟩
      have hw := hw.symm
      subst hw
      go_wp2_with fail
      refine (node_any wr F1 b1 t1 256 j HT1.out).mono ?_
      rintro e w5 ⟨rfl, hbc⟩
      rw [HN1.out.1, HN1.out.2]
      replace HT1 := Lib.hid (HT1.out.below hbc)
      replace HT2 := Lib.hid (HT2.out.below hbc)
      replace HB := Lib.hid (HB.out.trans (hbc.mono HB.out.size))
      clear hbc
      have HZ := Lib.hid (blk_zero w5)
      have HZL := Lib.hid nd0_len
      have HX := Lib.hid (HZ.out.setRow (ndv n))
      have hbx : Below w5.heap.size w5 ((w5.alloc (.cells #[.int .u8 0, .int .u8 0, .int .u8 0, .int .u8 0, .int .u8 0, .int .u8 0, .int .u8 0, .int .u8 0, .int .u8 0, .int .u8 0, .int .u8 0, .int .u8 0, .int .u8 0, .int .u8 0, .int .u8 0, .int .u8 0, .int .u8 0, .int .u8 0, .int .u8 0, .int .u8 0, .int .u8 0, .int .u8 0, .int .u8 0, .int .u8 0, .int .u8 0, .int .u8 0, .int .u8 0, .int .u8 0, .int .u8 0, .int .u8 0, .int .u8 0, .int .u8 0, .int .i64 0, .int .i64 0] 51)).setRow w5.heap.size (ndv n).toArray) := below_row ((Below.refl _ w5).alloc (Nat.le_refl _) _) (Nat.le_refl _) _
      replace HT1 := Lib.hid (HT1.out.below hbx)
      replace HT2 := Lib.hid (HT2.out.below hbx)
      replace HB := Lib.hid (HB.out.trans (hbx.mono HB.out.size))
      clear hbx
      go_upto_region 13 with ((with_reducible refine wpList_store_node (.tmp 10) (.tmp 56) ?_ ?_ w5.heap.size nd0 n ?_ ?_ HZ.out HZL.out HNL.out ?_); rfl; rfl; rfl; rfl)
      generalize (w5.alloc (.cells #[.int .u8 0, .int .u8 0, .int .u8 0, .int .u8 0, .int .u8 0, .int .u8 0, .int .u8 0, .int .u8 0, .int .u8 0, .int .u8 0, .int .u8 0, .int .u8 0, .int .u8 0, .int .u8 0, .int .u8 0, .int .u8 0, .int .u8 0, .int .u8 0, .int .u8 0, .int .u8 0, .int .u8 0, .int .u8 0, .int .u8 0, .int .u8 0, .int .u8 0, .int .u8 0, .int .u8 0, .int .u8 0, .int .u8 0, .int .u8 0, .int .u8 0, .int .u8 0, .int .i64 0, .int .i64 0] 51)).setRow w5.heap.size (ndv n).toArray = w6 at HX HT1 HT2 HB ⊢
      generalize w5.heap.size = X at HX ⊢
      clear HZ HZL
      go_wp2_with fail
      refine (node_any w6 F2 b2 t2 256 j HT2.out).mono ?_
      rintro e w7 ⟨rfl, hbc⟩
      rw [HN2'.out.1, HN2'.out.2]
      replace HT1 := Lib.hid (HT1.out.below hbc)
      replace HT2 := Lib.hid (HT2.out.below hbc)
      replace HX := Lib.hid (HX.out.below hbc HX.out.lt)
      replace HB := Lib.hid (HB.out.trans (hbc.mono HB.out.size))
      clear hbc
      have HZ := Lib.hid (blk_zero w7)
      have HZL := Lib.hid nd0_len
      have HY := Lib.hid (HZ.out.setRow (ndv n))
      have hbx : Below w7.heap.size w7 ((w7.alloc (.cells #[.int .u8 0, .int .u8 0, .int .u8 0, .int .u8 0, .int .u8 0, .int .u8 0, .int .u8 0, .int .u8 0, .int .u8 0, .int .u8 0, .int .u8 0, .int .u8 0, .int .u8 0, .int .u8 0, .int .u8 0, .int .u8 0, .int .u8 0, .int .u8 0, .int .u8 0, .int .u8 0, .int .u8 0, .int .u8 0, .int .u8 0, .int .u8 0, .int .u8 0, .int .u8 0, .int .u8 0, .int .u8 0, .int .u8 0, .int .u8 0, .int .u8 0, .int .u8 0, .int .i64 0, .int .i64 0] 51)).setRow w7.heap.size (ndv n).toArray) := below_row ((Below.refl _ w7).alloc (Nat.le_refl _) _) (Nat.le_refl _) _
      replace HT1 := Lib.hid (HT1.out.below hbx)
      replace HT2 := Lib.hid (HT2.out.below hbx)
      replace HX := Lib.hid (HX.out.below hbx HX.out.lt)
      replace HB := Lib.hid (HB.out.trans (hbx.mono HB.out.size))
      clear hbx
      go_upto_region 14 with ((with_reducible refine wpList_store_node (.tmp 12) (.tmp 62) ?_ ?_ w7.heap.size nd0 n ?_ ?_ HZ.out HZL.out HNL.out ?_); rfl; rfl; rfl; rfl)
      generalize (w7.alloc (.cells #[.int .u8 0, .int .u8 0, .int .u8 0, .int .u8 0, .int .u8 0, .int .u8 0, .int .u8 0, .int .u8 0, .int .u8 0, .int .u8 0, .int .u8 0, .int .u8 0, .int .u8 0, .int .u8 0, .int .u8 0, .int .u8 0, .int .u8 0, .int .u8 0, .int .u8 0, .int .u8 0, .int .u8 0, .int .u8 0, .int .u8 0, .int .u8 0, .int .u8 0, .int .u8 0, .int .u8 0, .int .u8 0, .int .u8 0, .int .u8 0, .int .u8 0, .int .u8 0, .int .i64 0, .int .i64 0] 51)).setRow w7.heap.size (ndv n).toArray = w8 at HX HY HT1 HT2 HB ⊢
      generalize w7.heap.size = Y at HY ⊢
      clear HZ HZL
      go_wp2_with (first
        | ((with_reducible refine wpList_load_node (.tmp 10) ?_ ?_ X 0 n ?_ HNL.out HX.out.nodeAll ?_); rfl; rfl; rfl)
        | ((with_reducible refine wpList_load_node (.tmp 12) ?_ ?_ Y 0 n ?_ HNL.out HY.out.nodeAll ?_); rfl; rfl; rfl)
        | ((with_reducible refine wpList_neq_node (.tmp 67) (.tmp 68) _ ?_ ?_ n n ?_ ?_ HNL.out HNL.out ?_); rfl; rfl; rfl; rfl))
      have hlt := HLT.out
      have h256 := HM256.out
      go_roundw
      case rel => exact ⟨j + 1, by omega, by rw [HWR.out]; rfl, HT1, HT2, HB⟩
      case measure => exact meas t1.length j _ (by have := HWR.out; omega) hlt
    · have hlt' : ¬ (j : Int) < (t1.length : Int) := by omega
      go_wp2_with fail
      refine (len_any wr F1 b1 t1 256 HT1.out).mono ?_
      rintro e w4 ⟨rfl, hw⟩
      have hw := hw.symm
      subst hw
      go_wp2_with fail
      go_ret
      exact ⟨rfl, HB.out⟩
end Go.Proofs.Ytmchjmcdlapegaa
