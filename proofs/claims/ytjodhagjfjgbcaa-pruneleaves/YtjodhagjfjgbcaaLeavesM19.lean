/-
  The texts Keep12, RWSum, one behind the other.
-/
import Derived.Test.YtjodhagjfjgbcaaLeavesM18
import Derived.Test.YtjodhagjfjgbcaaLeavesM16
/-
  What each block that is left answers, plainly.
-/
namespace Go.Proofs.Ytjodhagjfjgbcaa
open Go

section
variable {t : List Nd} {most : Int} {own : List Int} {p : Nat}
theorem Good.tell_cut (G : Good t most) (hp : p < t.length) {k : Nat} {x : Nd} (hx : t[k]? = some x) (ha : abW t p k = true) (dn : Int) (z : Nat → Int) : tellZ (cutT t p) (cutO t own p).length x.1 dn z = z (nuN t p k) := by
  have hk := (List.getElem?_eq_some_iff.1 hx).1
  have h := tellZ_at (G.cut hp) (cut_at ha hk) (N := (cutO t own p).length) (by rw [cutO_length]; exact nuN_lt_cut ha hk) dn z
  rw [show (cutE t p k).1 = x.1 from pnm_at hx] at h
  exact h
theorem Good.keep_wt (G : Good t most) (hp : p < t.length) (hl : own.length = t.length) {k : Nat} {x : Nd} (hx : t[k]? = some x) (ha : abW t p k = true) : tellZ (cutT t p) (cutO t own p).length x.1 0 (wtW (cutT t p) (cutO t own p)) = tellZ t own.length x.1 0 (wtW t own) := by
  have hk := (List.getElem?_eq_some_iff.1 hx).1
  rw [G.tell_cut hp hx ha, tellZ_at G hx (by omega), G.cut_wt hp hl ha]
theorem Good.keep_bst (G : Good t most) (hp : p < t.length) (hl : own.length = t.length) {k : Nat} {x : Nd} (hx : t[k]? = some x) (ha : abW t p k = true) : bstZ (cutT t p) (cutO t own p) x.1 = nuZ t p (bsW t own k) ∧ bstZ t own x.1 = bsW t own k := by
  have hk := (List.getElem?_eq_some_iff.1 hx).1
  unfold bstZ
  rw [G.tell_cut hp hx ha, tellZ_at G hx (by omega), G.cut_bs hp hl ha]
  exact ⟨rfl, rfl⟩
theorem Good.keep_best (G : Good t most) (hp : p < t.length) (hl : own.length = t.length) {k : Nat} {x : Nd} (hx : t[k]? = some x) (ha : abW t p k = true) : pnm (cutT t p) (bstZ (cutT t p) (cutO t own p) x.1) = pnm t (bstZ t own x.1) ∧ decide (0 ≤ bstZ (cutT t p) (cutO t own p) x.1) = decide (0 ≤ bstZ t own x.1) := by
  obtain ⟨h1, h2⟩ := G.keep_bst hp hl hx ha
  rw [h1, h2]
  rcases G.bsW_place (Nat.le_of_eq hl) k with ⟨hb, _⟩ | ⟨q, hb, _, hq, hpq⟩
  · rw [hb, nuZ, if_pos (by decide)]
    exact ⟨by rw [pnm, pnm, nodeAt_neg (by decide), nodeAt_neg (by decide)], rfl⟩
  · rw [hb, nuZ, if_neg (by omega), Int.toNat_natCast, cut_pnm (G.abW_kid hpq ha) (by omega)]
    refine ⟨rfl, ?_⟩
    rw [decide_eq_true (show (0 : Int) ≤ (nuN t p q : Int) by omega), decide_eq_true (show (0 : Int) ≤ (q : Int) by omega)]
theorem Good.keep_plc (G : Good t most) (hp : p < t.length) {k : Nat} {x : Nd} (hx : t[k]? = some x) : plc (cutT t p) x.1 = if abW t p k = true then (nuN t p k : Int) else -1 := by
  have hk := (List.getElem?_eq_some_iff.1 hx).1
  rw [← pnm_at hx, G.cut_plc hp hk]
theorem Good.keep_head (G : Good t most) (hp : p < t.length) (hl : own.length = t.length) (hh : abW t p (hdW t own) = true) : pnm (cutT t p) (hdW (cutT t p) (cutO t own p) : Int) = pnm t (hdW t own : Int) := by
  rw [G.cut_headnm hp hl, G.hd_keep hl hp hh]
theorem Good.head_lt (G : Good t most) (hl : own.length = t.length) : hdW t own < t.length := by
  have h := (G.hdF_is (Nat.le_of_eq hl) own.length 0 (by rw [hl]; exact G.pos) (by omega)).1
  rw [hl] at h
  exact h
end
end Go.Proofs.Ytjodhagjfjgbcaa

/-
  The document's weights: a block's children, what a block weighs.
-/
namespace Go.Proofs.Ytjodhagjfjgbcaa
open Go Go.RowKit
set_option maxRecDepth 10000


set_option maxHeartbeats 8000000 in
theorem rkids_any (w : World) (M : List Nat) (mb : Nat) (t : List Nd) (R : List Nat) (rb : Nat) (own : List Int) (most : Int) (i : Nat) (h : DW w M mb t R rb own most) (hi : i < own.length) :
    Calls Try.prog 54 #[.pointer (some ⟨rb, 0, none⟩), .int .i64 (i : Int)] w fun e w' => ∃ v, e = .returned v ∧ Wide 1 w' w.heap.size v (zv (kdN t i own.length)) ∧ Below w.heap.size w w' := by
  have HD0 := Lib.hid h
  have HGD := Lib.hid h.ref.1
  have HOL := Lib.hid (show own.length ≤ 256 by have := h.ol; have := h.ref.1.room; have := h.ref.1.most256; omega)
  have HTL := Lib.hid h.ol
  have HW0 := Lib.hid (show Wide 1 w w.heap.size (.slice none 0 0) (zv (kdN t i (i + 1))) by rw [h.ref.1.kdN_start i _ (Nat.le_refl _)]; exact wide_nil0 1 w _)
  have HB0 := Lib.hid (Below.refl w.heap.size w)
  have hw1 : wrap64 ((i : Int) + 1) = ((i + 1 : Nat) : Int) := by have := HOL.out; unfold wrap64; omega
  obtain ⟨i0, hi0, hz0, hz1, hz2⟩ := info_parts Try.info3
  have HWI := Lib.hid hw1
  clear h
  go_enter Try.func54, Try.ntmps54
  go_wp2_with fail
  clear hw1
  go_loopw [5, 6] (fun v x wr => ∃ k : Nat, i + 1 ≤ k ∧ k ≤ own.length ∧ x = .int .i64 k ∧ Hid (Wide 1 wr w.heap.size v (zv (kdN t i k))) ∧ Hid (Below w.heap.size w wr)) (fun _ x _ => own.length - (intOf x).toNat)
  case atStart => exact ⟨i + 1, Nat.le_refl _, hi, by rw [HWI.out]; first | done | rw [Int.natCast_succ], HW0, HB0⟩
  case round =>
    clear HW0 HB0
    obtain ⟨k, hk1, hk, rfl, HW, HB⟩ := hrel
    have HD := Lib.hid (HD0.out.below HB.out)
    obtain ⟨a1, c1, g1, o1, hs⟩ := HD.out.rw.open
    have HS := Lib.hid hs
    clear hs
    by_cases hlt : k < own.length
    · have HLT := Lib.hid hlt
      have HK1 := Lib.hid hk1
      have hlt' : (k : Int) < (own.length : Int) := by omega
      have HWK := Lib.hid (show wrap64 ((k : Int) + 1) = ((k + 1 : Nat) : Int) by have := HOL.out; unfold wrap64; omega)
      have HNP := Lib.hid (nodeOr_par (t := t) (k := k) (by have := HTL.out; omega))
      have k0 := HS.out.cell0
      have k2 := HS.out.cell2
      clear hlt hk1 hk
      go_wp2_with fail
      refine (refup_any wr M mb t most (k : Int) HD.out.ref).mono ?_
      rintro e w2 ⟨rfl, hbc⟩
      rw [HNP.out]
      have HW2 := Lib.hid (HW.out.below hbc)
      have HB2 := Lib.hid (HB.out.trans (hbc.mono HB.out.size))
      clear hbc k0 k2 HW HB HS HD
      by_cases hp : parW t k = (i : Int)
      · have HKN := Lib.hid (show kdN t i (k + 1) = kdN t i k ++ [(k : Int)] by rw [kdN, if_pos hp])
        rw [hp]
        clear hp
        have heq : ((i : Int) == (i : Int)) = true := beq_self_eq_true _
        have hb1 : Below w2.heap.size w2 (w2.alloc (.cells #[.int .i64 (k : Int)] 3)) := (Below.refl _ _).alloc (Nat.le_refl _) _
        have HW3 := Lib.hid (HW2.out.below hb1)
        have HB3 := Lib.hid (HB2.out.trans (hb1.mono HB2.out.size))
        clear hb1
        have HSRC := Lib.hid (src_z w2 42 Try.underlying42 (k : Int))
        have HLN := Lib.hid (show (zv (kdN t i k)).length ≤ k by rw [zv_length]; exact kdN_len t i k)
        have HM1 := Lib.hid (show (zv (kdN t i k)).length + 1 ≤ maxLen by have := HLN.out; have := HOL.out; have := HLT.out; unfold maxLen; omega)
        have HM2 := Lib.hid (show ((zv (kdN t i k)).length + 1) * 8 ≤ 140737488355328 by have := HLN.out; have := HOL.out; have := HLT.out; omega)
        have HSk := Lib.hid HB3.out.size
        go_wp2_with (at_builtin; refine wpList_append_wide rfl _ _ 42 42 rfl rfl HW3.out (by decide) 3 i0 (.int .i64 0) 8 Try.underlying42 hi0 hz0 hz1 hz2 rfl _ rfl 1 (zv [(k : Int)]) HSRC.out HM1.out HM2.out HSk.out ?_)
        intro v' w4 hv hg
        have HB4 := Lib.hid (HB3.out.trans (hg.belowW HW3.out HSk.out))
        rw [← zv_append, ← HKN.out] at hv
        have HW4 := Lib.hid hv
        clear hv hg heq HM1 HM2 HSRC HLN HW2 HW3 HSk HB2 HB3
        go_wp2_with fail
        have hlk := HLT.out
        have hk1 := HK1.out
        go_roundw
        case rel => exact ⟨k + 1, by omega, by omega, by first | rw [HWK.out] | rw [Int.natCast_succ], HW4, HB4⟩
        case measure => first | exact measK own.length k 1 ((k : Int) + 1) (by omega) hlk Nat.zero_lt_one | exact measK own.length k 1 (wrap64 ((k : Int) + 1)) HWK.out hlk Nat.zero_lt_one
      · have HKN := Lib.hid (show kdN t i (k + 1) = kdN t i k by rw [kdN, if_neg hp])
        have hne : (parW t k == (i : Int)) = false := beq_eq_false_iff_ne.2 hp
        generalize parW t k = y at hp hne ⊢
        go_wp2_with fail
        have HW4 := Lib.hid (show Wide 1 w2 w.heap.size _ (zv (kdN t i (k + 1))) by rw [HKN.out]; exact HW2.out)
        have hlk := HLT.out
        have hk1 := HK1.out
        go_roundw
        case rel => exact ⟨k + 1, by omega, by omega, by first | rw [HWK.out] | rw [Int.natCast_succ], HW4, HB2⟩
        case measure => first | exact measK own.length k 1 ((k : Int) + 1) (by omega) hlk Nat.zero_lt_one | exact measK own.length k 1 (wrap64 ((k : Int) + 1)) HWK.out hlk Nat.zero_lt_one
    · obtain rfl : k = own.length := by omega
      have hlt2 : ¬ (own.length : Int) < (own.length : Int) := by omega
      have k2 := HS.out.cell2
      go_wp2_with fail
      go_ret
      exact ⟨_, rfl, HW.out, HB.out⟩

set_option maxHeartbeats 8000000 in
theorem rsum_go (M : List Nat) (mb : Nat) (t : List Nd) (R : List Nat) (rb : Nat) (own : List Int) (most : Int) : ∀ (f i : Nat) (w : World), own.length ≤ i + f → i < own.length → DW w M mb t R rb own most →
    Calls Try.prog 55 #[.pointer (some ⟨rb, 0, none⟩), .int .i64 (i : Int)] w fun e w' => e = .returned (.int .i64 (wtW t own i)) ∧ Below w.heap.size w w' := by
  intro f
  induction f with
  | zero => intro i w h1 h2 _; omega
  | succ f ih =>
    intro i w hf hi h
    have HIH := Lib.hid ih
    have HD := Lib.hid h
    have HGD := Lib.hid h.ref.1
    have HOG := Lib.hid h.og
    obtain ⟨a1, c1, g1, o1, hs⟩ := h.rw.open
    obtain ⟨ha, hc⟩ := lies_z hs.l1 (show own[i]? = some (owZ own i) by rw [owZ_at (List.getElem?_eq_getElem hi)]; exact List.getElem?_eq_getElem hi)
    subst ha
    have k1 := hs.cell1
    have HWT := Lib.hid (h.ref.1.wtW_kids own i)
    have HOP := Lib.hid (h.og.owZ i)
    have HIB := Lib.hid (show i < own.length ∧ own.length ≤ i + (f + 1) by omega)
    have HKI := Lib.hid (show ∀ x ∈ kdN t i own.length, ∃ k : Nat, x = (k : Int) ∧ k < own.length ∧ i < k from fun x hx => by
      obtain ⟨k, h1, h2, h3⟩ := kdN_in t i own.length x hx
      have := HGD.out.parW_lt k
      exact ⟨k, h1, h2, by omega⟩)
    have HKL := Lib.hid (show (kdN t i own.length).length ≤ 256 by have := kdN_len t i own.length; have := h.ol; have := h.ref.1.room; have := h.ref.1.most256; omega)
    have d1 : (0 : Int) ≤ (i : Int) := by omega
    have d2 : (i : Int) < (own.length : Int) := by omega
    generalize owZ own i = y at hc HWT HOP
    clear ih h hs hf hi
    go_enter Try.func55, Try.ntmps55
    go_wp2_with fail
    refine (rkids_any w M mb t R rb own most i HD.out HIB.out.1).mono ?_
    rintro e w2 ⟨v, rfl, hv, hb⟩
    generalize kdN t i own.length = L at hv HWT HKI HKL
    obtain ⟨ko, kn, kcap, kg, koff, rfl, hkn, hkl⟩ := hv.lies
    rw [zv_length, Nat.mul_one] at hkn
    subst hkn
    have HKW := Lib.hid hkl
    have HB := Lib.hid hb
    have HD2 := Lib.hid (HD.out.below hb)
    clear hv hkl hb k1 hc d1 d2 HD
    have HS0 := Lib.hid (show y + lsZ (wtW t own) (L.take 0) = y from Int.add_zero y)
    have HBQ0 := Lib.hid (Below.refl w2.heap.size w2)
    go_wp2_with fail
    go_loopw [5, 19] (fun a x wr => ∃ j : Nat, j ≤ L.length ∧ x = .int .i64 j ∧ a = .int .i64 (y + lsZ (wtW t own) (L.take j)) ∧ Hid (Below w2.heap.size w2 wr)) (fun _ x _ => L.length - (intOf x).toNat)
    case atStart => exact ⟨0, Nat.zero_le _, rfl, by rw [HS0.out], HBQ0⟩
    case round =>
      clear HS0 HBQ0
      obtain ⟨j, hj, rfl, rfl, HQ⟩ := hrel
      by_cases hlt : j < L.length
      · obtain ⟨x, hx⟩ : ∃ x, L[j]? = some x := ⟨_, List.getElem?_eq_getElem hlt⟩
        obtain ⟨k, rfl, hkl, hik⟩ := HKI.out x (List.mem_of_getElem? hx)
        obtain ⟨hko, hkc⟩ := (HKW.out.zv HQ.out hx)
        subst hko
        have HNX := Lib.hid (lsZ_next (f := wtW t own) hx)
        rw [Int.toNat_natCast] at HNX
        have HLT := Lib.hid hlt
        have HWB := Lib.hid (show 0 ≤ y + lsZ (wtW t own) (L.take j) ∧ y + lsZ (wtW t own) (L.take (j + 1)) < 4611686018427387904 by
          have h1 := lsZ_nonneg (fun k => wtW_nonneg HOG.out t k) (L.take j)
          have h2 := lsZ_take (fun k => wtW_nonneg HOG.out t k) L (j + 1)
          have h3 := HWT.out
          have h4 := wtW_lt HOG.out t i
          have h5 := HOP.out
          omega)
        have HWN := Lib.hid (wtW_nonneg HOG.out t k)
        have HWR := Lib.hid (show wrap64 (y + lsZ (wtW t own) (L.take j) + wtW t own k) = y + lsZ (wtW t own) (L.take (j + 1)) by
          have h1 := HNX.out
          have h2 := HWB.out
          have h3 := HWN.out
          rw [h1] at h2 ⊢
          unfold wrap64; omega)
        have HWJ := Lib.hid (show wrap64 ((j : Int) + 1) = ((j + 1 : Nat) : Int) by have := HKL.out; unfold wrap64; omega)
        have hlt' : (j : Int) < (L.length : Int) := by omega
        have HC := Lib.hid (HIH.out k wr (by have := HIB.out; omega) hkl (HD2.out.below HQ.out))
        clear hx hlt hj hkl hik
        go_wp2_with fail
        refine HC.out.mono ?_
        rintro e w3 ⟨rfl, hb3⟩
        have HQ3 := Lib.hid (HQ.out.trans (hb3.mono HQ.out.size))
        clear hb3 hkc HQ HC
        have hwr := HWR.out
        generalize wtW t own k = z at hwr
        go_wp2_with fail
        have hlk := HLT.out
        go_roundw
        case rel => exact ⟨j + 1, by omega, by first | rw [HWJ.out] | rw [Int.natCast_succ], by first | rfl | rw [hwr], HQ3⟩
        case measure => first | exact measK L.length j 1 ((j : Int) + 1) (by omega) hlk Nat.zero_lt_one | exact measK L.length j 1 (wrap64 ((j : Int) + 1)) HWJ.out hlk Nat.zero_lt_one
      · obtain rfl : j = L.length := by omega
        have hlt2 : ¬ (L.length : Int) < (L.length : Int) := by omega
        go_wp2_with fail
        go_ret
        exact ⟨by rw [HWT.out]; rfl, HB.out.trans (HQ.out.mono HB.out.size)⟩
theorem rsum_any (w : World) (M : List Nat) (mb : Nat) (t : List Nd) (R : List Nat) (rb : Nat) (own : List Int) (most : Int) (i : Nat) (h : DW w M mb t R rb own most) (hi : i < own.length) :
    Calls Try.prog 55 #[.pointer (some ⟨rb, 0, none⟩), .int .i64 (i : Int)] w fun e w' => e = .returned (.int .i64 (wtW t own i)) ∧ Below w.heap.size w w' := rsum_go M mb t R rb own most own.length i w (by omega) hi h

end Go.Proofs.Ytjodhagjfjgbcaa
