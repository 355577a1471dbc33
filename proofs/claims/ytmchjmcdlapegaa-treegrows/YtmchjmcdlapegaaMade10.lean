/-
  made: a tree of numbers, and the document's.
-/
import Derived.Test.YtmchjmcdlapegaaAlive10
import Derived.Test.YtmchjmcdlapegaaFree
namespace Go.Proofs.Ytmchjmcdlapegaa
open Go Go.RowKit
set_option maxRecDepth 10000

/-- Blocks to be added, as numbers: name, parent's name, slot. -/
abbrev Ad := Int × Int × Int
def adv (a : Ad) : List Value := [.int .i64 a.1, .int .i64 a.2.1, .int .i64 a.2.2]
def av (l : List Ad) : List Value := l.flatMap adv
theorem av_length : ∀ (l : List Ad), (av l).length = l.length * 3
  | [] => rfl
  | a :: l => by
    have h := av_length l
    rw [av, List.flatMap_cons, List.length_append, ← av, h, List.length_cons]
    simp [adv]; omega
theorem av_at : ∀ (l : List Ad) (i j : Nat) (a : Ad), l[i]? = some a → j < 3 → (av l)[i * 3 + j]? = (adv a)[j]?
  | [], i, j, a, h, _ => by simp at h
  | y :: l, 0, j, a, h, hj => by
    simp at h
    subst h
    rw [av, List.flatMap_cons, Nat.zero_mul, Nat.zero_add, List.getElem?_append_left (by simp [adv]; omega)]
  | y :: l, i + 1, j, a, h, hj => by
    rw [av, List.flatMap_cons, List.getElem?_append_right (by simp [adv]; omega), show (i + 1) * 3 + j - (adv y).length = i * 3 + j by simp [adv]; omega, ← av]
    exact av_at l i j a (by simpa using h) hj
theorem Lies.add {w : World} {B b off : Nat} {ao : Option Addr} {l : List Ad} (h : Lies w B ao b off (av l)) {i : Nat} {a : Ad} (hi : l[i]? = some a) : ao = some ⟨b, off, none⟩ ∧ w.cell? ⟨b, off + i * 3, none⟩ = some (.int .i64 a.1) ∧ w.cell? ⟨b, off + i * 3 + 1, none⟩ = some (.int .i64 a.2.1) ∧ w.cell? ⟨b, off + i * 3 + 2, none⟩ = some (.int .i64 a.2.2) := by
  have hl := (List.getElem?_eq_some_iff.1 hi).1
  have hc := fun j (hj : j < 3) => h.cells (i * 3 + j)
  refine ⟨h.addr (by rw [av_length]; omega), ?_, ?_, ?_⟩
  · have := h.cells (i * 3 + 0) _ ((av_at l i 0 a hi (by omega)).trans rfl)
    exact this
  · have := h.cells (i * 3 + 1) _ ((av_at l i 1 a hi (by omega)).trans rfl)
    rwa [← Nat.add_assoc] at this
  · have := h.cells (i * 3 + 2) _ ((av_at l i 2 a hi (by omega)).trans rfl)
    rwa [← Nat.add_assoc] at this

def addAll (most : Int) (t : List Nd) (l : List Ad) : List Nd := l.foldl (fun t a => (addT most t (nmN a.1) (nmN a.2.1) a.2.2).2) t
theorem addAll_next {most : Int} {t : List Nd} {l : List Ad} {k : Nat} {a : Ad} (h : l[k]? = some a) : addAll most t (l.take (k + 1)) = (addT most (addAll most t (l.take k)) (nmN a.1) (nmN a.2.1) a.2.2).2 := by
  unfold addAll
  rw [List.take_add_one, h, List.foldl_append]
  rfl
def root0 : List Nd := [(nmN 0, 0, -1)]
def madeT (l : List Ad) : List Nd := addAll 256 root0 l

set_option maxHeartbeats 8000000 in
theorem made_any (w : World) (ao : Option Addr) (len cap g off : Nat) (l : List Ad) (hl : l.length = len) (hlen : len ≤ 1000) (h : Lies w w.heap.size ao g off (av l)) :
    Calls Try.prog 22 #[.slice ao len cap] w fun e w' => ∃ F G b m, e = .returned (.tuple #[.pointer (some ⟨b, 0, none⟩), .pointer (some ⟨m, 0, none⟩)]) ∧ Tre w' F b (madeT l) 256 ∧ Ref w' G m (madeT l) 256 ∧ High w.heap.size F ∧ High w.heap.size G ∧ Away F G ∧ Below w.heap.size w w' := by
  have HL := Lib.hid h
  have HN := Lib.hid hl
  clear h hl
  have HB := Lib.hid (Below.refl w.heap.size w)
  go_enter Try.func22, Try.ntmps22
  go_wp2_with fail
  refine (name_any w 0).mono ?_
  rintro e w1 ⟨rfl, hbc⟩
  replace HB := Lib.hid (HB.out.trans (hbc.mono HB.out.size))
  clear hbc
  go_wp2_with fail
  refine (new_ok w1 (nmN 0) 0 256 (nmN_len 0) (by omega) (by omega) (by omega) (by omega)).mono ?_
  rintro e w2 ⟨F, b, rfl, ht, hf, hbc⟩
  have HT := Lib.hid (show Tre w2 F b root0 256 from ht)
  have HF := Lib.hid (hf.mono HB.out.size)
  replace HB := Lib.hid (HB.out.trans (hbc.mono HB.out.size))
  clear hbc ht hf
  go_wp2_with fail
  refine (name_any w2 0).mono ?_
  rintro e w3 ⟨rfl, hbc⟩
  replace HT := Lib.hid (HT.out.below hbc)
  replace HB := Lib.hid (HB.out.trans (hbc.mono HB.out.size))
  clear hbc
  go_wp2_with fail
  refine (refnew_ok w3 (nmN 0) 0 256 (nmN_len 0) (by omega) (by omega) (by omega) (by omega)).mono ?_
  rintro e w4 ⟨G, m, rfl, hm, hg, hbc⟩
  have HM := Lib.hid (show Ref w4 G m root0 256 from hm)
  have HAW := Lib.hid (show Away F G from Away.high HT.out.low hg)
  have HG := Lib.hid (hg.mono HB.out.size)
  replace HT := Lib.hid (HT.out.below hbc)
  replace HB := Lib.hid (HB.out.trans (hbc.mono HB.out.size))
  clear hbc hm hg
  go_wp2_with fail
  go_loopw [22] (fun i wr => ∃ (k : Nat) (F' G' : List Nat), k ≤ len ∧ i = .int .i64 k ∧ Hid (Tre wr F' b (addAll 256 root0 (l.take k)) 256) ∧ Hid (Ref wr G' m (addAll 256 root0 (l.take k)) 256) ∧ Hid (High w.heap.size F') ∧ Hid (High w.heap.size G') ∧ Hid (Away F' G') ∧ Hid (Below w.heap.size w wr)) (fun i _ => len - (intOf i).toNat)
  case atStart => exact ⟨0, F, G, Nat.zero_le _, rfl, HT, HM, HF, HG, HAW, HB⟩
  case round =>
    clear HT HM HF HG HAW HB
    obtain ⟨k, F', G', hk, rfl, HT, HM, HF, HG, HAW, HB⟩ := hrel
    by_cases hlt : k < len
    · obtain ⟨a, ha⟩ : ∃ a, l[k]? = some a := ⟨_, List.getElem?_eq_getElem (by rw [HN.out]; exact hlt)⟩
      have HAK := Lib.hid ha
      obtain ⟨hao, q0, q1, q2⟩ := (HL.out.below HB.out).add ha
      subst hao
      obtain ⟨x0, x1, x2⟩ := a
      simp only at q0 q1 q2
      have HNX := Lib.hid (addAll_next (most := 256) (t := root0) ha)
      simp only at HNX
      clear ha
      obtain ⟨V, hV⟩ : ∃ V, V = wr.heap.size := ⟨_, rfl⟩
      have HTL := Lib.hid (show (∀ x ∈ F', x < V) ∧ (∀ x ∈ G', x < V) by rw [hV]; exact ⟨HT.out.low, HM.out.low⟩)
      have HV := Lib.hid (Blk.new wr 42 #[.int .i64 x0, .int .i64 x1, .int .i64 x2])
      have hb5 : Below wr.heap.size wr (wr.alloc (.cells #[.int .i64 x0, .int .i64 x1, .int .i64 x2] 42)) := (Below.refl _ _).alloc (Nat.le_refl _) _
      replace HT := Lib.hid (HT.out.below hb5)
      replace HM := Lib.hid (HM.out.below hb5)
      replace HB := Lib.hid (HB.out.trans (hb5.mono HB.out.size))
      have HWR := Lib.hid (show wrap64 ((k : Int) + 1) = (k : Int) + 1 by unfold wrap64; omega)
      clear hb5
      go_upto_region 6 with fail
      rw [← hV] at HV ⊢
      generalize wr.alloc (.cells _ 42) = w5 at HV HT HM HB ⊢
      have HVF := Lib.hid (show V ∉ F' ∧ V ∉ G' from ⟨fun hm => by have h1 := HTL.out.1 V hm; omega, fun hm => by have h1 := HTL.out.2 V hm; omega⟩)
      clear hV q0 q1 q2
      refine wp_region_free (P := Try.prog) 9 (fun w' => Below w5.heap.size w5 w') (fun oq v w' => match oq with
          | 0 => v = .pointer (some ⟨b, 0, none⟩)
          | 1 => v = .pointer (some ⟨V, 0, none⟩)
          | 2 => v = .int .i64 x0
          | 3 => v = .agg (bv (nmN x0)).toArray
          | 4 => v = .pointer (some ⟨V, 1, none⟩)
          | 5 => v = .int .i64 x1
          | 6 => v = .agg (bv (nmN x1)).toArray
          | 7 => v = .pointer (some ⟨V, 2, none⟩)
          | 8 => v = .int .i64 x2
          | _ => True) (by kernel_rfl) (by kernel_rfl) (Below.refl _ _).drew ?gb ?vb ?steps ?fin
      case gb => exact fun a b h1 h2 => h1.trans (h2.mono h1.size)
      case vb =>
        intro oq v a b h hb
        match oq with
        | 0 => exact h
        | 1 => exact h
        | 2 => exact h
        | 3 => exact h
        | 4 => exact h
        | 5 => exact h
        | 6 => exact h
        | 7 => exact h
        | 8 => exact h
        | _ + 9 => trivial
      case steps =>
        intro vals
        simp only [List.take_succ_cons, List.take_zero, freeSteps, Act.put, List.setIfInBounds_toArray, List.set_cons_zero, List.set_cons_succ, Nat.reduceAdd]
        refine ⟨fun w8 hG hW => ?_, fun w8 hG hW => ?_, fun w8 hG hW => ?_, fun w8 hG hW => ?_, fun w8 hG hW => ?_, fun w8 hG hW => ?_, fun w8 hG hW => ?_, fun w8 hG hW => ?_, fun w8 hG hW => ?_, trivial⟩
        · clear hW
          refine stepAt_value rfl rfl rfl (.pointer (some ⟨b, 0, none⟩)) w8 ?_ ⟨rfl, Below.refl _ _⟩
          go_simp
        · clear hW
          refine stepAt_value rfl rfl rfl (.pointer (some ⟨V, 0, none⟩)) w8 ?_ ⟨rfl, Below.refl _ _⟩
          go_simp
        · have q1 := hW 1 (by decide)
          simp only at q1
          rw [q1]
          clear hW
          refine stepAt_value rfl rfl rfl (.int .i64 x0) w8 ?_ ⟨rfl, Below.refl _ _⟩
          have hh := ((HV.out.below hG HV.out.lt).cell 0)
          go_simp
        · have q2 := hW 2 (by decide)
          simp only at q2
          rw [q2]
          clear hW
          refine stepAt_call rfl rfl rfl 20 #[.int .i64 x0] (by go_simp) ((name_any w8 x0).mono fun e w' ⟨h1, h2⟩ => ⟨_, h1, rfl, h2⟩)
        · clear hW
          refine stepAt_value rfl rfl rfl (.pointer (some ⟨V, 1, none⟩)) w8 ?_ ⟨rfl, Below.refl _ _⟩
          go_simp
        · have q4 := hW 4 (by decide)
          simp only at q4
          rw [q4]
          clear hW
          refine stepAt_value rfl rfl rfl (.int .i64 x1) w8 ?_ ⟨rfl, Below.refl _ _⟩
          have hh := ((HV.out.below hG HV.out.lt).cell 1)
          go_simp
        · have q5 := hW 5 (by decide)
          simp only at q5
          rw [q5]
          clear hW
          refine stepAt_call rfl rfl rfl 20 #[.int .i64 x1] (by go_simp) ((name_any w8 x1).mono fun e w' ⟨h1, h2⟩ => ⟨_, h1, rfl, h2⟩)
        · clear hW
          refine stepAt_value rfl rfl rfl (.pointer (some ⟨V, 2, none⟩)) w8 ?_ ⟨rfl, Below.refl _ _⟩
          go_simp
        · have q7 := hW 7 (by decide)
          simp only at q7
          rw [q7]
          clear hW
          refine stepAt_value rfl rfl rfl (.int .i64 x2) w8 ?_ ⟨rfl, Below.refl _ _⟩
          have hh := ((HV.out.below hG HV.out.lt).cell 2)
          go_simp
      case fin =>
        intro vals w10 hG hV
        have q0 := hV 0 (by omega)
        have q3 := hV 3 (by omega)
        have q6 := hV 6 (by omega)
        have q8 := hV 8 (by omega)
        simp only at q0 q3 q6 q8
        simp only [List.take_succ_cons, List.take_zero, List.drop_succ_cons, List.drop_zero, putAll, Act.put, List.setIfInBounds_toArray, List.set_cons_zero, List.set_cons_succ, Nat.reduceAdd]
        rw [q0, q3, q6, q8]
        clear hV q0 q3 q6 q8
        generalize vals 1 = y1
        generalize vals 2 = y2
        generalize vals 4 = y4
        generalize vals 5 = y5
        generalize vals 7 = y7
        have hb6 := hG
        replace HT := Lib.hid (HT.out.below hb6)
        replace HM := Lib.hid (HM.out.below hb6)
        replace HB := Lib.hid (HB.out.trans (hb6.mono HB.out.size))
        have HV6 := Lib.hid (HV.out.below hb6 HV.out.lt)
        clear hb6 hG HV
        go_wp2_with fail
        refine (add_any w10 F' b _ 256 (nmN x0) (nmN x1) x2 HT.out (nmN_len _) (nmN_len _)).mono ?_
        rintro e w11 ⟨rfl, F2, ht, hk2, hn2⟩
        rw [← HNX.out] at ht
        have HT2 := Lib.hid ht
        have HF2 := Lib.hid (HF.out.new hn2 HB.out.size)
        have HAW2 := Lib.hid (HAW.out.new hn2 HM.out.low)
        have HM2 := Lib.hid (HM.out.keep hk2 HAW.out.symm)
        have HB2 := Lib.hid (HB.out.trans (hk2.below HB.out.size HF.out))
        have HV2 := Lib.hid (HV6.out.kept hk2 HVF.out.1)
        clear ht hk2 hn2 HT HF HAW HM HB HV6
        go_upto_region 7 with fail
        refine wp_region_free (P := Try.prog) 9 (fun w' => Below w11.heap.size w11 w') (fun oq v w' => match oq with
            | 0 => v = .pointer (some ⟨m, 0, none⟩)
            | 1 => v = .pointer (some ⟨V, 0, none⟩)
            | 2 => v = .int .i64 x0
            | 3 => v = .agg (bv (nmN x0)).toArray
            | 4 => v = .pointer (some ⟨V, 1, none⟩)
            | 5 => v = .int .i64 x1
            | 6 => v = .agg (bv (nmN x1)).toArray
            | 7 => v = .pointer (some ⟨V, 2, none⟩)
            | 8 => v = .int .i64 x2
            | _ => True) (by kernel_rfl) (by kernel_rfl) (Below.refl _ _).drew ?gb ?vb ?steps ?fin
        case gb => exact fun a b h1 h2 => h1.trans (h2.mono h1.size)
        case vb =>
          intro oq v a b h hb
          match oq with
          | 0 => exact h
          | 1 => exact h
          | 2 => exact h
          | 3 => exact h
          | 4 => exact h
          | 5 => exact h
          | 6 => exact h
          | 7 => exact h
          | 8 => exact h
          | _ + 9 => trivial
        case steps =>
          intro vbls
          simp only [List.take_succ_cons, List.take_zero, freeSteps, Act.put, List.setIfInBounds_toArray, List.set_cons_zero, List.set_cons_succ, Nat.reduceAdd]
          refine ⟨fun w8 hG hW => ?_, fun w8 hG hW => ?_, fun w8 hG hW => ?_, fun w8 hG hW => ?_, fun w8 hG hW => ?_, fun w8 hG hW => ?_, fun w8 hG hW => ?_, fun w8 hG hW => ?_, fun w8 hG hW => ?_, trivial⟩
          · clear hW
            refine stepAt_value rfl rfl rfl (.pointer (some ⟨m, 0, none⟩)) w8 ?_ ⟨rfl, Below.refl _ _⟩
            go_simp
          · clear hW
            refine stepAt_value rfl rfl rfl (.pointer (some ⟨V, 0, none⟩)) w8 ?_ ⟨rfl, Below.refl _ _⟩
            go_simp
          · have q1 := hW 1 (by decide)
            simp only at q1
            rw [q1]
            clear hW
            refine stepAt_value rfl rfl rfl (.int .i64 x0) w8 ?_ ⟨rfl, Below.refl _ _⟩
            have hh := ((HV2.out.below hG HV2.out.lt).cell 0)
            go_simp
          · have q2 := hW 2 (by decide)
            simp only at q2
            rw [q2]
            clear hW
            refine stepAt_call rfl rfl rfl 20 #[.int .i64 x0] (by go_simp) ((name_any w8 x0).mono fun e w' ⟨h1, h2⟩ => ⟨_, h1, rfl, h2⟩)
          · clear hW
            refine stepAt_value rfl rfl rfl (.pointer (some ⟨V, 1, none⟩)) w8 ?_ ⟨rfl, Below.refl _ _⟩
            go_simp
          · have q4 := hW 4 (by decide)
            simp only at q4
            rw [q4]
            clear hW
            refine stepAt_value rfl rfl rfl (.int .i64 x1) w8 ?_ ⟨rfl, Below.refl _ _⟩
            have hh := ((HV2.out.below hG HV2.out.lt).cell 1)
            go_simp
          · have q5 := hW 5 (by decide)
            simp only at q5
            rw [q5]
            clear hW
            refine stepAt_call rfl rfl rfl 20 #[.int .i64 x1] (by go_simp) ((name_any w8 x1).mono fun e w' ⟨h1, h2⟩ => ⟨_, h1, rfl, h2⟩)
          · clear hW
            refine stepAt_value rfl rfl rfl (.pointer (some ⟨V, 2, none⟩)) w8 ?_ ⟨rfl, Below.refl _ _⟩
            go_simp
          · have q7 := hW 7 (by decide)
            simp only at q7
            rw [q7]
            clear hW
            refine stepAt_value rfl rfl rfl (.int .i64 x2) w8 ?_ ⟨rfl, Below.refl _ _⟩
            have hh := ((HV2.out.below hG HV2.out.lt).cell 2)
            go_simp
        case fin =>
          intro vbls w12 hG hV
          have q0 := hV 0 (by omega)
          have q3 := hV 3 (by omega)
          have q6 := hV 6 (by omega)
          have q8 := hV 8 (by omega)
          simp only at q0 q3 q6 q8
          simp only [List.take_succ_cons, List.take_zero, List.drop_succ_cons, List.drop_zero, putAll, Act.put, List.setIfInBounds_toArray, List.set_cons_zero, List.set_cons_succ, Nat.reduceAdd]
          rw [q0, q3, q6, q8]
          clear hV q0 q3 q6 q8
          generalize vbls 1 = z1
          generalize vbls 2 = z2
          generalize vbls 4 = z4
          generalize vbls 5 = z5
          generalize vbls 7 = z7
          have hb6 := hG
          replace HT2 := Lib.hid (HT2.out.below hb6)
          replace HM2 := Lib.hid (HM2.out.below hb6)
          replace HB2 := Lib.hid (HB2.out.trans (hb6.mono HB2.out.size))
          clear hb6 hG
          go_wp2_with fail
          refine (refadd_any w12 G' m _ 256 (nmN x0) (nmN x1) x2 HM2.out (nmN_len _) (nmN_len _)).mono ?_
          rintro e w13 ⟨rfl, G2, ht, hk2, hn2⟩
          rw [← HNX.out] at ht
          have HM3 := Lib.hid ht
          have HG3 := Lib.hid (HG.out.new hn2 HB2.out.size)
          have HAW3 := Lib.hid (HAW2.out.new' hn2 HT2.out.low)
          have HT3 := Lib.hid (HT2.out.keep hk2 HAW2.out)
          have HB3 := Lib.hid (HB2.out.trans (hk2.below HB2.out.size HG.out))
          clear ht hk2 hn2 HT2 HM2 HB2 HAW2 HG
          go_wp2_with fail
          refine ⟨⟨k + 1, F2, G2, by omega, by go_num, HT3, HM3, HF2, HG3, HAW3, HB3⟩, ?_⟩
          first | exact meas len k ((k : Int) + 1) (by omega) hlt | exact meas len k (wrap64 ((k : Int) + 1)) (by rw [HWR.out]; omega) hlt
    · obtain rfl : k = len := by omega
      have HTF := Lib.hid (show Tre wr F' b (madeT l) 256 by have := HT.out; rwa [List.take_of_length_le (by rw [HN.out]; exact Nat.le_refl _)] at this)
      have HMF := Lib.hid (show Ref wr G' m (madeT l) 256 by have := HM.out; rwa [List.take_of_length_le (by rw [HN.out]; exact Nat.le_refl _)] at this)
      go_wp2_with fail
      go_ret2
      exact ⟨F', G', b, m, rfl, HTF.out, HMF.out, HF.out, HG.out, HAW.out, HB.out⟩
end Go.Proofs.Ytmchjmcdlapegaa
