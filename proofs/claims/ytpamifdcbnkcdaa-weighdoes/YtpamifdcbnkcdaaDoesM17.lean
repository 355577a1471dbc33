/-
  The texts RWAsk, RWSum, one behind the other.
-/
import Derived.Test.YtpamifdcbnkcdaaDoesM11
import Derived.Test.YtpamifdcbnkcdaaDoesM9
import Derived.Test.YtpamifdcbnkcdaaDoesM16
import Derived.Test.YtpamifdcbnkcdaaCMoreWalk11
/-
  The document's weights are asked: a place, an own weight, the children, what a block weighs.
-/
namespace Go.Proofs.Ytpamifdcbnkcdaa
open Go Go.RowKit
set_option maxRecDepth 10000

/-- The document's tree, and its weights. -/
structure DW (w : World) (M : List Nat) (mb : Nat) (t : List Nd) (R : List Nat) (rb : Nat) (own : List Int) : Prop where
  ref : Ref w M mb t 256
  rw : RWk w R rb mb own own.length
  ol : own.length ≤ t.length
  og : OwnG own
theorem DW.below {w w' : World} {M R : List Nat} {mb rb : Nat} {t : List Nd} {own : List Int} (h : DW w M mb t R rb own) (hb : Below w.heap.size w w') : DW w' M mb t R rb own := ⟨h.ref.below hb, h.rw.below hb, h.ol, h.og⟩
def rplZ (t : List Nd) (N : Nat) (r : List UInt8) : Int := if plc t r < (N : Int) then plc t r else -1
theorem rplZ_cases (t : List Nd) (N : Nat) (r : List UInt8) : (rplZ t N r = -1 ∧ ¬ (0 ≤ plc t r ∧ plc t r < (N : Int))) ∨ ∃ k : Nat, rplZ t N r = (k : Int) ∧ k < N ∧ plc t r = (k : Int) := by
  unfold rplZ
  rcases plc_cases t r with ⟨i, m, _, _, h, _⟩ | ⟨_, h⟩
  · rw [h]
    by_cases h1 : (i : Int) < (N : Int)
    · rw [if_pos h1]; exact .inr ⟨i, rfl, by omega, rfl⟩
    · rw [if_neg h1]; exact .inl ⟨rfl, fun x => h1 x.2⟩
  · rw [h]
    split
    · exact .inl ⟨rfl, fun x => by omega⟩
    · exact .inl ⟨rfl, fun x => by omega⟩
theorem tellZ_none {t : List Nd} {N : Nat} {r : List UInt8} (h : ¬ (0 ≤ plc t r ∧ plc t r < (N : Int))) (dn : Int) (z : Nat → Int) : tellZ t N r dn z = dn := if_neg h
theorem tellZ_is {t : List Nd} {N k : Nat} {r : List UInt8} (h : plc t r = (k : Int)) (hk : k < N) (dn : Int) (z : Nat → Int) : tellZ t N r dn z = z k := by
  unfold tellZ
  rw [h, if_pos (by omega), Int.toNat_natCast]

set_option maxHeartbeats 8000000 in
theorem rplace_any (w : World) (M : List Nat) (mb : Nat) (t : List Nd) (R : List Nat) (rb : Nat) (own : List Int) (r : List UInt8) (h : DW w M mb t R rb own) (hr : r.length = 32) :
    Calls Try.prog 41 #[.pointer (some ⟨rb, 0, none⟩), .agg (bv r).toArray] w fun e w' => e = .returned (.int .i64 (rplZ t own.length r)) ∧ Below w.heap.size w w' := by
  have hb1 : Below w.heap.size w (w.alloc (.cells (bv r).toArray 24)) := (Below.refl _ w).alloc (Nat.le_refl _) _
  have HB := Lib.hid hb1
  have HX := Lib.hid (Blk.new w 24 (bv r).toArray)
  have HD := Lib.hid (h.below hb1)
  obtain ⟨X, hX⟩ : ∃ X, X = w.heap.size := ⟨_, rfl⟩
  clear hb1 h
  go_enter Try.func41, Try.ntmps41
  go_upto_region 1 with fail
  rw [← hX] at HX ⊢
  generalize w.alloc (.cells (bv r).toArray 24) = w1 at HB HX HD ⊢
  clear hX
  obtain ⟨a1, c1, g1, o1, hs⟩ := HD.out.rw.open
  have HS := Lib.hid hs
  clear hs
  refine wp_region_free (P := Try.prog) 7 (fun w' => Below w1.heap.size w1 w') (fun oq v w' => match oq with
      | 0 => v = .pointer (some ⟨rb, 0, none⟩)
      | 1 => v = .pointer (some ⟨rb, 0, none⟩)
      | 2 => v = .pointer (some ⟨rb, 0, none⟩)
      | 3 => v = .pointer (some ⟨mb, 0, none⟩)
      | 4 => v = .agg (bv r).toArray
      | 5 => v = .int .i64 (plc t r)
      | 6 => v = .int .i64 (plc t r)
      | _ => True) (by kernel_rfl) (by kernel_rfl) (Below.refl _ _).drew ?gb ?vb ?steps ?fin
  case gb => exact fun a b h1 h2 => h1.trans (h2.mono h1.size)
  case vb =>
    intro oq v a b h hb
    match oq with
    | 0 => exact h
    | 1 => exact h
    | 2 => exact h
    | 3 => exact h
    | 4 => exact h
    | 5 => exact h
    | 6 => exact h
    | _ + 7 => trivial
  case steps =>
    intro vals
    simp only [List.take_succ_cons, List.take_zero, freeSteps, Act.put, List.setIfInBounds_toArray, List.set_cons_zero, List.set_cons_succ, Nat.reduceAdd]
    refine ⟨fun w8 hG hW => ?_, fun w8 hG hW => ?_, fun w8 hG hW => ?_, fun w8 hG hW => ?_, fun w8 hG hW => ?_, fun w8 hG hW => ?_, fun w8 hG hW => ?_, trivial⟩
    · clear hW
      refine stepAt_value rfl rfl rfl (.pointer (some ⟨rb, 0, none⟩)) w8 ?_ ⟨rfl, Below.refl _ _⟩
      go_simp
    · have q0 := hW 0 (by decide)
      simp only at q0
      rw [q0]
      clear hW
      refine stepAt_value rfl rfl rfl (.pointer (some ⟨rb, 0, none⟩)) w8 ?_ ⟨rfl, Below.refl _ _⟩
      go_simp
    · have q1 := hW 1 (by decide)
      simp only at q1
      rw [q1]
      clear hW
      refine stepAt_value rfl rfl rfl (.pointer (some ⟨rb, 0, none⟩)) w8 ?_ ⟨rfl, Below.refl _ _⟩
      go_simp
    · have q2 := hW 2 (by decide)
      simp only at q2
      rw [q2]
      clear hW
      refine stepAt_value rfl rfl rfl (.pointer (some ⟨mb, 0, none⟩)) w8 ?_ ⟨rfl, Below.refl _ _⟩
      have hh := (HS.out.below hG).cell0
      go_simp
    · clear hW
      exact stepAt_load_run rfl rfl rfl _ _ rfl _ _ rfl (run_load_root hr (HX.out.below hG HX.out.lt).rootAll) ⟨rfl, Below.refl _ _⟩
    · have q3 := hW 3 (by decide)
      simp only at q3
      have q4 := hW 4 (by decide)
      simp only at q4
      rw [q3, q4]
      clear hW
      refine stepAt_call rfl rfl rfl 56 #[.pointer (some ⟨mb, 0, none⟩), .agg (bv r).toArray] (by go_simp) ((refplace_any w8 M mb t 256 r (HD.out.below hG).ref hr).mono fun e w' ⟨h1, h2⟩ => ⟨_, h1, rfl, h2⟩)
    · have q5 := hW 5 (by decide)
      simp only at q5
      rw [q5]
      clear hW
      refine stepAt_value rfl rfl rfl (.int .i64 (plc t r)) w8 ?_ ⟨rfl, Below.refl _ _⟩
      go_simp
  case fin =>
    intro vals w9 hG hV
    have q6 := hV 6 (by omega)
    simp only at q6
    simp only [List.take_succ_cons, List.take_zero, List.drop_succ_cons, List.drop_zero, putAll, Act.put, List.setIfInBounds_toArray, List.set_cons_zero, List.set_cons_succ, Nat.reduceAdd]
    rw [q6]
    clear hV q6
    generalize vals 0 = y0
    generalize vals 1 = y1
    generalize vals 2 = y2
    generalize vals 3 = y3
    generalize vals 4 = y4
    generalize vals 5 = y5
    have k2 := (HS.out.below hG).cell2
    replace HB := Lib.hid (HB.out.trans (hG.mono HB.out.size))
    clear hG
    by_cases hp : (own.length : Int) ≤ plc t r
    · have HV := Lib.hid (show rplZ t own.length r = -1 from if_neg (by omega))
      generalize plc t r = p at hp ⊢
      go_wp2_with fail
      go_ret
      exact ⟨by rw [HV.out]; rfl, HB.out⟩
    · have HV := Lib.hid (show rplZ t own.length r = plc t r from if_pos (by omega))
      generalize plc t r = p at hp HV ⊢
      go_wp2_with fail
      go_ret
      exact ⟨by rw [HV.out]; rfl, HB.out⟩

set_option maxHeartbeats 8000000 in
theorem rown_any (w : World) (M : List Nat) (mb : Nat) (t : List Nd) (R : List Nat) (rb : Nat) (own : List Int) (r : List UInt8) (h : DW w M mb t R rb own) (hr : r.length = 32) :
    Calls Try.prog 20 #[.pointer (some ⟨rb, 0, none⟩), .agg (bv r).toArray] w fun e w' => e = .returned (.int .i64 (tellZ t own.length r 0 (owZ own))) ∧ Below w.heap.size w w' := by
  have hb1 : Below w.heap.size w (w.alloc (.cells (bv r).toArray 24)) := (Below.refl _ w).alloc (Nat.le_refl _) _
  have HB := Lib.hid hb1
  have HX := Lib.hid (Blk.new w 24 (bv r).toArray)
  have HD := Lib.hid (h.below hb1)
  obtain ⟨X, hX⟩ : ∃ X, X = w.heap.size := ⟨_, rfl⟩
  clear hb1 h
  go_enter Try.func20, Try.ntmps20
  go_upto_region 1 with fail
  rw [← hX] at HX ⊢
  generalize w.alloc (.cells (bv r).toArray 24) = w1 at HB HX HD ⊢
  clear hX
  go_wp2_with ((with_reducible refine wpList_load_name (.tmp 3) ?_ ?_ X 0 r ?_ hr HX.out.rootAll ?_); rfl; rfl; rfl)
  refine (rplace_any w1 M mb t R rb own r HD.out hr).mono ?_
  rintro e w2 ⟨rfl, hbc⟩
  replace HD := Lib.hid (HD.out.below hbc)
  replace HB := Lib.hid (HB.out.trans (hbc.mono HB.out.size))
  clear hbc HX
  rcases rplZ_cases t own.length r with ⟨hp, hn⟩ | ⟨k, hp, hk, hq⟩
  · rw [hp]
    have HV := Lib.hid (tellZ_none hn 0 (owZ own))
    clear hp hn
    go_wp2_with fail
    go_ret
    exact ⟨by rw [HV.out]; rfl, HB.out⟩
  · rw [hp]
    have HV := Lib.hid (tellZ_is hq hk 0 (owZ own))
    obtain ⟨a1, c1, g1, o1, hs⟩ := HD.out.rw.open
    obtain ⟨ha, hc⟩ := lies_z hs.l1 (show own[k]? = some (owZ own k) by rw [owZ_at (List.getElem?_eq_getElem hk)]; exact List.getElem?_eq_getElem hk)
    subst ha
    have k1 := hs.cell1
    have d1 : (0 : Int) ≤ (k : Int) := by omega
    have d2 : (k : Int) < (own.length : Int) := by omega
    generalize owZ own k = y at hc HV
    clear hp hq hs
    go_wp2_with fail
    go_ret
    exact ⟨by rw [HV.out]; rfl, HB.out⟩

/-- The places of a block's children, below n. -/
def kdN (t : List Nd) (i : Nat) : Nat → List Int
  | 0 => []
  | n + 1 => if parW t n = (i : Int) then kdN t i n ++ [(n : Int)] else kdN t i n
theorem Good.kdN_start {t : List Nd} {most : Int} (G : Good t most) (i : Nat) : ∀ n : Nat, n ≤ i + 1 → kdN t i n = []
  | 0, _ => rfl
  | n + 1, h => by
    have hp := G.parW_lt n
    rw [kdN, if_neg (by omega), Good.kdN_start G i n (by omega)]
theorem kdN_len (t : List Nd) (i : Nat) : ∀ n : Nat, (kdN t i n).length ≤ n
  | 0 => Nat.le_refl _
  | n + 1 => by
    have := kdN_len t i n
    rw [kdN]
    split
    · rw [List.length_append, List.length_singleton]; omega
    · omega
theorem kdN_in (t : List Nd) (i : Nat) : ∀ (n : Nat) (x : Int), x ∈ kdN t i n → ∃ k : Nat, x = (k : Int) ∧ k < n ∧ parW t k = (i : Int)
  | 0, x, h => by cases h
  | n + 1, x, h => by
    rw [kdN] at h
    split at h
    · rename_i hp
      rcases List.mem_append.1 h with h | h
      · obtain ⟨k, h1, h2, h3⟩ := kdN_in t i n x h
        exact ⟨k, h1, by omega, h3⟩
      · simp at h
        exact ⟨n, h, by omega, hp⟩
    · obtain ⟨k, h1, h2, h3⟩ := kdN_in t i n x h
      exact ⟨k, h1, by omega, h3⟩
def lsZ (f : Nat → Int) : List Int → Int
  | [] => 0
  | x :: l => f x.toNat + lsZ f l
theorem lsZ_append (f : Nat → Int) : ∀ (a b : List Int), lsZ f (a ++ b) = lsZ f a + lsZ f b
  | [], b => by simp [lsZ]
  | x :: a, b => by rw [List.cons_append, lsZ, lsZ, lsZ_append f a b]; omega
theorem lsZ_nonneg {f : Nat → Int} (hf : ∀ k, 0 ≤ f k) : ∀ l : List Int, 0 ≤ lsZ f l
  | [] => Int.le_refl _
  | x :: l => by have := lsZ_nonneg hf l; have := hf x.toNat; rw [lsZ]; omega
theorem lsZ_next {f : Nat → Int} {l : List Int} {j : Nat} {x : Int} (h : l[j]? = some x) : lsZ f (l.take (j + 1)) = lsZ f (l.take j) + f x.toNat := by
  rw [List.take_add_one, h, Option.toList_some, lsZ_append, lsZ, lsZ]; omega
theorem lsZ_take {f : Nat → Int} (hf : ∀ k, 0 ≤ f k) (l : List Int) (j : Nat) : lsZ f (l.take j) ≤ lsZ f l := by
  have h1 := lsZ_append f (l.take j) (l.drop j)
  rw [List.take_append_drop] at h1
  have := lsZ_nonneg hf (l.drop j)
  omega
theorem kdN_sum (t : List Nd) (f : Nat → Int) (i : Nat) : ∀ n : Nat, lsZ f (kdN t i n) = smZ (fun k => if parW t k = (i : Int) then f k else 0) n
  | 0 => rfl
  | n + 1 => by
    have ih := kdN_sum t f i n
    rw [kdN, smZ]
    split
    · rw [lsZ_append, lsZ, lsZ, ih, Int.toNat_natCast]; omega
    · rw [ih]; omega
theorem Good.wtW_kids {t : List Nd} {most : Int} (G : Good t most) (own : List Int) (i : Nat) : wtW t own i = owZ own i + lsZ (wtW t own) (kdN t i own.length) := by
  rw [kdN_sum]
  exact G.wtW_eq own i
def bfZ (t : List Nd) (own : List Int) (l : List Int) : Int := l.foldl (fun b x => nxW t own x.toNat b) (-1)
theorem bfZ_next {t : List Nd} {own : List Int} {l : List Int} {j : Nat} {x : Int} (h : l[j]? = some x) : bfZ t own (l.take (j + 1)) = nxW t own x.toNat (bfZ t own (l.take j)) := by
  unfold bfZ
  rw [List.take_add_one, h, Option.toList_some, List.foldl_append]
  rfl
theorem kdN_best (t : List Nd) (own : List Int) (i : Nat) : ∀ n : Nat, bfZ t own (kdN t i n) = bsN t own i n
  | 0 => rfl
  | n + 1 => by
    have ih := kdN_best t own i n
    rw [kdN, bsN]
    split
    · unfold bfZ at ih ⊢
      rw [List.foldl_append, ih, List.foldl_cons, List.foldl_nil, Int.toNat_natCast]
    · exact ih
theorem bfZ_place (t : List Nd) (own : List Int) {N : Nat} : ∀ (l : List Int), (∀ x ∈ l, ∃ k : Nat, x = (k : Int) ∧ k < N) → bfZ t own l = -1 ∨ ∃ q : Nat, bfZ t own l = (q : Int) ∧ q < N := by
  intro l
  have go : ∀ (l : List Int) (b : Int), (b = -1 ∨ ∃ q : Nat, b = (q : Int) ∧ q < N) → (∀ x ∈ l, ∃ k : Nat, x = (k : Int) ∧ k < N) → (l.foldl (fun b x => nxW t own x.toNat b) b = -1 ∨ ∃ q : Nat, l.foldl (fun b x => nxW t own x.toNat b) b = (q : Int) ∧ q < N) := by
    intro l
    induction l with
    | nil => intro b hb _; exact hb
    | cons x l ih =>
      intro b hb hl
      rw [List.foldl_cons]
      refine ih _ ?_ (fun y hy => hl y (by simp [hy]))
      obtain ⟨k, rfl, hk⟩ := hl x (by simp)
      unfold nxW
      split
      · exact .inr ⟨k, by rw [Int.toNat_natCast], hk⟩
      · exact hb
  exact go l (-1) (.inl rfl)
end Go.Proofs.Ytpamifdcbnkcdaa

/-
  The document's weights: a block's children, what a block weighs.
-/
namespace Go.Proofs.Ytpamifdcbnkcdaa
open Go Go.RowKit
set_option maxRecDepth 10000


set_option maxHeartbeats 8000000 in
theorem rkids_any (w : World) (M : List Nat) (mb : Nat) (t : List Nd) (R : List Nat) (rb : Nat) (own : List Int) (i : Nat) (h : DW w M mb t R rb own) (hi : i < own.length) :
    Calls Try.prog 42 #[.pointer (some ⟨rb, 0, none⟩), .int .i64 (i : Int)] w fun e w' => ∃ v, e = .returned v ∧ Wide 1 w' w.heap.size v (zv (kdN t i own.length)) ∧ Below w.heap.size w w' := by
  have HD0 := Lib.hid h
  have HGD := Lib.hid h.ref.1
  have HOL := Lib.hid (show own.length ≤ 256 by have := h.ol; have := h.ref.1.room; have := h.ref.1.most256; omega)
  have HTL := Lib.hid h.ol
  have HW0 := Lib.hid (show Wide 1 w w.heap.size (.slice none 0 0) (zv (kdN t i (i + 1))) by rw [h.ref.1.kdN_start i _ (Nat.le_refl _)]; exact wide_nil0 1 w _)
  have HB0 := Lib.hid (Below.refl w.heap.size w)
  have hw1 : wrap64 ((i : Int) + 1) = ((i + 1 : Nat) : Int) := by have := HOL.out; unfold wrap64; omega
  obtain ⟨i0, hi0, hz0, hz1, hz2⟩ := info_parts Try.info3
  have HWI := Lib.hid hw1
  clear h
  go_enter Try.func42, Try.ntmps42
  go_wp2_with fail
  clear hw1
  go_loopw [5, 6] (fun v x wr => ∃ k : Nat, i + 1 ≤ k ∧ k ≤ own.length ∧ x = .int .i64 k ∧ Hid (Wide 1 wr w.heap.size v (zv (kdN t i k))) ∧ Hid (Below w.heap.size w wr)) (fun _ x _ => own.length - (intOf x).toNat)
  case atStart => exact ⟨i + 1, Nat.le_refl _, hi, by rw [HWI.out]; first | done | rw [Int.natCast_succ], HW0, HB0⟩
  case round =>
    clear HW0 HB0
    obtain ⟨k, hk1, hk, rfl, HW, HB⟩ := hrel
    have HD := Lib.hid (HD0.out.below HB.out)
    obtain ⟨a1, c1, g1, o1, hs⟩ := HD.out.rw.open
    have HS := Lib.hid hs
    clear hs
    by_cases hlt : k < own.length
    · have HLT := Lib.hid hlt
      have HK1 := Lib.hid hk1
      have hlt' : (k : Int) < (own.length : Int) := by omega
      have HWK := Lib.hid (show wrap64 ((k : Int) + 1) = ((k + 1 : Nat) : Int) by have := HOL.out; unfold wrap64; omega)
      have HNP := Lib.hid (nodeOr_par (t := t) (k := k) (by have := HTL.out; omega))
      have k0 := HS.out.cell0
      have k2 := HS.out.cell2
      clear hlt hk1 hk
      go_wp2_with fail
      refine (refup_any wr M mb t 256 (k : Int) HD.out.ref).mono ?_
      rintro e w2 ⟨rfl, hbc⟩
      rw [HNP.out]
      have HW2 := Lib.hid (HW.out.below hbc)
      have HB2 := Lib.hid (HB.out.trans (hbc.mono HB.out.size))
      clear hbc k0 k2 HW HB HS HD
      by_cases hp : parW t k = (i : Int)
      · have HKN := Lib.hid (show kdN t i (k + 1) = kdN t i k ++ [(k : Int)] by rw [kdN, if_pos hp])
        rw [hp]
        clear hp
        have heq : ((i : Int) == (i : Int)) = true := beq_self_eq_true _
        have hb1 : Below w2.heap.size w2 (w2.alloc (.cells #[.int .i64 (k : Int)] 3)) := (Below.refl _ _).alloc (Nat.le_refl _) _
        have HW3 := Lib.hid (HW2.out.below hb1)
        have HB3 := Lib.hid (HB2.out.trans (hb1.mono HB2.out.size))
        clear hb1
        have HSRC := Lib.hid (src_z w2 43 Try.underlying43 (k : Int))
        have HLN := Lib.hid (show (zv (kdN t i k)).length ≤ k by rw [zv_length]; exact kdN_len t i k)
        have HM1 := Lib.hid (show (zv (kdN t i k)).length + 1 ≤ maxLen by have := HLN.out; have := HOL.out; have := HLT.out; unfold maxLen; omega)
        have HM2 := Lib.hid (show ((zv (kdN t i k)).length + 1) * 8 ≤ 140737488355328 by have := HLN.out; have := HOL.out; have := HLT.out; omega)
        have HSk := Lib.hid HB3.out.size
        go_wp2_with (at_builtin; refine wpList_append_wide rfl _ _ 43 43 rfl rfl HW3.out (by decide) 3 i0 (.int .i64 0) 8 Try.underlying43 hi0 hz0 hz1 hz2 rfl _ rfl 1 (zv [(k : Int)]) HSRC.out HM1.out HM2.out HSk.out ?_)
        intro v' w4 hv hg
        have HB4 := Lib.hid (HB3.out.trans (hg.belowW HW3.out HSk.out))
        rw [← zv_append, ← HKN.out] at hv
        have HW4 := Lib.hid hv
        clear hv hg heq HM1 HM2 HSRC HLN HW2 HW3 HSk HB2 HB3
        go_wp2_with fail
        have hlk := HLT.out
        have hk1 := HK1.out
        go_roundw
        case rel => exact ⟨k + 1, by omega, by omega, by first | rw [HWK.out] | rw [Int.natCast_succ], HW4, HB4⟩
        case measure => first | exact measK own.length k 1 ((k : Int) + 1) (by omega) hlk Nat.zero_lt_one | exact measK own.length k 1 (wrap64 ((k : Int) + 1)) HWK.out hlk Nat.zero_lt_one
      · have HKN := Lib.hid (show kdN t i (k + 1) = kdN t i k by rw [kdN, if_neg hp])
        have hne : (parW t k == (i : Int)) = false := beq_eq_false_iff_ne.2 hp
        generalize parW t k = y at hp hne ⊢
        go_wp2_with fail
        have HW4 := Lib.hid (show Wide 1 w2 w.heap.size _ (zv (kdN t i (k + 1))) by rw [HKN.out]; exact HW2.out)
        have hlk := HLT.out
        have hk1 := HK1.out
        go_roundw
        case rel => exact ⟨k + 1, by omega, by omega, by first | rw [HWK.out] | rw [Int.natCast_succ], HW4, HB2⟩
        case measure => first | exact measK own.length k 1 ((k : Int) + 1) (by omega) hlk Nat.zero_lt_one | exact measK own.length k 1 (wrap64 ((k : Int) + 1)) HWK.out hlk Nat.zero_lt_one
    · obtain rfl : k = own.length := by omega
      have hlt2 : ¬ (own.length : Int) < (own.length : Int) := by omega
      have k2 := HS.out.cell2
      go_wp2_with fail
      go_ret
      exact ⟨_, rfl, HW.out, HB.out⟩

set_option maxHeartbeats 8000000 in
theorem rsum_go (M : List Nat) (mb : Nat) (t : List Nd) (R : List Nat) (rb : Nat) (own : List Int) : ∀ (f i : Nat) (w : World), own.length ≤ i + f → i < own.length → DW w M mb t R rb own →
    Calls Try.prog 43 #[.pointer (some ⟨rb, 0, none⟩), .int .i64 (i : Int)] w fun e w' => e = .returned (.int .i64 (wtW t own i)) ∧ Below w.heap.size w w' := by
  intro f
  induction f with
  | zero => intro i w h1 h2 _; omega
  | succ f ih =>
    intro i w hf hi h
    have HIH := Lib.hid ih
    have HD := Lib.hid h
    have HGD := Lib.hid h.ref.1
    have HOG := Lib.hid h.og
    obtain ⟨a1, c1, g1, o1, hs⟩ := h.rw.open
    obtain ⟨ha, hc⟩ := lies_z hs.l1 (show own[i]? = some (owZ own i) by rw [owZ_at (List.getElem?_eq_getElem hi)]; exact List.getElem?_eq_getElem hi)
    subst ha
    have k1 := hs.cell1
    have HWT := Lib.hid (h.ref.1.wtW_kids own i)
    have HOP := Lib.hid (h.og.owZ i)
    have HIB := Lib.hid (show i < own.length ∧ own.length ≤ i + (f + 1) by omega)
    have HKI := Lib.hid (show ∀ x ∈ kdN t i own.length, ∃ k : Nat, x = (k : Int) ∧ k < own.length ∧ i < k from fun x hx => by
      obtain ⟨k, h1, h2, h3⟩ := kdN_in t i own.length x hx
      have := HGD.out.parW_lt k
      exact ⟨k, h1, h2, by omega⟩)
    have HKL := Lib.hid (show (kdN t i own.length).length ≤ 256 by have := kdN_len t i own.length; have := h.ol; have := h.ref.1.room; have := h.ref.1.most256; omega)
    have d1 : (0 : Int) ≤ (i : Int) := by omega
    have d2 : (i : Int) < (own.length : Int) := by omega
    generalize owZ own i = y at hc HWT HOP
    clear ih h hs hf hi
    go_enter Try.func43, Try.ntmps43
    go_wp2_with fail
    refine (rkids_any w M mb t R rb own i HD.out HIB.out.1).mono ?_
    rintro e w2 ⟨v, rfl, hv, hb⟩
    generalize kdN t i own.length = L at hv HWT HKI HKL
    obtain ⟨ko, kn, kcap, kg, koff, rfl, hkn, hkl⟩ := hv.lies
    rw [zv_length, Nat.mul_one] at hkn
    subst hkn
    have HKW := Lib.hid hkl
    have HB := Lib.hid hb
    have HD2 := Lib.hid (HD.out.below hb)
    clear hv hkl hb k1 hc d1 d2 HD
    have HS0 := Lib.hid (show y + lsZ (wtW t own) (L.take 0) = y from Int.add_zero y)
    have HBQ0 := Lib.hid (Below.refl w2.heap.size w2)
    go_wp2_with fail
    go_loopw [5, 19] (fun a x wr => ∃ j : Nat, j ≤ L.length ∧ x = .int .i64 j ∧ a = .int .i64 (y + lsZ (wtW t own) (L.take j)) ∧ Hid (Below w2.heap.size w2 wr)) (fun _ x _ => L.length - (intOf x).toNat)
    case atStart => exact ⟨0, Nat.zero_le _, rfl, by rw [HS0.out], HBQ0⟩
    case round =>
      clear HS0 HBQ0
      obtain ⟨j, hj, rfl, rfl, HQ⟩ := hrel
      by_cases hlt : j < L.length
      · obtain ⟨x, hx⟩ : ∃ x, L[j]? = some x := ⟨_, List.getElem?_eq_getElem hlt⟩
        obtain ⟨k, rfl, hkl, hik⟩ := HKI.out x (List.mem_of_getElem? hx)
        obtain ⟨hko, hkc⟩ := (HKW.out.zv HQ.out hx)
        subst hko
        have HNX := Lib.hid (lsZ_next (f := wtW t own) hx)
        rw [Int.toNat_natCast] at HNX
        have HLT := Lib.hid hlt
        have HWB := Lib.hid (show 0 ≤ y + lsZ (wtW t own) (L.take j) ∧ y + lsZ (wtW t own) (L.take (j + 1)) < 4611686018427387904 by
          have h1 := lsZ_nonneg (fun k => wtW_nonneg HOG.out t k) (L.take j)
          have h2 := lsZ_take (fun k => wtW_nonneg HOG.out t k) L (j + 1)
          have h3 := HWT.out
          have h4 := wtW_lt HOG.out t i
          have h5 := HOP.out
          omega)
        have HWN := Lib.hid (wtW_nonneg HOG.out t k)
        have HWR := Lib.hid (show wrap64 (y + lsZ (wtW t own) (L.take j) + wtW t own k) = y + lsZ (wtW t own) (L.take (j + 1)) by
          have h1 := HNX.out
          have h2 := HWB.out
          have h3 := HWN.out
          rw [h1] at h2 ⊢
          unfold wrap64; omega)
        have HWJ := Lib.hid (show wrap64 ((j : Int) + 1) = ((j + 1 : Nat) : Int) by have := HKL.out; unfold wrap64; omega)
        have hlt' : (j : Int) < (L.length : Int) := by omega
        have HC := Lib.hid (HIH.out k wr (by have := HIB.out; omega) hkl (HD2.out.below HQ.out))
        clear hx hlt hj hkl hik
        go_wp2_with fail
        refine HC.out.mono ?_
        rintro e w3 ⟨rfl, hb3⟩
        have HQ3 := Lib.hid (HQ.out.trans (hb3.mono HQ.out.size))
        clear hb3 hkc HQ HC
        have hwr := HWR.out
        generalize wtW t own k = z at hwr
        go_wp2_with fail
        have hlk := HLT.out
        go_roundw
        case rel => exact ⟨j + 1, by omega, by first | rw [HWJ.out] | rw [Int.natCast_succ], by first | rfl | rw [hwr], HQ3⟩
        case measure => first | exact measK L.length j 1 ((j : Int) + 1) (by omega) hlk Nat.zero_lt_one | exact measK L.length j 1 (wrap64 ((j : Int) + 1)) HWJ.out hlk Nat.zero_lt_one
      · obtain rfl : j = L.length := by omega
        have hlt2 : ¬ (L.length : Int) < (L.length : Int) := by omega
        go_wp2_with fail
        go_ret
        exact ⟨by rw [HWT.out]; rfl, HB.out.trans (HQ.out.mono HB.out.size)⟩
theorem rsum_any (w : World) (M : List Nat) (mb : Nat) (t : List Nd) (R : List Nat) (rb : Nat) (own : List Int) (i : Nat) (h : DW w M mb t R rb own) (hi : i < own.length) :
    Calls Try.prog 43 #[.pointer (some ⟨rb, 0, none⟩), .int .i64 (i : Int)] w fun e w' => e = .returned (.int .i64 (wtW t own i)) ∧ Below w.heap.size w w' := rsum_go M mb t R rb own own.length i w (by omega) hi h

set_option maxHeartbeats 8000000 in
theorem rweight_any (w : World) (M : List Nat) (mb : Nat) (t : List Nd) (R : List Nat) (rb : Nat) (own : List Int) (r : List UInt8) (h : DW w M mb t R rb own) (hr : r.length = 32) :
    Calls Try.prog 21 #[.pointer (some ⟨rb, 0, none⟩), .agg (bv r).toArray] w fun e w' => e = .returned (.int .i64 (tellZ t own.length r 0 (wtW t own))) ∧ Below w.heap.size w w' := by
  have hb1 : Below w.heap.size w (w.alloc (.cells (bv r).toArray 24)) := (Below.refl _ w).alloc (Nat.le_refl _) _
  have HB := Lib.hid hb1
  have HX := Lib.hid (Blk.new w 24 (bv r).toArray)
  have HD := Lib.hid (h.below hb1)
  obtain ⟨X, hX⟩ : ∃ X, X = w.heap.size := ⟨_, rfl⟩
  clear hb1 h
  go_enter Try.func21, Try.ntmps21
  go_upto_region 1 with fail
  rw [← hX] at HX ⊢
  generalize w.alloc (.cells (bv r).toArray 24) = w1 at HB HX HD ⊢
  clear hX
  go_wp2_with ((with_reducible refine wpList_load_name (.tmp 3) ?_ ?_ X 0 r ?_ hr HX.out.rootAll ?_); rfl; rfl; rfl)
  refine (rplace_any w1 M mb t R rb own r HD.out hr).mono ?_
  rintro e w2 ⟨rfl, hbc⟩
  replace HD := Lib.hid (HD.out.below hbc)
  replace HB := Lib.hid (HB.out.trans (hbc.mono HB.out.size))
  clear hbc HX
  rcases rplZ_cases t own.length r with ⟨hp, hn⟩ | ⟨k, hp, hk, hq⟩
  · rw [hp]
    have HV := Lib.hid (tellZ_none hn 0 (wtW t own))
    clear hp hn
    go_wp2_with fail
    go_ret
    exact ⟨by rw [HV.out]; rfl, HB.out⟩
  · rw [hp]
    have HV := Lib.hid (tellZ_is hq hk 0 (wtW t own))
    have d1 : (0 : Int) ≤ (k : Int) := by omega
    clear hp hq
    go_wp2_with fail
    refine (rsum_any w2 M mb t R rb own k HD.out hk).mono ?_
    rintro e w3 ⟨rfl, hbc⟩
    replace HB := Lib.hid (HB.out.trans (hbc.mono HB.out.size))
    clear hbc
    go_wp2_with fail
    go_ret
    exact ⟨by rw [HV.out]; rfl, HB.out⟩
end Go.Proofs.Ytpamifdcbnkcdaa
