/-
  The texts RWBest, one behind the other.
-/
import Derived.Test.YtjodhagjfjgbcaaLeavesM19
import Derived.Test.YtjodhagjfjgbcaaLeavesM16
import Derived.Test.YtjodhagjfjgbcaaLeavesM10
/-
  The document's weights: the best child.
-/
namespace Go.Proofs.Ytjodhagjfjgbcaa
open Go Go.RowKit
set_option maxRecDepth 10000


set_option maxRecDepth 100000 in
set_option maxHeartbeats 16000000 in
theorem rbest_any (w : World) (M : List Nat) (mb : Nat) (t : List Nd) (R : List Nat) (rb : Nat) (own : List Int) (most : Int) (r : List UInt8) (h : DW w M mb t R rb own most) (hr : r.length = 32) :
    Calls Try.prog 42 #[.pointer (some ⟨rb, 0, none⟩), .agg (bv r).toArray] w fun e w' => e = .returned (.tuple #[.agg (bv (pnm t (bstZ t own r))).toArray, .bool (decide (0 ≤ bstZ t own r))]) ∧ Below w.heap.size w w' := by
  have hb0 : Below w.heap.size w (w.alloc (.cells (bv r).toArray 24)) := (Below.refl _ w).alloc (Nat.le_refl _) _
  have hb1 : Below w.heap.size w ((w.alloc (.cells (bv r).toArray 24)).alloc (.cells #[.int .u8 0, .int .u8 0, .int .u8 0, .int .u8 0, .int .u8 0, .int .u8 0, .int .u8 0, .int .u8 0, .int .u8 0, .int .u8 0, .int .u8 0, .int .u8 0, .int .u8 0, .int .u8 0, .int .u8 0, .int .u8 0, .int .u8 0, .int .u8 0, .int .u8 0, .int .u8 0, .int .u8 0, .int .u8 0, .int .u8 0, .int .u8 0, .int .u8 0, .int .u8 0, .int .u8 0, .int .u8 0, .int .u8 0, .int .u8 0, .int .u8 0, .int .u8 0] 24)) := hb0.alloc hb0.size _
  have HX := Lib.hid ((Blk.new w 24 (bv r).toArray).alloc (.cells #[.int .u8 0, .int .u8 0, .int .u8 0, .int .u8 0, .int .u8 0, .int .u8 0, .int .u8 0, .int .u8 0, .int .u8 0, .int .u8 0, .int .u8 0, .int .u8 0, .int .u8 0, .int .u8 0, .int .u8 0, .int .u8 0, .int .u8 0, .int .u8 0, .int .u8 0, .int .u8 0, .int .u8 0, .int .u8 0, .int .u8 0, .int .u8 0, .int .u8 0, .int .u8 0, .int .u8 0, .int .u8 0, .int .u8 0, .int .u8 0, .int .u8 0, .int .u8 0] 24))
  have hz := blk_zeroR (w.alloc (.cells (bv r).toArray 24))
  rw [World.size_alloc] at hz
  have HZ := Lib.hid hz
  have HB := Lib.hid hb1
  have HD := Lib.hid (h.below hb1)
  have HGD := Lib.hid h.ref.1
  have HOL := Lib.hid h.ol
  have HOG := Lib.hid h.og
  have HZL := Lib.hid zlen
  have HT256 := Lib.hid (show t.length ≤ 256 by have := h.ref.1.room; have := h.ref.1.most256; omega)
  clear hb0 hb1 h hz
  go_enter Try.func42, Try.ntmps42
  go_upto_region 1 with fail
  generalize (w.alloc (.cells (bv r).toArray 24)).alloc (.cells #[.int .u8 0, .int .u8 0, .int .u8 0, .int .u8 0, .int .u8 0, .int .u8 0, .int .u8 0, .int .u8 0, .int .u8 0, .int .u8 0, .int .u8 0, .int .u8 0, .int .u8 0, .int .u8 0, .int .u8 0, .int .u8 0, .int .u8 0, .int .u8 0, .int .u8 0, .int .u8 0, .int .u8 0, .int .u8 0, .int .u8 0, .int .u8 0, .int .u8 0, .int .u8 0, .int .u8 0, .int .u8 0, .int .u8 0, .int .u8 0, .int .u8 0, .int .u8 0] 24) = w1 at HX HZ HD HB ⊢
  obtain ⟨X, hX⟩ : ∃ X, X = w.heap.size := ⟨_, rfl⟩
  obtain ⟨Z, hZ⟩ : ∃ Z, Z = w.heap.size + 1 := ⟨_, rfl⟩
  have HZE := Lib.hid (show w.heap.size ≤ Z by omega)
  rw [← hZ] at HZ ⊢
  rw [← hX] at HX ⊢
  clear hX hZ
  go_wp2_with ((with_reducible refine wpList_load_name (.tmp 3) ?_ ?_ X 0 r ?_ hr HX.out.rootAll ?_); rfl; rfl; rfl)
  refine (rplace_any w1 M mb t R rb own most r HD.out hr).mono ?_
  rintro e w2 ⟨rfl, hbc⟩
  replace HD := Lib.hid (HD.out.below hbc)
  replace HZ := Lib.hid (HZ.out.below hbc HZ.out.lt)
  replace HB := Lib.hid (HB.out.trans (hbc.mono HB.out.size))
  clear hbc HX
  rcases rplZ_cases t own.length r with ⟨hp, hn⟩ | ⟨i, hp, hi, hq⟩
  · rw [hp]
    have HV := Lib.hid (show bstZ t own r = -1 from tellZ_none hn (-1) (bsW t own))
    have HR := Lib.hid (show pnm t (-1) = zero32 by simp [pnm, nodeAt])
    clear hp hn
    have HZF := Lib.hid (HZ.out.setRow (bv zero32))
    have HBF := Lib.hid (below_row HB.out HZE.out (bv zero32).toArray)
    go_wp2_with ((with_reducible refine wpList_store_name (.tmp 4) (.tmp 15) ?_ ?_ Z zero32 zero32 ?_ ?_ HZ.out HZL.out HZL.out ?_); rfl; rfl; rfl; rfl)
    refine ret_name2 rfl rfl HZF.out HZL.out rfl ?_
    exact ⟨by rw [HV.out, HR.out]; rfl, HBF.out⟩
  · rw [hp]
    have HV := Lib.hid (show bstZ t own r = bsW t own i from tellZ_is hq hi (-1) (bsW t own))
    have HKI := Lib.hid (show ∀ x ∈ kdN t i own.length, ∃ k : Nat, x = (k : Int) ∧ k < own.length from fun x hx => by
      obtain ⟨k, h1, h2, _⟩ := kdN_in t i own.length x hx
      exact ⟨k, h1, h2⟩)
    have HKL := Lib.hid (show (kdN t i own.length).length ≤ 256 by have := kdN_len t i own.length; have := HOL.out; have := HT256.out; omega)
    have HBS := Lib.hid (show bfZ t own (kdN t i own.length) = bsW t own i from kdN_best t own i own.length)
    have HI := Lib.hid hi
    have d0 : ¬ ((i : Int) < 0) := by omega
    clear hp hq hi
    go_wp2_with fail
    refine (rkids_any w2 M mb t R rb own most i HD.out HI.out).mono ?_
    rintro e w3 ⟨v, rfl, hv, hbc⟩
    generalize kdN t i own.length = L at hv HKI HKL HBS
    obtain ⟨ko, kn, kcap, kg, koff, rfl, hkn, hkl⟩ := hv.lies
    rw [zv_length, Nat.mul_one] at hkn
    subst hkn
    have HKW := Lib.hid hkl
    replace HD := Lib.hid (HD.out.below hbc)
    replace HZ := Lib.hid (HZ.out.below hbc HZ.out.lt)
    replace HB := Lib.hid (HB.out.trans (hbc.mono HB.out.size))
    clear hv hkl hbc d0
    have HBQ0 := Lib.hid (Below.refl w3.heap.size w3)
    have HF0 := Lib.hid (show bfZ t own (L.take 0) = -1 from rfl)
    go_wp2_with fail
    go_loopw [7, 20] (fun b x wr => ∃ j : Nat, j ≤ L.length ∧ x = .int .i64 j ∧ b = .int .i64 (bfZ t own (L.take j)) ∧ Hid (Below w3.heap.size w3 wr)) (fun _ x _ => L.length - (intOf x).toNat)
    case atStart => exact ⟨0, Nat.zero_le _, rfl, by rw [HF0.out], HBQ0⟩
    case round =>
      clear HBQ0 HF0
      obtain ⟨j, hj, rfl, rfl, HQ⟩ := hrel
      have HPL := Lib.hid (bfZ_place t own (N := own.length) (L.take j) (fun x hx => HKI.out x (List.mem_of_mem_take hx)))
      by_cases hlt : j < L.length
      · obtain ⟨x, hx⟩ : ∃ x, L[j]? = some x := ⟨_, List.getElem?_eq_getElem hlt⟩
        obtain ⟨k, rfl, hkl⟩ := HKI.out x (List.mem_of_getElem? hx)
        obtain ⟨hko, hkc⟩ := (HKW.out.zv HQ.out hx)
        subst hko
        have HNX := Lib.hid (bfZ_next (t := t) (own := own) hx)
        rw [Int.toNat_natCast] at HNX
        have HLT := Lib.hid hlt
        have HKO := Lib.hid hkl
        have HWJ := Lib.hid (show wrap64 ((j : Int) + 1) = ((j + 1 : Nat) : Int) by have := HKL.out; unfold wrap64; omega)
        have hlt' : (j : Int) < (L.length : Int) := by omega
        have HDr := Lib.hid (HD.out.below HQ.out)
        clear hx hlt hj hkl
        obtain ⟨a1, c1, g1, o1, hs⟩ := HDr.out.rw.open
        have HS := Lib.hid hs
        obtain ⟨ba1, ba2, ba3, bc1, bc2, bc3, bg1, bg2, bg3, bo1, bo2, bo3, ht⟩ := HDr.out.ref.open
        have HTS := Lib.hid ht
        clear hs ht
        rcases HPL.out with hb | ⟨q, hb, hqo⟩
        · have HNV := Lib.hid (show bfZ t own (L.take (j + 1)) = (k : Int) by rw [HNX.out, hb, nxW, if_pos (.inl (by decide))])
          rw [hb]
          clear hb HPL HNX
          go_wp2_with fail
          refine wp_region_free (P := Try.prog) 43 (fun w' => Below wr.heap.size wr w') (fun oq v w' => match oq with
              | 0 => v = .int .i64 (-1)
              | 1 => v = .bool true
              | 2 => v = .bool true
              | 3 => v = undef
              | 4 => v = undef
              | 5 => v = undef
              | 6 => v = undef
              | 7 => v = undef
              | 8 => v = undef
              | 9 => v = undef
              | 10 => v = .bool true
              | 11 => v = .bool true
              | 12 => v = undef
              | 13 => v = undef
              | 14 => v = undef
              | 15 => v = undef
              | 16 => v = undef
              | 17 => v = undef
              | 18 => v = undef
              | 19 => v = undef
              | 20 => v = undef
              | 21 => v = undef
              | 22 => v = undef
              | 23 => v = undef
              | 24 => v = undef
              | 25 => v = undef
              | 26 => v = undef
              | 27 => v = undef
              | 28 => v = undef
              | 29 => v = undef
              | 30 => v = undef
              | 31 => v = undef
              | 32 => v = undef
              | 33 => v = undef
              | 34 => v = undef
              | 35 => v = undef
              | 36 => v = undef
              | 37 => v = undef
              | 38 => v = undef
              | 39 => v = undef
              | 40 => v = undef
              | 41 => v = undef
              | 42 => v = .bool true
              | _ => True) (by kernel_rfl) (by kernel_rfl) (Below.refl _ _).drew ?gb ?vb ?steps ?fin
          case gb => exact fun a b h1 h2 => h1.trans (h2.mono h1.size)
          case vb =>
            intro oq v a b h hb
            match oq with
            | 0 => exact h
            | 1 => exact h
            | 2 => exact h
            | 3 => exact h
            | 4 => exact h
            | 5 => exact h
            | 6 => exact h
            | 7 => exact h
            | 8 => exact h
            | 9 => exact h
            | 10 => exact h
            | 11 => exact h
            | 12 => exact h
            | 13 => exact h
            | 14 => exact h
            | 15 => exact h
            | 16 => exact h
            | 17 => exact h
            | 18 => exact h
            | 19 => exact h
            | 20 => exact h
            | 21 => exact h
            | 22 => exact h
            | 23 => exact h
            | 24 => exact h
            | 25 => exact h
            | 26 => exact h
            | 27 => exact h
            | 28 => exact h
            | 29 => exact h
            | 30 => exact h
            | 31 => exact h
            | 32 => exact h
            | 33 => exact h
            | 34 => exact h
            | 35 => exact h
            | 36 => exact h
            | 37 => exact h
            | 38 => exact h
            | 39 => exact h
            | 40 => exact h
            | 41 => exact h
            | 42 => exact h
            | _ + 43 => trivial
          case steps =>
            intro vals
            simp only [List.take_succ_cons, List.take_zero, freeSteps, Act.put, List.setIfInBounds_toArray, List.set_cons_zero, List.set_cons_succ, Nat.reduceAdd]
            refine ⟨fun w8 hG hW => ?_, fun w8 hG hW => ?_, fun w8 hG hW => ?_, fun w8 hG hW => ?_, fun w8 hG hW => ?_, fun w8 hG hW => ?_, fun w8 hG hW => ?_, fun w8 hG hW => ?_, fun w8 hG hW => ?_, fun w8 hG hW => ?_, fun w8 hG hW => ?_, fun w8 hG hW => ?_, fun w8 hG hW => ?_, fun w8 hG hW => ?_, fun w8 hG hW => ?_, fun w8 hG hW => ?_, fun w8 hG hW => ?_, fun w8 hG hW => ?_, fun w8 hG hW => ?_, fun w8 hG hW => ?_, fun w8 hG hW => ?_, fun w8 hG hW => ?_, fun w8 hG hW => ?_, fun w8 hG hW => ?_, fun w8 hG hW => ?_, fun w8 hG hW => ?_, fun w8 hG hW => ?_, fun w8 hG hW => ?_, fun w8 hG hW => ?_, fun w8 hG hW => ?_, fun w8 hG hW => ?_, fun w8 hG hW => ?_, fun w8 hG hW => ?_, fun w8 hG hW => ?_, fun w8 hG hW => ?_, fun w8 hG hW => ?_, fun w8 hG hW => ?_, fun w8 hG hW => ?_, fun w8 hG hW => ?_, fun w8 hG hW => ?_, fun w8 hG hW => ?_, fun w8 hG hW => ?_, fun w8 hG hW => ?_, trivial⟩
            · clear hW
              refine stepAt_value rfl rfl rfl (.int .i64 (-1)) w8 ?_ ⟨rfl, Below.refl _ _⟩
              go_simp
            · have q0 := hW 0 (by decide)
              simp only at q0
              rw [q0]
              clear hW
              refine stepAt_value rfl rfl rfl (.bool true) w8 ?_ ⟨rfl, Below.refl _ _⟩
              go_simp
            · have q1 := hW 1 (by decide)
              simp only at q1
              rw [q1]
              clear hW
              refine stepAt_value rfl rfl rfl (.bool true) w8 ?_ ⟨rfl, Below.refl _ _⟩
              go_simp
            · have q2 := hW 2 (by decide)
              simp only at q2
              rw [q2]
              clear hW
              exact stepAt_skip rfl rfl rfl ⟨rfl, Below.refl _ _⟩
            · have q2 := hW 2 (by decide)
              simp only at q2
              rw [q2]
              clear hW
              exact stepAt_skip rfl rfl rfl ⟨rfl, Below.refl _ _⟩
            · have q2 := hW 2 (by decide)
              simp only at q2
              rw [q2]
              clear hW
              exact stepAt_skip rfl rfl rfl ⟨rfl, Below.refl _ _⟩
            · have q2 := hW 2 (by decide)
              simp only at q2
              rw [q2]
              clear hW
              exact stepAt_skip rfl rfl rfl ⟨rfl, Below.refl _ _⟩
            · have q2 := hW 2 (by decide)
              simp only at q2
              rw [q2]
              clear hW
              exact stepAt_skip rfl rfl rfl ⟨rfl, Below.refl _ _⟩
            · have q2 := hW 2 (by decide)
              simp only at q2
              rw [q2]
              clear hW
              exact stepAt_skip rfl rfl rfl ⟨rfl, Below.refl _ _⟩
            · have q2 := hW 2 (by decide)
              simp only at q2
              rw [q2]
              clear hW
              exact stepAt_skip rfl rfl rfl ⟨rfl, Below.refl _ _⟩
            · have q2 := hW 2 (by decide)
              simp only at q2
              have q9 := hW 9 (by decide)
              simp only at q9
              rw [q2, q9]
              clear hW
              refine stepAt_value rfl rfl rfl (.bool true) w8 ?_ ⟨rfl, Below.refl _ _⟩
              go_simp
            · have q10 := hW 10 (by decide)
              simp only at q10
              rw [q10]
              clear hW
              refine stepAt_value rfl rfl rfl (.bool true) w8 ?_ ⟨rfl, Below.refl _ _⟩
              go_simp
            · have q11 := hW 11 (by decide)
              simp only at q11
              rw [q11]
              clear hW
              exact stepAt_skip rfl rfl rfl ⟨rfl, Below.refl _ _⟩
            · have q11 := hW 11 (by decide)
              simp only at q11
              rw [q11]
              clear hW
              exact stepAt_skip rfl rfl rfl ⟨rfl, Below.refl _ _⟩
            · have q11 := hW 11 (by decide)
              simp only at q11
              rw [q11]
              clear hW
              exact stepAt_skip rfl rfl rfl ⟨rfl, Below.refl _ _⟩
            · have q11 := hW 11 (by decide)
              simp only at q11
              rw [q11]
              clear hW
              exact stepAt_skip rfl rfl rfl ⟨rfl, Below.refl _ _⟩
            · have q11 := hW 11 (by decide)
              simp only at q11
              rw [q11]
              clear hW
              exact stepAt_skip rfl rfl rfl ⟨rfl, Below.refl _ _⟩
            · have q11 := hW 11 (by decide)
              simp only at q11
              rw [q11]
              clear hW
              exact stepAt_skip rfl rfl rfl ⟨rfl, Below.refl _ _⟩
            · have q11 := hW 11 (by decide)
              simp only at q11
              rw [q11]
              clear hW
              exact stepAt_skip rfl rfl rfl ⟨rfl, Below.refl _ _⟩
            · have q11 := hW 11 (by decide)
              simp only at q11
              rw [q11]
              clear hW
              exact stepAt_skip rfl rfl rfl ⟨rfl, Below.refl _ _⟩
            · have q19 := hW 19 (by decide)
              simp only at q19
              rw [q19]
              clear hW
              exact stepAt_skip rfl rfl rfl ⟨rfl, Below.refl _ _⟩
            · have q19 := hW 19 (by decide)
              simp only at q19
              rw [q19]
              clear hW
              exact stepAt_skip rfl rfl rfl ⟨rfl, Below.refl _ _⟩
            · have q19 := hW 19 (by decide)
              simp only at q19
              rw [q19]
              clear hW
              exact stepAt_skip rfl rfl rfl ⟨rfl, Below.refl _ _⟩
            · have q19 := hW 19 (by decide)
              simp only at q19
              rw [q19]
              clear hW
              exact stepAt_skip rfl rfl rfl ⟨rfl, Below.refl _ _⟩
            · have q19 := hW 19 (by decide)
              simp only at q19
              rw [q19]
              clear hW
              exact stepAt_skip rfl rfl rfl ⟨rfl, Below.refl _ _⟩
            · have q19 := hW 19 (by decide)
              simp only at q19
              rw [q19]
              clear hW
              exact stepAt_skip rfl rfl rfl ⟨rfl, Below.refl _ _⟩
            · have q19 := hW 19 (by decide)
              simp only at q19
              rw [q19]
              clear hW
              exact stepAt_skip rfl rfl rfl ⟨rfl, Below.refl _ _⟩
            · have q19 := hW 19 (by decide)
              simp only at q19
              rw [q19]
              clear hW
              exact stepAt_skip rfl rfl rfl ⟨rfl, Below.refl _ _⟩
            · have q19 := hW 19 (by decide)
              simp only at q19
              rw [q19]
              clear hW
              exact stepAt_skip rfl rfl rfl ⟨rfl, Below.refl _ _⟩
            · have q19 := hW 19 (by decide)
              simp only at q19
              rw [q19]
              clear hW
              exact stepAt_skip rfl rfl rfl ⟨rfl, Below.refl _ _⟩
            · have q19 := hW 19 (by decide)
              simp only at q19
              rw [q19]
              clear hW
              exact stepAt_skip rfl rfl rfl ⟨rfl, Below.refl _ _⟩
            · have q19 := hW 19 (by decide)
              simp only at q19
              rw [q19]
              clear hW
              exact stepAt_skip rfl rfl rfl ⟨rfl, Below.refl _ _⟩
            · have q19 := hW 19 (by decide)
              simp only at q19
              rw [q19]
              clear hW
              exact stepAt_skip rfl rfl rfl ⟨rfl, Below.refl _ _⟩
            · have q19 := hW 19 (by decide)
              simp only at q19
              rw [q19]
              clear hW
              exact stepAt_skip rfl rfl rfl ⟨rfl, Below.refl _ _⟩
            · have q19 := hW 19 (by decide)
              simp only at q19
              rw [q19]
              clear hW
              exact stepAt_skip rfl rfl rfl ⟨rfl, Below.refl _ _⟩
            · have q19 := hW 19 (by decide)
              simp only at q19
              rw [q19]
              clear hW
              exact stepAt_skip rfl rfl rfl ⟨rfl, Below.refl _ _⟩
            · have q19 := hW 19 (by decide)
              simp only at q19
              rw [q19]
              clear hW
              exact stepAt_skip rfl rfl rfl ⟨rfl, Below.refl _ _⟩
            · have q19 := hW 19 (by decide)
              simp only at q19
              rw [q19]
              clear hW
              exact stepAt_skip rfl rfl rfl ⟨rfl, Below.refl _ _⟩
            · have q19 := hW 19 (by decide)
              simp only at q19
              rw [q19]
              clear hW
              exact stepAt_skip rfl rfl rfl ⟨rfl, Below.refl _ _⟩
            · have q19 := hW 19 (by decide)
              simp only at q19
              rw [q19]
              clear hW
              exact stepAt_skip rfl rfl rfl ⟨rfl, Below.refl _ _⟩
            · have q19 := hW 19 (by decide)
              simp only at q19
              rw [q19]
              clear hW
              exact stepAt_skip rfl rfl rfl ⟨rfl, Below.refl _ _⟩
            · have q11 := hW 11 (by decide)
              simp only at q11
              rw [q11]
              clear hW
              exact stepAt_skip rfl rfl rfl ⟨rfl, Below.refl _ _⟩
            · have q11 := hW 11 (by decide)
              simp only at q11
              have q41 := hW 41 (by decide)
              simp only at q41
              rw [q11, q41]
              clear hW
              refine stepAt_value rfl rfl rfl (.bool true) w8 ?_ ⟨rfl, Below.refl _ _⟩
              go_simp
          case fin =>
            intro vals w9 hG hV
            have q42 := hV 42 (by omega)
            simp only at q42
            simp only [List.take_succ_cons, List.take_zero, List.drop_succ_cons, List.drop_zero, putAll, Act.put, List.setIfInBounds_toArray, List.set_cons_zero, List.set_cons_succ, Nat.reduceAdd]
            rw [q42]
            clear hV q42
            generalize vals 0 = y0
            generalize vals 1 = y1
            generalize vals 2 = y2
            generalize vals 3 = y3
            generalize vals 4 = y4
            generalize vals 5 = y5
            generalize vals 6 = y6
            generalize vals 7 = y7
            generalize vals 8 = y8
            generalize vals 9 = y9
            generalize vals 10 = y10
            generalize vals 11 = y11
            generalize vals 12 = y12
            generalize vals 13 = y13
            generalize vals 14 = y14
            generalize vals 15 = y15
            generalize vals 16 = y16
            generalize vals 17 = y17
            generalize vals 18 = y18
            generalize vals 19 = y19
            generalize vals 20 = y20
            generalize vals 21 = y21
            generalize vals 22 = y22
            generalize vals 23 = y23
            generalize vals 24 = y24
            generalize vals 25 = y25
            generalize vals 26 = y26
            generalize vals 27 = y27
            generalize vals 28 = y28
            generalize vals 29 = y29
            generalize vals 30 = y30
            generalize vals 31 = y31
            generalize vals 32 = y32
            generalize vals 33 = y33
            generalize vals 34 = y34
            generalize vals 35 = y35
            generalize vals 36 = y36
            generalize vals 37 = y37
            generalize vals 38 = y38
            generalize vals 39 = y39
            generalize vals 40 = y40
            generalize vals 41 = y41
            have HQ2 := Lib.hid (HQ.out.trans (hG.mono HQ.out.size))
            clear hG hkc
            go_wp2_with fail
            have hlk := HLT.out
            go_roundw
            case rel => exact ⟨j + 1, by omega, by first | rw [HWJ.out] | rw [Int.natCast_succ], by rw [HNV.out], HQ2⟩
            case measure => first | exact measK L.length j 1 ((j : Int) + 1) (by omega) hlk Nat.zero_lt_one | exact measK L.length j 1 (wrap64 ((j : Int) + 1)) HWJ.out hlk Nat.zero_lt_one
        · have HQO := Lib.hid hqo
          by_cases h1 : wtW t own q < wtW t own k
          · have HNV := Lib.hid (show bfZ t own (L.take (j + 1)) = (k : Int) by rw [HNX.out, hb, nxW, Int.toNat_natCast, if_pos (.inr (by unfold btW; rw [decide_eq_true h1]; rfl))])
            have HGT := Lib.hid h1
            rw [hb]
            clear hb HPL HNX h1 hqo
            go_wp2_with fail
            refine wp_region_free (P := Try.prog) 43 (fun w' => Below wr.heap.size wr w') (fun oq v w' => match oq with
                | 0 => v = .int .i64 (q : Int)
                | 1 => v = .bool false
                | 2 => v = .bool false
                | 3 => v = .pointer (some ⟨rb, 0, none⟩)
                | 4 => v = .int .i64 (k : Int)
                | 5 => v = .int .i64 (wtW t own k)
                | 6 => v = .pointer (some ⟨rb, 0, none⟩)
                | 7 => v = .int .i64 (q : Int)
                | 8 => v = .int .i64 (wtW t own q)
                | 9 => v = .bool true
                | 10 => v = .bool true
                | 11 => v = .bool true
                | 12 => v = undef
                | 13 => v = undef
                | 14 => v = undef
                | 15 => v = undef
                | 16 => v = undef
                | 17 => v = undef
                | 18 => v = undef
                | 19 => v = undef
                | 20 => v = undef
                | 21 => v = undef
                | 22 => v = undef
                | 23 => v = undef
                | 24 => v = undef
                | 25 => v = undef
                | 26 => v = undef
                | 27 => v = undef
                | 28 => v = undef
                | 29 => v = undef
                | 30 => v = undef
                | 31 => v = undef
                | 32 => v = undef
                | 33 => v = undef
                | 34 => v = undef
                | 35 => v = undef
                | 36 => v = undef
                | 37 => v = undef
                | 38 => v = undef
                | 39 => v = undef
                | 40 => v = undef
                | 41 => v = undef
                | 42 => v = .bool true
                | _ => True) (by kernel_rfl) (by kernel_rfl) (Below.refl _ _).drew ?gb ?vb ?steps ?fin
            case gb => exact fun a b h1 h2 => h1.trans (h2.mono h1.size)
            case vb =>
              intro oq v a b h hb
              match oq with
              | 0 => exact h
              | 1 => exact h
              | 2 => exact h
              | 3 => exact h
              | 4 => exact h
              | 5 => exact h
              | 6 => exact h
              | 7 => exact h
              | 8 => exact h
              | 9 => exact h
              | 10 => exact h
              | 11 => exact h
              | 12 => exact h
              | 13 => exact h
              | 14 => exact h
              | 15 => exact h
              | 16 => exact h
              | 17 => exact h
              | 18 => exact h
              | 19 => exact h
              | 20 => exact h
              | 21 => exact h
              | 22 => exact h
              | 23 => exact h
              | 24 => exact h
              | 25 => exact h
              | 26 => exact h
              | 27 => exact h
              | 28 => exact h
              | 29 => exact h
              | 30 => exact h
              | 31 => exact h
              | 32 => exact h
              | 33 => exact h
              | 34 => exact h
              | 35 => exact h
              | 36 => exact h
              | 37 => exact h
              | 38 => exact h
              | 39 => exact h
              | 40 => exact h
              | 41 => exact h
              | 42 => exact h
              | _ + 43 => trivial
            case steps =>
              intro vals
              simp only [List.take_succ_cons, List.take_zero, freeSteps, Act.put, List.setIfInBounds_toArray, List.set_cons_zero, List.set_cons_succ, Nat.reduceAdd]
              refine ⟨fun w8 hG hW => ?_, fun w8 hG hW => ?_, fun w8 hG hW => ?_, fun w8 hG hW => ?_, fun w8 hG hW => ?_, fun w8 hG hW => ?_, fun w8 hG hW => ?_, fun w8 hG hW => ?_, fun w8 hG hW => ?_, fun w8 hG hW => ?_, fun w8 hG hW => ?_, fun w8 hG hW => ?_, fun w8 hG hW => ?_, fun w8 hG hW => ?_, fun w8 hG hW => ?_, fun w8 hG hW => ?_, fun w8 hG hW => ?_, fun w8 hG hW => ?_, fun w8 hG hW => ?_, fun w8 hG hW => ?_, fun w8 hG hW => ?_, fun w8 hG hW => ?_, fun w8 hG hW => ?_, fun w8 hG hW => ?_, fun w8 hG hW => ?_, fun w8 hG hW => ?_, fun w8 hG hW => ?_, fun w8 hG hW => ?_, fun w8 hG hW => ?_, fun w8 hG hW => ?_, fun w8 hG hW => ?_, fun w8 hG hW => ?_, fun w8 hG hW => ?_, fun w8 hG hW => ?_, fun w8 hG hW => ?_, fun w8 hG hW => ?_, fun w8 hG hW => ?_, fun w8 hG hW => ?_, fun w8 hG hW => ?_, fun w8 hG hW => ?_, fun w8 hG hW => ?_, fun w8 hG hW => ?_, fun w8 hG hW => ?_, trivial⟩
              · clear hW
                refine stepAt_value rfl rfl rfl (.int .i64 (q : Int)) w8 ?_ ⟨rfl, Below.refl _ _⟩
                go_simp
              · have q0 := hW 0 (by decide)
                simp only at q0
                rw [q0]
                clear hW
                refine stepAt_value rfl rfl rfl (.bool false) w8 ?_ ⟨rfl, Below.refl _ _⟩
                have hd1 : ¬ ((q : Int) < 0) := by omega
                go_simp
              · have q1 := hW 1 (by decide)
                simp only at q1
                rw [q1]
                clear hW
                refine stepAt_value rfl rfl rfl (.bool false) w8 ?_ ⟨rfl, Below.refl _ _⟩
                go_simp
              · have q2 := hW 2 (by decide)
                simp only at q2
                rw [q2]
                clear hW
                refine stepAt_value rfl rfl rfl (.pointer (some ⟨rb, 0, none⟩)) w8 ?_ ⟨rfl, Below.refl _ _⟩
                go_simp
              · have q2 := hW 2 (by decide)
                simp only at q2
                rw [q2]
                clear hW
                refine stepAt_value rfl rfl rfl (.int .i64 (k : Int)) w8 ?_ ⟨rfl, Below.refl _ _⟩
                go_simp
              · have q2 := hW 2 (by decide)
                simp only at q2
                have q3 := hW 3 (by decide)
                simp only at q3
                have q4 := hW 4 (by decide)
                simp only at q4
                rw [q2, q3, q4]
                clear hW
                refine stepAt_call rfl rfl rfl 55 #[.pointer (some ⟨rb, 0, none⟩), .int .i64 (k : Int)] (by go_simp) ((rsum_any w8 M mb t R rb own most k (HDr.out.below hG) HKO.out).mono fun e w' ⟨h1, h2⟩ => ⟨_, h1, rfl, h2⟩)
              · have q2 := hW 2 (by decide)
                simp only at q2
                rw [q2]
                clear hW
                refine stepAt_value rfl rfl rfl (.pointer (some ⟨rb, 0, none⟩)) w8 ?_ ⟨rfl, Below.refl _ _⟩
                go_simp
              · have q2 := hW 2 (by decide)
                simp only at q2
                rw [q2]
                clear hW
                refine stepAt_value rfl rfl rfl (.int .i64 (q : Int)) w8 ?_ ⟨rfl, Below.refl _ _⟩
                go_simp
              · have q2 := hW 2 (by decide)
                simp only at q2
                have q6 := hW 6 (by decide)
                simp only at q6
                have q7 := hW 7 (by decide)
                simp only at q7
                rw [q2, q6, q7]
                clear hW
                refine stepAt_call rfl rfl rfl 55 #[.pointer (some ⟨rb, 0, none⟩), .int .i64 (q : Int)] (by go_simp) ((rsum_any w8 M mb t R rb own most q (HDr.out.below hG) HQO.out).mono fun e w' ⟨h1, h2⟩ => ⟨_, h1, rfl, h2⟩)
              · have q2 := hW 2 (by decide)
                simp only at q2
                have q5 := hW 5 (by decide)
                simp only at q5
                have q8 := hW 8 (by decide)
                simp only at q8
                rw [q2, q5, q8]
                clear hW
                refine stepAt_value rfl rfl rfl (.bool true) w8 ?_ ⟨rfl, Below.refl _ _⟩
                have hd2 := HGT.out
                go_simp
              · have q2 := hW 2 (by decide)
                simp only at q2
                have q9 := hW 9 (by decide)
                simp only at q9
                rw [q2, q9]
                clear hW
                refine stepAt_value rfl rfl rfl (.bool true) w8 ?_ ⟨rfl, Below.refl _ _⟩
                go_simp
              · have q10 := hW 10 (by decide)
                simp only at q10
                rw [q10]
                clear hW
                refine stepAt_value rfl rfl rfl (.bool true) w8 ?_ ⟨rfl, Below.refl _ _⟩
                go_simp
              · have q11 := hW 11 (by decide)
                simp only at q11
                rw [q11]
                clear hW
                exact stepAt_skip rfl rfl rfl ⟨rfl, Below.refl _ _⟩
              · have q11 := hW 11 (by decide)
                simp only at q11
                rw [q11]
                clear hW
                exact stepAt_skip rfl rfl rfl ⟨rfl, Below.refl _ _⟩
              · have q11 := hW 11 (by decide)
                simp only at q11
                rw [q11]
                clear hW
                exact stepAt_skip rfl rfl rfl ⟨rfl, Below.refl _ _⟩
              · have q11 := hW 11 (by decide)
                simp only at q11
                rw [q11]
                clear hW
                exact stepAt_skip rfl rfl rfl ⟨rfl, Below.refl _ _⟩
              · have q11 := hW 11 (by decide)
                simp only at q11
                rw [q11]
                clear hW
                exact stepAt_skip rfl rfl rfl ⟨rfl, Below.refl _ _⟩
              · have q11 := hW 11 (by decide)
                simp only at q11
                rw [q11]
                clear hW
                exact stepAt_skip rfl rfl rfl ⟨rfl, Below.refl _ _⟩
              · have q11 := hW 11 (by decide)
                simp only at q11
                rw [q11]
                clear hW
                exact stepAt_skip rfl rfl rfl ⟨rfl, Below.refl _ _⟩
              · have q11 := hW 11 (by decide)
                simp only at q11
                rw [q11]
                clear hW
                exact stepAt_skip rfl rfl rfl ⟨rfl, Below.refl _ _⟩
              · have q19 := hW 19 (by decide)
                simp only at q19
                rw [q19]
                clear hW
                exact stepAt_skip rfl rfl rfl ⟨rfl, Below.refl _ _⟩
              · have q19 := hW 19 (by decide)
                simp only at q19
                rw [q19]
                clear hW
                exact stepAt_skip rfl rfl rfl ⟨rfl, Below.refl _ _⟩
              · have q19 := hW 19 (by decide)
                simp only at q19
                rw [q19]
                clear hW
                exact stepAt_skip rfl rfl rfl ⟨rfl, Below.refl _ _⟩
              · have q19 := hW 19 (by decide)
                simp only at q19
                rw [q19]
                clear hW
                exact stepAt_skip rfl rfl rfl ⟨rfl, Below.refl _ _⟩
              · have q19 := hW 19 (by decide)
                simp only at q19
                rw [q19]
                clear hW
                exact stepAt_skip rfl rfl rfl ⟨rfl, Below.refl _ _⟩
              · have q19 := hW 19 (by decide)
                simp only at q19
                rw [q19]
                clear hW
                exact stepAt_skip rfl rfl rfl ⟨rfl, Below.refl _ _⟩
              · have q19 := hW 19 (by decide)
                simp only at q19
                rw [q19]
                clear hW
                exact stepAt_skip rfl rfl rfl ⟨rfl, Below.refl _ _⟩
              · have q19 := hW 19 (by decide)
                simp only at q19
                rw [q19]
                clear hW
                exact stepAt_skip rfl rfl rfl ⟨rfl, Below.refl _ _⟩
              · have q19 := hW 19 (by decide)
                simp only at q19
                rw [q19]
                clear hW
                exact stepAt_skip rfl rfl rfl ⟨rfl, Below.refl _ _⟩
              · have q19 := hW 19 (by decide)
                simp only at q19
                rw [q19]
                clear hW
                exact stepAt_skip rfl rfl rfl ⟨rfl, Below.refl _ _⟩
              · have q19 := hW 19 (by decide)
                simp only at q19
                rw [q19]
                clear hW
                exact stepAt_skip rfl rfl rfl ⟨rfl, Below.refl _ _⟩
              · have q19 := hW 19 (by decide)
                simp only at q19
                rw [q19]
                clear hW
                exact stepAt_skip rfl rfl rfl ⟨rfl, Below.refl _ _⟩
              · have q19 := hW 19 (by decide)
                simp only at q19
                rw [q19]
                clear hW
                exact stepAt_skip rfl rfl rfl ⟨rfl, Below.refl _ _⟩
              · have q19 := hW 19 (by decide)
                simp only at q19
                rw [q19]
                clear hW
                exact stepAt_skip rfl rfl rfl ⟨rfl, Below.refl _ _⟩
              · have q19 := hW 19 (by decide)
                simp only at q19
                rw [q19]
                clear hW
                exact stepAt_skip rfl rfl rfl ⟨rfl, Below.refl _ _⟩
              · have q19 := hW 19 (by decide)
                simp only at q19
                rw [q19]
                clear hW
                exact stepAt_skip rfl rfl rfl ⟨rfl, Below.refl _ _⟩
              · have q19 := hW 19 (by decide)
                simp only at q19
                rw [q19]
                clear hW
                exact stepAt_skip rfl rfl rfl ⟨rfl, Below.refl _ _⟩
              · have q19 := hW 19 (by decide)
                simp only at q19
                rw [q19]
                clear hW
                exact stepAt_skip rfl rfl rfl ⟨rfl, Below.refl _ _⟩
              · have q19 := hW 19 (by decide)
                simp only at q19
                rw [q19]
                clear hW
                exact stepAt_skip rfl rfl rfl ⟨rfl, Below.refl _ _⟩
              · have q19 := hW 19 (by decide)
                simp only at q19
                rw [q19]
                clear hW
                exact stepAt_skip rfl rfl rfl ⟨rfl, Below.refl _ _⟩
              · have q19 := hW 19 (by decide)
                simp only at q19
                rw [q19]
                clear hW
                exact stepAt_skip rfl rfl rfl ⟨rfl, Below.refl _ _⟩
              · have q11 := hW 11 (by decide)
                simp only at q11
                rw [q11]
                clear hW
                exact stepAt_skip rfl rfl rfl ⟨rfl, Below.refl _ _⟩
              · have q11 := hW 11 (by decide)
                simp only at q11
                have q41 := hW 41 (by decide)
                simp only at q41
                rw [q11, q41]
                clear hW
                refine stepAt_value rfl rfl rfl (.bool true) w8 ?_ ⟨rfl, Below.refl _ _⟩
                go_simp
            case fin =>
              intro vals w9 hG hV
              have q42 := hV 42 (by omega)
              simp only at q42
              simp only [List.take_succ_cons, List.take_zero, List.drop_succ_cons, List.drop_zero, putAll, Act.put, List.setIfInBounds_toArray, List.set_cons_zero, List.set_cons_succ, Nat.reduceAdd]
              rw [q42]
              clear hV q42
              generalize vals 0 = y0
              generalize vals 1 = y1
              generalize vals 2 = y2
              generalize vals 3 = y3
              generalize vals 4 = y4
              generalize vals 5 = y5
              generalize vals 6 = y6
              generalize vals 7 = y7
              generalize vals 8 = y8
              generalize vals 9 = y9
              generalize vals 10 = y10
              generalize vals 11 = y11
              generalize vals 12 = y12
              generalize vals 13 = y13
              generalize vals 14 = y14
              generalize vals 15 = y15
              generalize vals 16 = y16
              generalize vals 17 = y17
              generalize vals 18 = y18
              generalize vals 19 = y19
              generalize vals 20 = y20
              generalize vals 21 = y21
              generalize vals 22 = y22
              generalize vals 23 = y23
              generalize vals 24 = y24
              generalize vals 25 = y25
              generalize vals 26 = y26
              generalize vals 27 = y27
              generalize vals 28 = y28
              generalize vals 29 = y29
              generalize vals 30 = y30
              generalize vals 31 = y31
              generalize vals 32 = y32
              generalize vals 33 = y33
              generalize vals 34 = y34
              generalize vals 35 = y35
              generalize vals 36 = y36
              generalize vals 37 = y37
              generalize vals 38 = y38
              generalize vals 39 = y39
              generalize vals 40 = y40
              generalize vals 41 = y41
              have HQ2 := Lib.hid (HQ.out.trans (hG.mono HQ.out.size))
              clear hG hkc
              go_wp2_with fail
              have hlk := HLT.out
              go_roundw
              case rel => exact ⟨j + 1, by omega, by first | rw [HWJ.out] | rw [Int.natCast_succ], by rw [HNV.out], HQ2⟩
              case measure => first | exact measK L.length j 1 ((j : Int) + 1) (by omega) hlk Nat.zero_lt_one | exact measK L.length j 1 (wrap64 ((j : Int) + 1)) HWJ.out hlk Nat.zero_lt_one
          · by_cases h2 : wtW t own k = wtW t own q
            · obtain ⟨ls, hls⟩ : ∃ ls, lessB (pnm t (q : Int)) (pnm t (k : Int)) = ls := ⟨_, rfl⟩
              have HNV := Lib.hid (show bfZ t own (L.take (j + 1)) = if ls = true then (k : Int) else (q : Int) by
                rw [HNX.out, hb, nxW, Int.toNat_natCast]
                unfold btW
                rw [decide_eq_false h1, decide_eq_true h2, hls]
                have : ¬ ((q : Int) < 0) := by omega
                cases ls <;> simp [this])
              have HLS := Lib.hid hls
              have HGT := Lib.hid (show ¬ wtW t own q < wtW t own q by omega)
              have HNQ := Lib.hid (HGD.out.pnm_len (q : Int))
              have HNK := Lib.hid (HGD.out.pnm_len (k : Int))
              obtain ⟨nq, hnq⟩ : ∃ n, t[q]? = some n := ⟨_, List.getElem?_eq_getElem (by have := HOL.out; omega)⟩
              obtain ⟨nk, hnk⟩ : ∃ n, t[k]? = some n := ⟨_, List.getElem?_eq_getElem (by have := HOL.out; have := HKO.out; omega)⟩
              obtain ⟨hba, hcq⟩ := HTS.out.l1.name HGD.out.rts (rs_at hnq)
              obtain ⟨_, hck⟩ := HTS.out.l1.name HGD.out.rts (rs_at hnk)
              subst hba
              rw [← pnm_at hnq] at hcq
              rw [← pnm_at hnk] at hck
              have HCQ := Lib.hid hcq
              have HCK := Lib.hid hck
              have HIQ := Lib.hid (show (q : Int) < (t.length : Int) by have := HOL.out; omega)
              have HIK := Lib.hid (show (k : Int) < (t.length : Int) by have := HOL.out; have := HKO.out; omega)
              have HE := Lib.hid h2
              rw [hb]
              clear hb HPL HNX h1 h2 hqo hls hnq hnk hcq hck
              cases ls
              · rw [if_neg (by decide)] at HNV
                go_wp2_with fail
                refine wp_region_free (P := Try.prog) 43 (fun w' => Below wr.heap.size wr w') (fun oq v w' => match oq with
                    | 0 => v = .int .i64 (q : Int)
                    | 1 => v = .bool false
                    | 2 => v = .bool false
                    | 3 => v = .pointer (some ⟨rb, 0, none⟩)
                    | 4 => v = .int .i64 (k : Int)
                    | 5 => v = .int .i64 (wtW t own q)
                    | 6 => v = .pointer (some ⟨rb, 0, none⟩)
                    | 7 => v = .int .i64 (q : Int)
                    | 8 => v = .int .i64 (wtW t own q)
                    | 9 => v = .bool false
                    | 10 => v = .bool false
                    | 11 => v = .bool false
                    | 12 => v = .pointer (some ⟨rb, 0, none⟩)
                    | 13 => v = .int .i64 (k : Int)
                    | 14 => v = .int .i64 (wtW t own q)
                    | 15 => v = .pointer (some ⟨rb, 0, none⟩)
                    | 16 => v = .int .i64 (q : Int)
                    | 17 => v = .int .i64 (wtW t own q)
                    | 18 => v = .bool true
                    | 19 => v = .bool true
                    | 20 => v = .pointer (some ⟨rb, 0, none⟩)
                    | 21 => v = .pointer (some ⟨rb, 0, none⟩)
                    | 22 => v = .pointer (some ⟨rb, 0, none⟩)
                    | 23 => v = .pointer (some ⟨mb, 0, none⟩)
                    | 24 => v = .pointer (some ⟨mb, 0, none⟩)
                    | 25 => v = .pointer (some ⟨mb, 0, none⟩)
                    | 26 => v = .slice (some ⟨bg1, bo1, none⟩) t.length bc1
                    | 27 => v = .int .i64 (q : Int)
                    | 28 => v = .pointer (some ⟨bg1, bo1 + q * 32, none⟩)
                    | 29 => v = .agg (bv (pnm t (q : Int))).toArray
                    | 30 => v = .pointer (some ⟨rb, 0, none⟩)
                    | 31 => v = .pointer (some ⟨rb, 0, none⟩)
                    | 32 => v = .pointer (some ⟨rb, 0, none⟩)
                    | 33 => v = .pointer (some ⟨mb, 0, none⟩)
                    | 34 => v = .pointer (some ⟨mb, 0, none⟩)
                    | 35 => v = .pointer (some ⟨mb, 0, none⟩)
                    | 36 => v = .slice (some ⟨bg1, bo1, none⟩) t.length bc1
                    | 37 => v = .int .i64 (k : Int)
                    | 38 => v = .pointer (some ⟨bg1, bo1 + k * 32, none⟩)
                    | 39 => v = .agg (bv (pnm t (k : Int))).toArray
                    | 40 => v = .bool false
                    | 41 => v = .bool false
                    | 42 => v = .bool false
                    | _ => True) (by kernel_rfl) (by kernel_rfl) (Below.refl _ _).drew ?gb ?vb ?steps ?fin
                case gb => exact fun a b h1 h2 => h1.trans (h2.mono h1.size)
                case vb =>
                  intro oq v a b h hb
                  match oq with
                  | 0 => exact h
                  | 1 => exact h
                  | 2 => exact h
                  | 3 => exact h
                  | 4 => exact h
                  | 5 => exact h
                  | 6 => exact h
                  | 7 => exact h
                  | 8 => exact h
                  | 9 => exact h
                  | 10 => exact h
                  | 11 => exact h
                  | 12 => exact h
                  | 13 => exact h
                  | 14 => exact h
                  | 15 => exact h
                  | 16 => exact h
                  | 17 => exact h
                  | 18 => exact h
                  | 19 => exact h
                  | 20 => exact h
                  | 21 => exact h
                  | 22 => exact h
                  | 23 => exact h
                  | 24 => exact h
                  | 25 => exact h
                  | 26 => exact h
                  | 27 => exact h
                  | 28 => exact h
                  | 29 => exact h
                  | 30 => exact h
                  | 31 => exact h
                  | 32 => exact h
                  | 33 => exact h
                  | 34 => exact h
                  | 35 => exact h
                  | 36 => exact h
                  | 37 => exact h
                  | 38 => exact h
                  | 39 => exact h
                  | 40 => exact h
                  | 41 => exact h
                  | 42 => exact h
                  | _ + 43 => trivial
                case steps =>
                  intro vals
                  simp only [List.take_succ_cons, List.take_zero, freeSteps, Act.put, List.setIfInBounds_toArray, List.set_cons_zero, List.set_cons_succ, Nat.reduceAdd]
                  refine ⟨fun w8 hG hW => ?_, fun w8 hG hW => ?_, fun w8 hG hW => ?_, fun w8 hG hW => ?_, fun w8 hG hW => ?_, fun w8 hG hW => ?_, fun w8 hG hW => ?_, fun w8 hG hW => ?_, fun w8 hG hW => ?_, fun w8 hG hW => ?_, fun w8 hG hW => ?_, fun w8 hG hW => ?_, fun w8 hG hW => ?_, fun w8 hG hW => ?_, fun w8 hG hW => ?_, fun w8 hG hW => ?_, fun w8 hG hW => ?_, fun w8 hG hW => ?_, fun w8 hG hW => ?_, fun w8 hG hW => ?_, fun w8 hG hW => ?_, fun w8 hG hW => ?_, fun w8 hG hW => ?_, fun w8 hG hW => ?_, fun w8 hG hW => ?_, fun w8 hG hW => ?_, fun w8 hG hW => ?_, fun w8 hG hW => ?_, fun w8 hG hW => ?_, fun w8 hG hW => ?_, fun w8 hG hW => ?_, fun w8 hG hW => ?_, fun w8 hG hW => ?_, fun w8 hG hW => ?_, fun w8 hG hW => ?_, fun w8 hG hW => ?_, fun w8 hG hW => ?_, fun w8 hG hW => ?_, fun w8 hG hW => ?_, fun w8 hG hW => ?_, fun w8 hG hW => ?_, fun w8 hG hW => ?_, fun w8 hG hW => ?_, trivial⟩
                  · clear hW
                    refine stepAt_value rfl rfl rfl (.int .i64 (q : Int)) w8 ?_ ⟨rfl, Below.refl _ _⟩
                    go_simp
                  · have q0 := hW 0 (by decide)
                    simp only at q0
                    rw [q0]
                    clear hW
                    refine stepAt_value rfl rfl rfl (.bool false) w8 ?_ ⟨rfl, Below.refl _ _⟩
                    have hd1 : ¬ ((q : Int) < 0) := by omega
                    go_simp
                  · have q1 := hW 1 (by decide)
                    simp only at q1
                    rw [q1]
                    clear hW
                    refine stepAt_value rfl rfl rfl (.bool false) w8 ?_ ⟨rfl, Below.refl _ _⟩
                    go_simp
                  · have q2 := hW 2 (by decide)
                    simp only at q2
                    rw [q2]
                    clear hW
                    refine stepAt_value rfl rfl rfl (.pointer (some ⟨rb, 0, none⟩)) w8 ?_ ⟨rfl, Below.refl _ _⟩
                    go_simp
                  · have q2 := hW 2 (by decide)
                    simp only at q2
                    rw [q2]
                    clear hW
                    refine stepAt_value rfl rfl rfl (.int .i64 (k : Int)) w8 ?_ ⟨rfl, Below.refl _ _⟩
                    go_simp
                  · have q2 := hW 2 (by decide)
                    simp only at q2
                    have q3 := hW 3 (by decide)
                    simp only at q3
                    have q4 := hW 4 (by decide)
                    simp only at q4
                    rw [q2, q3, q4]
                    clear hW
                    refine stepAt_call rfl rfl rfl 55 #[.pointer (some ⟨rb, 0, none⟩), .int .i64 (k : Int)] (by go_simp) ((rsum_any w8 M mb t R rb own most k (HDr.out.below hG) HKO.out).mono fun e w' ⟨h1, h2⟩ => ⟨_, h1, by rw [HE.out], h2⟩)
                  · have q2 := hW 2 (by decide)
                    simp only at q2
                    rw [q2]
                    clear hW
                    refine stepAt_value rfl rfl rfl (.pointer (some ⟨rb, 0, none⟩)) w8 ?_ ⟨rfl, Below.refl _ _⟩
                    go_simp
                  · have q2 := hW 2 (by decide)
                    simp only at q2
                    rw [q2]
                    clear hW
                    refine stepAt_value rfl rfl rfl (.int .i64 (q : Int)) w8 ?_ ⟨rfl, Below.refl _ _⟩
                    go_simp
                  · have q2 := hW 2 (by decide)
                    simp only at q2
                    have q6 := hW 6 (by decide)
                    simp only at q6
                    have q7 := hW 7 (by decide)
                    simp only at q7
                    rw [q2, q6, q7]
                    clear hW
                    refine stepAt_call rfl rfl rfl 55 #[.pointer (some ⟨rb, 0, none⟩), .int .i64 (q : Int)] (by go_simp) ((rsum_any w8 M mb t R rb own most q (HDr.out.below hG) HQO.out).mono fun e w' ⟨h1, h2⟩ => ⟨_, h1, rfl, h2⟩)
                  · have q2 := hW 2 (by decide)
                    simp only at q2
                    have q5 := hW 5 (by decide)
                    simp only at q5
                    have q8 := hW 8 (by decide)
                    simp only at q8
                    rw [q2, q5, q8]
                    clear hW
                    refine stepAt_value rfl rfl rfl (.bool false) w8 ?_ ⟨rfl, Below.refl _ _⟩
                    have hd2 := HGT.out
                    go_simp
                  · have q2 := hW 2 (by decide)
                    simp only at q2
                    have q9 := hW 9 (by decide)
                    simp only at q9
                    rw [q2, q9]
                    clear hW
                    refine stepAt_value rfl rfl rfl (.bool false) w8 ?_ ⟨rfl, Below.refl _ _⟩
                    go_simp
                  · have q10 := hW 10 (by decide)
                    simp only at q10
                    rw [q10]
                    clear hW
                    refine stepAt_value rfl rfl rfl (.bool false) w8 ?_ ⟨rfl, Below.refl _ _⟩
                    go_simp
                  · have q11 := hW 11 (by decide)
                    simp only at q11
                    rw [q11]
                    clear hW
                    refine stepAt_value rfl rfl rfl (.pointer (some ⟨rb, 0, none⟩)) w8 ?_ ⟨rfl, Below.refl _ _⟩
                    go_simp
                  · have q11 := hW 11 (by decide)
                    simp only at q11
                    rw [q11]
                    clear hW
                    refine stepAt_value rfl rfl rfl (.int .i64 (k : Int)) w8 ?_ ⟨rfl, Below.refl _ _⟩
                    go_simp
                  · have q11 := hW 11 (by decide)
                    simp only at q11
                    have q12 := hW 12 (by decide)
                    simp only at q12
                    have q13 := hW 13 (by decide)
                    simp only at q13
                    rw [q11, q12, q13]
                    clear hW
                    refine stepAt_call rfl rfl rfl 55 #[.pointer (some ⟨rb, 0, none⟩), .int .i64 (k : Int)] (by go_simp) ((rsum_any w8 M mb t R rb own most k (HDr.out.below hG) HKO.out).mono fun e w' ⟨h1, h2⟩ => ⟨_, h1, by rw [HE.out], h2⟩)
                  · have q11 := hW 11 (by decide)
                    simp only at q11
                    rw [q11]
                    clear hW
                    refine stepAt_value rfl rfl rfl (.pointer (some ⟨rb, 0, none⟩)) w8 ?_ ⟨rfl, Below.refl _ _⟩
                    go_simp
                  · have q11 := hW 11 (by decide)
                    simp only at q11
                    rw [q11]
                    clear hW
                    refine stepAt_value rfl rfl rfl (.int .i64 (q : Int)) w8 ?_ ⟨rfl, Below.refl _ _⟩
                    go_simp
                  · have q11 := hW 11 (by decide)
                    simp only at q11
                    have q15 := hW 15 (by decide)
                    simp only at q15
                    have q16 := hW 16 (by decide)
                    simp only at q16
                    rw [q11, q15, q16]
                    clear hW
                    refine stepAt_call rfl rfl rfl 55 #[.pointer (some ⟨rb, 0, none⟩), .int .i64 (q : Int)] (by go_simp) ((rsum_any w8 M mb t R rb own most q (HDr.out.below hG) HQO.out).mono fun e w' ⟨h1, h2⟩ => ⟨_, h1, rfl, h2⟩)
                  · have q11 := hW 11 (by decide)
                    simp only at q11
                    have q14 := hW 14 (by decide)
                    simp only at q14
                    have q17 := hW 17 (by decide)
                    simp only at q17
                    rw [q11, q14, q17]
                    clear hW
                    refine stepAt_value rfl rfl rfl (.bool true) w8 ?_ ⟨rfl, Below.refl _ _⟩
                    have hd3 : (wtW t own q == wtW t own q) = true := beq_self_eq_true _
                    go_simp
                  · have q11 := hW 11 (by decide)
                    simp only at q11
                    have q18 := hW 18 (by decide)
                    simp only at q18
                    rw [q11, q18]
                    clear hW
                    refine stepAt_value rfl rfl rfl (.bool true) w8 ?_ ⟨rfl, Below.refl _ _⟩
                    go_simp
                  · have q19 := hW 19 (by decide)
                    simp only at q19
                    rw [q19]
                    clear hW
                    refine stepAt_value rfl rfl rfl (.pointer (some ⟨rb, 0, none⟩)) w8 ?_ ⟨rfl, Below.refl _ _⟩
                    go_simp
                  · have q19 := hW 19 (by decide)
                    simp only at q19
                    have q20 := hW 20 (by decide)
                    simp only at q20
                    rw [q19, q20]
                    clear hW
                    refine stepAt_value rfl rfl rfl (.pointer (some ⟨rb, 0, none⟩)) w8 ?_ ⟨rfl, Below.refl _ _⟩
                    go_simp
                  · have q19 := hW 19 (by decide)
                    simp only at q19
                    have q21 := hW 21 (by decide)
                    simp only at q21
                    rw [q19, q21]
                    clear hW
                    refine stepAt_value rfl rfl rfl (.pointer (some ⟨rb, 0, none⟩)) w8 ?_ ⟨rfl, Below.refl _ _⟩
                    go_simp
                  · have q19 := hW 19 (by decide)
                    simp only at q19
                    have q22 := hW 22 (by decide)
                    simp only at q22
                    rw [q19, q22]
                    clear hW
                    refine stepAt_value rfl rfl rfl (.pointer (some ⟨mb, 0, none⟩)) w8 ?_ ⟨rfl, Below.refl _ _⟩
                    have hh := (HS.out.below hG).cell0
                    go_simp
                  · have q19 := hW 19 (by decide)
                    simp only at q19
                    have q23 := hW 23 (by decide)
                    simp only at q23
                    rw [q19, q23]
                    clear hW
                    refine stepAt_value rfl rfl rfl (.pointer (some ⟨mb, 0, none⟩)) w8 ?_ ⟨rfl, Below.refl _ _⟩
                    go_simp
                  · have q19 := hW 19 (by decide)
                    simp only at q19
                    have q24 := hW 24 (by decide)
                    simp only at q24
                    rw [q19, q24]
                    clear hW
                    refine stepAt_value rfl rfl rfl (.pointer (some ⟨mb, 0, none⟩)) w8 ?_ ⟨rfl, Below.refl _ _⟩
                    go_simp
                  · have q19 := hW 19 (by decide)
                    simp only at q19
                    have q25 := hW 25 (by decide)
                    simp only at q25
                    rw [q19, q25]
                    clear hW
                    refine stepAt_value rfl rfl rfl (.slice (some ⟨bg1, bo1, none⟩) t.length bc1) w8 ?_ ⟨rfl, Below.refl _ _⟩
                    have hh := (HTS.out.below hG).cell0
                    go_simp
                  · have q19 := hW 19 (by decide)
                    simp only at q19
                    rw [q19]
                    clear hW
                    refine stepAt_value rfl rfl rfl (.int .i64 (q : Int)) w8 ?_ ⟨rfl, Below.refl _ _⟩
                    go_simp
                  · have q19 := hW 19 (by decide)
                    simp only at q19
                    have q26 := hW 26 (by decide)
                    simp only at q26
                    have q27 := hW 27 (by decide)
                    simp only at q27
                    rw [q19, q26, q27]
                    clear hW
                    refine stepAt_value rfl rfl rfl (.pointer (some ⟨bg1, bo1 + q * 32, none⟩)) w8 ?_ ⟨rfl, Below.refl _ _⟩
                    have hil := HIQ.out
                    go_simp
                  · have q19 := hW 19 (by decide)
                    simp only at q19
                    have q28 := hW 28 (by decide)
                    simp only at q28
                    rw [q19, q28]
                    clear hW
                    exact stepAt_load_run rfl rfl rfl _ _ rfl _ _ rfl (run_load_root HNQ.out (fun j' v' hj' => (hG.cell (World.block_lt_of_cell? wr _ (HCQ.out j' v' hj'))).trans (HCQ.out j' v' hj'))) ⟨rfl, Below.refl _ _⟩
                  · have q19 := hW 19 (by decide)
                    simp only at q19
                    rw [q19]
                    clear hW
                    refine stepAt_value rfl rfl rfl (.pointer (some ⟨rb, 0, none⟩)) w8 ?_ ⟨rfl, Below.refl _ _⟩
                    go_simp
                  · have q19 := hW 19 (by decide)
                    simp only at q19
                    have q30 := hW 30 (by decide)
                    simp only at q30
                    rw [q19, q30]
                    clear hW
                    refine stepAt_value rfl rfl rfl (.pointer (some ⟨rb, 0, none⟩)) w8 ?_ ⟨rfl, Below.refl _ _⟩
                    go_simp
                  · have q19 := hW 19 (by decide)
                    simp only at q19
                    have q31 := hW 31 (by decide)
                    simp only at q31
                    rw [q19, q31]
                    clear hW
                    refine stepAt_value rfl rfl rfl (.pointer (some ⟨rb, 0, none⟩)) w8 ?_ ⟨rfl, Below.refl _ _⟩
                    go_simp
                  · have q19 := hW 19 (by decide)
                    simp only at q19
                    have q32 := hW 32 (by decide)
                    simp only at q32
                    rw [q19, q32]
                    clear hW
                    refine stepAt_value rfl rfl rfl (.pointer (some ⟨mb, 0, none⟩)) w8 ?_ ⟨rfl, Below.refl _ _⟩
                    have hh := (HS.out.below hG).cell0
                    go_simp
                  · have q19 := hW 19 (by decide)
                    simp only at q19
                    have q33 := hW 33 (by decide)
                    simp only at q33
                    rw [q19, q33]
                    clear hW
                    refine stepAt_value rfl rfl rfl (.pointer (some ⟨mb, 0, none⟩)) w8 ?_ ⟨rfl, Below.refl _ _⟩
                    go_simp
                  · have q19 := hW 19 (by decide)
                    simp only at q19
                    have q34 := hW 34 (by decide)
                    simp only at q34
                    rw [q19, q34]
                    clear hW
                    refine stepAt_value rfl rfl rfl (.pointer (some ⟨mb, 0, none⟩)) w8 ?_ ⟨rfl, Below.refl _ _⟩
                    go_simp
                  · have q19 := hW 19 (by decide)
                    simp only at q19
                    have q35 := hW 35 (by decide)
                    simp only at q35
                    rw [q19, q35]
                    clear hW
                    refine stepAt_value rfl rfl rfl (.slice (some ⟨bg1, bo1, none⟩) t.length bc1) w8 ?_ ⟨rfl, Below.refl _ _⟩
                    have hh := (HTS.out.below hG).cell0
                    go_simp
                  · have q19 := hW 19 (by decide)
                    simp only at q19
                    rw [q19]
                    clear hW
                    refine stepAt_value rfl rfl rfl (.int .i64 (k : Int)) w8 ?_ ⟨rfl, Below.refl _ _⟩
                    go_simp
                  · have q19 := hW 19 (by decide)
                    simp only at q19
                    have q36 := hW 36 (by decide)
                    simp only at q36
                    have q37 := hW 37 (by decide)
                    simp only at q37
                    rw [q19, q36, q37]
                    clear hW
                    refine stepAt_value rfl rfl rfl (.pointer (some ⟨bg1, bo1 + k * 32, none⟩)) w8 ?_ ⟨rfl, Below.refl _ _⟩
                    have hil := HIK.out
                    go_simp
                  · have q19 := hW 19 (by decide)
                    simp only at q19
                    have q38 := hW 38 (by decide)
                    simp only at q38
                    rw [q19, q38]
                    clear hW
                    exact stepAt_load_run rfl rfl rfl _ _ rfl _ _ rfl (run_load_root HNK.out (fun j' v' hj' => (hG.cell (World.block_lt_of_cell? wr _ (HCK.out j' v' hj'))).trans (HCK.out j' v' hj'))) ⟨rfl, Below.refl _ _⟩
                  · have q19 := hW 19 (by decide)
                    simp only at q19
                    have q29 := hW 29 (by decide)
                    simp only at q29
                    have q39 := hW 39 (by decide)
                    simp only at q39
                    rw [q19, q29, q39]
                    clear hW
                    refine stepAt_call rfl rfl rfl 56 #[.agg (bv (pnm t (q : Int))).toArray, .agg (bv (pnm t (k : Int))).toArray] (by go_simp) ((refless_any w8 (pnm t (q : Int)) (pnm t (k : Int)) HNQ.out HNK.out).mono fun e w' ⟨h1, h2⟩ => ⟨_, h1, by rw [HLS.out], h2⟩)
                  · have q11 := hW 11 (by decide)
                    simp only at q11
                    have q19 := hW 19 (by decide)
                    simp only at q19
                    have q40 := hW 40 (by decide)
                    simp only at q40
                    rw [q11, q19, q40]
                    clear hW
                    refine stepAt_value rfl rfl rfl (.bool false) w8 ?_ ⟨rfl, Below.refl _ _⟩
                    go_simp
                  · have q11 := hW 11 (by decide)
                    simp only at q11
                    have q41 := hW 41 (by decide)
                    simp only at q41
                    rw [q11, q41]
                    clear hW
                    refine stepAt_value rfl rfl rfl (.bool false) w8 ?_ ⟨rfl, Below.refl _ _⟩
                    go_simp
                case fin =>
                  intro vals w9 hG hV
                  have q42 := hV 42 (by omega)
                  simp only at q42
                  simp only [List.take_succ_cons, List.take_zero, List.drop_succ_cons, List.drop_zero, putAll, Act.put, List.setIfInBounds_toArray, List.set_cons_zero, List.set_cons_succ, Nat.reduceAdd]
                  rw [q42]
                  clear hV q42
                  generalize vals 0 = y0
                  generalize vals 1 = y1
                  generalize vals 2 = y2
                  generalize vals 3 = y3
                  generalize vals 4 = y4
                  generalize vals 5 = y5
                  generalize vals 6 = y6
                  generalize vals 7 = y7
                  generalize vals 8 = y8
                  generalize vals 9 = y9
                  generalize vals 10 = y10
                  generalize vals 11 = y11
                  generalize vals 12 = y12
                  generalize vals 13 = y13
                  generalize vals 14 = y14
                  generalize vals 15 = y15
                  generalize vals 16 = y16
                  generalize vals 17 = y17
                  generalize vals 18 = y18
                  generalize vals 19 = y19
                  generalize vals 20 = y20
                  generalize vals 21 = y21
                  generalize vals 22 = y22
                  generalize vals 23 = y23
                  generalize vals 24 = y24
                  generalize vals 25 = y25
                  generalize vals 26 = y26
                  generalize vals 27 = y27
                  generalize vals 28 = y28
                  generalize vals 29 = y29
                  generalize vals 30 = y30
                  generalize vals 31 = y31
                  generalize vals 32 = y32
                  generalize vals 33 = y33
                  generalize vals 34 = y34
                  generalize vals 35 = y35
                  generalize vals 36 = y36
                  generalize vals 37 = y37
                  generalize vals 38 = y38
                  generalize vals 39 = y39
                  generalize vals 40 = y40
                  generalize vals 41 = y41
                  have HQ2 := Lib.hid (HQ.out.trans (hG.mono HQ.out.size))
                  clear hG hkc
                  go_wp2_with fail
                  have hlk := HLT.out
                  go_roundw
                  case rel => exact ⟨j + 1, by omega, by first | rw [HWJ.out] | rw [Int.natCast_succ], by rw [HNV.out], HQ2⟩
                  case measure => first | exact measK L.length j 1 ((j : Int) + 1) (by omega) hlk Nat.zero_lt_one | exact measK L.length j 1 (wrap64 ((j : Int) + 1)) HWJ.out hlk Nat.zero_lt_one
              · rw [if_pos rfl] at HNV
                go_wp2_with fail
                refine wp_region_free (P := Try.prog) 43 (fun w' => Below wr.heap.size wr w') (fun oq v w' => match oq with
                    | 0 => v = .int .i64 (q : Int)
                    | 1 => v = .bool false
                    | 2 => v = .bool false
                    | 3 => v = .pointer (some ⟨rb, 0, none⟩)
                    | 4 => v = .int .i64 (k : Int)
                    | 5 => v = .int .i64 (wtW t own q)
                    | 6 => v = .pointer (some ⟨rb, 0, none⟩)
                    | 7 => v = .int .i64 (q : Int)
                    | 8 => v = .int .i64 (wtW t own q)
                    | 9 => v = .bool false
                    | 10 => v = .bool false
                    | 11 => v = .bool false
                    | 12 => v = .pointer (some ⟨rb, 0, none⟩)
                    | 13 => v = .int .i64 (k : Int)
                    | 14 => v = .int .i64 (wtW t own q)
                    | 15 => v = .pointer (some ⟨rb, 0, none⟩)
                    | 16 => v = .int .i64 (q : Int)
                    | 17 => v = .int .i64 (wtW t own q)
                    | 18 => v = .bool true
                    | 19 => v = .bool true
                    | 20 => v = .pointer (some ⟨rb, 0, none⟩)
                    | 21 => v = .pointer (some ⟨rb, 0, none⟩)
                    | 22 => v = .pointer (some ⟨rb, 0, none⟩)
                    | 23 => v = .pointer (some ⟨mb, 0, none⟩)
                    | 24 => v = .pointer (some ⟨mb, 0, none⟩)
                    | 25 => v = .pointer (some ⟨mb, 0, none⟩)
                    | 26 => v = .slice (some ⟨bg1, bo1, none⟩) t.length bc1
                    | 27 => v = .int .i64 (q : Int)
                    | 28 => v = .pointer (some ⟨bg1, bo1 + q * 32, none⟩)
                    | 29 => v = .agg (bv (pnm t (q : Int))).toArray
                    | 30 => v = .pointer (some ⟨rb, 0, none⟩)
                    | 31 => v = .pointer (some ⟨rb, 0, none⟩)
                    | 32 => v = .pointer (some ⟨rb, 0, none⟩)
                    | 33 => v = .pointer (some ⟨mb, 0, none⟩)
                    | 34 => v = .pointer (some ⟨mb, 0, none⟩)
                    | 35 => v = .pointer (some ⟨mb, 0, none⟩)
                    | 36 => v = .slice (some ⟨bg1, bo1, none⟩) t.length bc1
                    | 37 => v = .int .i64 (k : Int)
                    | 38 => v = .pointer (some ⟨bg1, bo1 + k * 32, none⟩)
                    | 39 => v = .agg (bv (pnm t (k : Int))).toArray
                    | 40 => v = .bool true
                    | 41 => v = .bool true
                    | 42 => v = .bool true
                    | _ => True) (by kernel_rfl) (by kernel_rfl) (Below.refl _ _).drew ?gb ?vb ?steps ?fin
                case gb => exact fun a b h1 h2 => h1.trans (h2.mono h1.size)
                case vb =>
                  intro oq v a b h hb
                  match oq with
                  | 0 => exact h
                  | 1 => exact h
                  | 2 => exact h
                  | 3 => exact h
                  | 4 => exact h
                  | 5 => exact h
                  | 6 => exact h
                  | 7 => exact h
                  | 8 => exact h
                  | 9 => exact h
                  | 10 => exact h
                  | 11 => exact h
                  | 12 => exact h
                  | 13 => exact h
                  | 14 => exact h
                  | 15 => exact h
                  | 16 => exact h
                  | 17 => exact h
                  | 18 => exact h
                  | 19 => exact h
                  | 20 => exact h
                  | 21 => exact h
                  | 22 => exact h
                  | 23 => exact h
                  | 24 => exact h
                  | 25 => exact h
                  | 26 => exact h
                  | 27 => exact h
                  | 28 => exact h
                  | 29 => exact h
                  | 30 => exact h
                  | 31 => exact h
                  | 32 => exact h
                  | 33 => exact h
                  | 34 => exact h
                  | 35 => exact h
                  | 36 => exact h
                  | 37 => exact h
                  | 38 => exact h
                  | 39 => exact h
                  | 40 => exact h
                  | 41 => exact h
                  | 42 => exact h
                  | _ + 43 => trivial
                case steps =>
                  intro vals
                  simp only [List.take_succ_cons, List.take_zero, freeSteps, Act.put, List.setIfInBounds_toArray, List.set_cons_zero, List.set_cons_succ, Nat.reduceAdd]
                  refine ⟨fun w8 hG hW => ?_, fun w8 hG hW => ?_, fun w8 hG hW => ?_, fun w8 hG hW => ?_, fun w8 hG hW => ?_, fun w8 hG hW => ?_, fun w8 hG hW => ?_, fun w8 hG hW => ?_, fun w8 hG hW => ?_, fun w8 hG hW => ?_, fun w8 hG hW => ?_, fun w8 hG hW => ?_, fun w8 hG hW => ?_, fun w8 hG hW => ?_, fun w8 hG hW => ?_, fun w8 hG hW => ?_, fun w8 hG hW => ?_, fun w8 hG hW => ?_, fun w8 hG hW => ?_, fun w8 hG hW => ?_, fun w8 hG hW => ?_, fun w8 hG hW => ?_, fun w8 hG hW => ?_, fun w8 hG hW => ?_, fun w8 hG hW => ?_, fun w8 hG hW => ?_, fun w8 hG hW => ?_, fun w8 hG hW => ?_, fun w8 hG hW => ?_, fun w8 hG hW => ?_, fun w8 hG hW => ?_, fun w8 hG hW => ?_, fun w8 hG hW => ?_, fun w8 hG hW => ?_, fun w8 hG hW => ?_, fun w8 hG hW => ?_, fun w8 hG hW => ?_, fun w8 hG hW => ?_, fun w8 hG hW => ?_, fun w8 hG hW => ?_, fun w8 hG hW => ?_, fun w8 hG hW => ?_, fun w8 hG hW => ?_, trivial⟩
                  · clear hW
                    refine stepAt_value rfl rfl rfl (.int .i64 (q : Int)) w8 ?_ ⟨rfl, Below.refl _ _⟩
                    go_simp
                  · have q0 := hW 0 (by decide)
                    simp only at q0
                    rw [q0]
                    clear hW
                    refine stepAt_value rfl rfl rfl (.bool false) w8 ?_ ⟨rfl, Below.refl _ _⟩
                    have hd1 : ¬ ((q : Int) < 0) := by omega
                    go_simp
                  · have q1 := hW 1 (by decide)
                    simp only at q1
                    rw [q1]
                    clear hW
                    refine stepAt_value rfl rfl rfl (.bool false) w8 ?_ ⟨rfl, Below.refl _ _⟩
                    go_simp
                  · have q2 := hW 2 (by decide)
                    simp only at q2
                    rw [q2]
                    clear hW
                    refine stepAt_value rfl rfl rfl (.pointer (some ⟨rb, 0, none⟩)) w8 ?_ ⟨rfl, Below.refl _ _⟩
                    go_simp
                  · have q2 := hW 2 (by decide)
                    simp only at q2
                    rw [q2]
                    clear hW
                    refine stepAt_value rfl rfl rfl (.int .i64 (k : Int)) w8 ?_ ⟨rfl, Below.refl _ _⟩
                    go_simp
                  · have q2 := hW 2 (by decide)
                    simp only at q2
                    have q3 := hW 3 (by decide)
                    simp only at q3
                    have q4 := hW 4 (by decide)
                    simp only at q4
                    rw [q2, q3, q4]
                    clear hW
                    refine stepAt_call rfl rfl rfl 55 #[.pointer (some ⟨rb, 0, none⟩), .int .i64 (k : Int)] (by go_simp) ((rsum_any w8 M mb t R rb own most k (HDr.out.below hG) HKO.out).mono fun e w' ⟨h1, h2⟩ => ⟨_, h1, by rw [HE.out], h2⟩)
                  · have q2 := hW 2 (by decide)
                    simp only at q2
                    rw [q2]
                    clear hW
                    refine stepAt_value rfl rfl rfl (.pointer (some ⟨rb, 0, none⟩)) w8 ?_ ⟨rfl, Below.refl _ _⟩
                    go_simp
                  · have q2 := hW 2 (by decide)
                    simp only at q2
                    rw [q2]
                    clear hW
                    refine stepAt_value rfl rfl rfl (.int .i64 (q : Int)) w8 ?_ ⟨rfl, Below.refl _ _⟩
                    go_simp
                  · have q2 := hW 2 (by decide)
                    simp only at q2
                    have q6 := hW 6 (by decide)
                    simp only at q6
                    have q7 := hW 7 (by decide)
                    simp only at q7
                    rw [q2, q6, q7]
                    clear hW
                    refine stepAt_call rfl rfl rfl 55 #[.pointer (some ⟨rb, 0, none⟩), .int .i64 (q : Int)] (by go_simp) ((rsum_any w8 M mb t R rb own most q (HDr.out.below hG) HQO.out).mono fun e w' ⟨h1, h2⟩ => ⟨_, h1, rfl, h2⟩)
                  · have q2 := hW 2 (by decide)
                    simp only at q2
                    have q5 := hW 5 (by decide)
                    simp only at q5
                    have q8 := hW 8 (by decide)
                    simp only at q8
                    rw [q2, q5, q8]
                    clear hW
                    refine stepAt_value rfl rfl rfl (.bool false) w8 ?_ ⟨rfl, Below.refl _ _⟩
                    have hd2 := HGT.out
                    go_simp
                  · have q2 := hW 2 (by decide)
                    simp only at q2
                    have q9 := hW 9 (by decide)
                    simp only at q9
                    rw [q2, q9]
                    clear hW
                    refine stepAt_value rfl rfl rfl (.bool false) w8 ?_ ⟨rfl, Below.refl _ _⟩
                    go_simp
                  · have q10 := hW 10 (by decide)
                    simp only at q10
                    rw [q10]
                    clear hW
                    refine stepAt_value rfl rfl rfl (.bool false) w8 ?_ ⟨rfl, Below.refl _ _⟩
                    go_simp
                  · have q11 := hW 11 (by decide)
                    simp only at q11
                    rw [q11]
                    clear hW
                    refine stepAt_value rfl rfl rfl (.pointer (some ⟨rb, 0, none⟩)) w8 ?_ ⟨rfl, Below.refl _ _⟩
                    go_simp
                  · have q11 := hW 11 (by decide)
                    simp only at q11
                    rw [q11]
                    clear hW
                    refine stepAt_value rfl rfl rfl (.int .i64 (k : Int)) w8 ?_ ⟨rfl, Below.refl _ _⟩
                    go_simp
                  · have q11 := hW 11 (by decide)
                    simp only at q11
                    have q12 := hW 12 (by decide)
                    simp only at q12
                    have q13 := hW 13 (by decide)
                    simp only at q13
                    rw [q11, q12, q13]
                    clear hW
                    refine stepAt_call rfl rfl rfl 55 #[.pointer (some ⟨rb, 0, none⟩), .int .i64 (k : Int)] (by go_simp) ((rsum_any w8 M mb t R rb own most k (HDr.out.below hG) HKO.out).mono fun e w' ⟨h1, h2⟩ => ⟨_, h1, by rw [HE.out], h2⟩)
                  · have q11 := hW 11 (by decide)
                    simp only at q11
                    rw [q11]
                    clear hW
                    refine stepAt_value rfl rfl rfl (.pointer (some ⟨rb, 0, none⟩)) w8 ?_ ⟨rfl, Below.refl _ _⟩
                    go_simp
                  · have q11 := hW 11 (by decide)
                    simp only at q11
                    rw [q11]
                    clear hW
                    refine stepAt_value rfl rfl rfl (.int .i64 (q : Int)) w8 ?_ ⟨rfl, Below.refl _ _⟩
                    go_simp
                  · have q11 := hW 11 (by decide)
                    simp only at q11
                    have q15 := hW 15 (by decide)
                    simp only at q15
                    have q16 := hW 16 (by decide)
                    simp only at q16
                    rw [q11, q15, q16]
                    clear hW
                    refine stepAt_call rfl rfl rfl 55 #[.pointer (some ⟨rb, 0, none⟩), .int .i64 (q : Int)] (by go_simp) ((rsum_any w8 M mb t R rb own most q (HDr.out.below hG) HQO.out).mono fun e w' ⟨h1, h2⟩ => ⟨_, h1, rfl, h2⟩)
                  · have q11 := hW 11 (by decide)
                    simp only at q11
                    have q14 := hW 14 (by decide)
                    simp only at q14
                    have q17 := hW 17 (by decide)
                    simp only at q17
                    rw [q11, q14, q17]
                    clear hW
                    refine stepAt_value rfl rfl rfl (.bool true) w8 ?_ ⟨rfl, Below.refl _ _⟩
                    have hd3 : (wtW t own q == wtW t own q) = true := beq_self_eq_true _
                    go_simp
                  · have q11 := hW 11 (by decide)
                    simp only at q11
                    have q18 := hW 18 (by decide)
                    simp only at q18
                    rw [q11, q18]
                    clear hW
                    refine stepAt_value rfl rfl rfl (.bool true) w8 ?_ ⟨rfl, Below.refl _ _⟩
                    go_simp
                  · have q19 := hW 19 (by decide)
                    simp only at q19
                    rw [q19]
                    clear hW
                    refine stepAt_value rfl rfl rfl (.pointer (some ⟨rb, 0, none⟩)) w8 ?_ ⟨rfl, Below.refl _ _⟩
                    go_simp
                  · have q19 := hW 19 (by decide)
                    simp only at q19
                    have q20 := hW 20 (by decide)
                    simp only at q20
                    rw [q19, q20]
                    clear hW
                    refine stepAt_value rfl rfl rfl (.pointer (some ⟨rb, 0, none⟩)) w8 ?_ ⟨rfl, Below.refl _ _⟩
                    go_simp
                  · have q19 := hW 19 (by decide)
                    simp only at q19
                    have q21 := hW 21 (by decide)
                    simp only at q21
                    rw [q19, q21]
                    clear hW
                    refine stepAt_value rfl rfl rfl (.pointer (some ⟨rb, 0, none⟩)) w8 ?_ ⟨rfl, Below.refl _ _⟩
                    go_simp
                  · have q19 := hW 19 (by decide)
                    simp only at q19
                    have q22 := hW 22 (by decide)
                    simp only at q22
                    rw [q19, q22]
                    clear hW
                    refine stepAt_value rfl rfl rfl (.pointer (some ⟨mb, 0, none⟩)) w8 ?_ ⟨rfl, Below.refl _ _⟩
                    have hh := (HS.out.below hG).cell0
                    go_simp
                  · have q19 := hW 19 (by decide)
                    simp only at q19
                    have q23 := hW 23 (by decide)
                    simp only at q23
                    rw [q19, q23]
                    clear hW
                    refine stepAt_value rfl rfl rfl (.pointer (some ⟨mb, 0, none⟩)) w8 ?_ ⟨rfl, Below.refl _ _⟩
                    go_simp
                  · have q19 := hW 19 (by decide)
                    simp only at q19
                    have q24 := hW 24 (by decide)
                    simp only at q24
                    rw [q19, q24]
                    clear hW
                    refine stepAt_value rfl rfl rfl (.pointer (some ⟨mb, 0, none⟩)) w8 ?_ ⟨rfl, Below.refl _ _⟩
                    go_simp
                  · have q19 := hW 19 (by decide)
                    simp only at q19
                    have q25 := hW 25 (by decide)
                    simp only at q25
                    rw [q19, q25]
                    clear hW
                    refine stepAt_value rfl rfl rfl (.slice (some ⟨bg1, bo1, none⟩) t.length bc1) w8 ?_ ⟨rfl, Below.refl _ _⟩
                    have hh := (HTS.out.below hG).cell0
                    go_simp
                  · have q19 := hW 19 (by decide)
                    simp only at q19
                    rw [q19]
                    clear hW
                    refine stepAt_value rfl rfl rfl (.int .i64 (q : Int)) w8 ?_ ⟨rfl, Below.refl _ _⟩
                    go_simp
                  · have q19 := hW 19 (by decide)
                    simp only at q19
                    have q26 := hW 26 (by decide)
                    simp only at q26
                    have q27 := hW 27 (by decide)
                    simp only at q27
                    rw [q19, q26, q27]
                    clear hW
                    refine stepAt_value rfl rfl rfl (.pointer (some ⟨bg1, bo1 + q * 32, none⟩)) w8 ?_ ⟨rfl, Below.refl _ _⟩
                    have hil := HIQ.out
                    go_simp
                  · have q19 := hW 19 (by decide)
                    simp only at q19
                    have q28 := hW 28 (by decide)
                    simp only at q28
                    rw [q19, q28]
                    clear hW
                    exact stepAt_load_run rfl rfl rfl _ _ rfl _ _ rfl (run_load_root HNQ.out (fun j' v' hj' => (hG.cell (World.block_lt_of_cell? wr _ (HCQ.out j' v' hj'))).trans (HCQ.out j' v' hj'))) ⟨rfl, Below.refl _ _⟩
                  · have q19 := hW 19 (by decide)
                    simp only at q19
                    rw [q19]
                    clear hW
                    refine stepAt_value rfl rfl rfl (.pointer (some ⟨rb, 0, none⟩)) w8 ?_ ⟨rfl, Below.refl _ _⟩
                    go_simp
                  · have q19 := hW 19 (by decide)
                    simp only at q19
                    have q30 := hW 30 (by decide)
                    simp only at q30
                    rw [q19, q30]
                    clear hW
                    refine stepAt_value rfl rfl rfl (.pointer (some ⟨rb, 0, none⟩)) w8 ?_ ⟨rfl, Below.refl _ _⟩
                    go_simp
                  · have q19 := hW 19 (by decide)
                    simp only at q19
                    have q31 := hW 31 (by decide)
                    simp only at q31
                    rw [q19, q31]
                    clear hW
                    refine stepAt_value rfl rfl rfl (.pointer (some ⟨rb, 0, none⟩)) w8 ?_ ⟨rfl, Below.refl _ _⟩
                    go_simp
                  · have q19 := hW 19 (by decide)
                    simp only at q19
                    have q32 := hW 32 (by decide)
                    simp only at q32
                    rw [q19, q32]
                    clear hW
                    refine stepAt_value rfl rfl rfl (.pointer (some ⟨mb, 0, none⟩)) w8 ?_ ⟨rfl, Below.refl _ _⟩
                    have hh := (HS.out.below hG).cell0
                    go_simp
                  · have q19 := hW 19 (by decide)
                    simp only at q19
                    have q33 := hW 33 (by decide)
                    simp only at q33
                    rw [q19, q33]
                    clear hW
                    refine stepAt_value rfl rfl rfl (.pointer (some ⟨mb, 0, none⟩)) w8 ?_ ⟨rfl, Below.refl _ _⟩
                    go_simp
                  · have q19 := hW 19 (by decide)
                    simp only at q19
                    have q34 := hW 34 (by decide)
                    simp only at q34
                    rw [q19, q34]
                    clear hW
                    refine stepAt_value rfl rfl rfl (.pointer (some ⟨mb, 0, none⟩)) w8 ?_ ⟨rfl, Below.refl _ _⟩
                    go_simp
                  · have q19 := hW 19 (by decide)
                    simp only at q19
                    have q35 := hW 35 (by decide)
                    simp only at q35
                    rw [q19, q35]
                    clear hW
                    refine stepAt_value rfl rfl rfl (.slice (some ⟨bg1, bo1, none⟩) t.length bc1) w8 ?_ ⟨rfl, Below.refl _ _⟩
                    have hh := (HTS.out.below hG).cell0
                    go_simp
                  · have q19 := hW 19 (by decide)
                    simp only at q19
                    rw [q19]
                    clear hW
                    refine stepAt_value rfl rfl rfl (.int .i64 (k : Int)) w8 ?_ ⟨rfl, Below.refl _ _⟩
                    go_simp
                  · have q19 := hW 19 (by decide)
                    simp only at q19
                    have q36 := hW 36 (by decide)
                    simp only at q36
                    have q37 := hW 37 (by decide)
                    simp only at q37
                    rw [q19, q36, q37]
                    clear hW
                    refine stepAt_value rfl rfl rfl (.pointer (some ⟨bg1, bo1 + k * 32, none⟩)) w8 ?_ ⟨rfl, Below.refl _ _⟩
                    have hil := HIK.out
                    go_simp
                  · have q19 := hW 19 (by decide)
                    simp only at q19
                    have q38 := hW 38 (by decide)
                    simp only at q38
                    rw [q19, q38]
                    clear hW
                    exact stepAt_load_run rfl rfl rfl _ _ rfl _ _ rfl (run_load_root HNK.out (fun j' v' hj' => (hG.cell (World.block_lt_of_cell? wr _ (HCK.out j' v' hj'))).trans (HCK.out j' v' hj'))) ⟨rfl, Below.refl _ _⟩
                  · have q19 := hW 19 (by decide)
                    simp only at q19
                    have q29 := hW 29 (by decide)
                    simp only at q29
                    have q39 := hW 39 (by decide)
                    simp only at q39
                    rw [q19, q29, q39]
                    clear hW
                    refine stepAt_call rfl rfl rfl 56 #[.agg (bv (pnm t (q : Int))).toArray, .agg (bv (pnm t (k : Int))).toArray] (by go_simp) ((refless_any w8 (pnm t (q : Int)) (pnm t (k : Int)) HNQ.out HNK.out).mono fun e w' ⟨h1, h2⟩ => ⟨_, h1, by rw [HLS.out], h2⟩)
                  · have q11 := hW 11 (by decide)
                    simp only at q11
                    have q19 := hW 19 (by decide)
                    simp only at q19
                    have q40 := hW 40 (by decide)
                    simp only at q40
                    rw [q11, q19, q40]
                    clear hW
                    refine stepAt_value rfl rfl rfl (.bool true) w8 ?_ ⟨rfl, Below.refl _ _⟩
                    go_simp
                  · have q11 := hW 11 (by decide)
                    simp only at q11
                    have q41 := hW 41 (by decide)
                    simp only at q41
                    rw [q11, q41]
                    clear hW
                    refine stepAt_value rfl rfl rfl (.bool true) w8 ?_ ⟨rfl, Below.refl _ _⟩
                    go_simp
                case fin =>
                  intro vals w9 hG hV
                  have q42 := hV 42 (by omega)
                  simp only at q42
                  simp only [List.take_succ_cons, List.take_zero, List.drop_succ_cons, List.drop_zero, putAll, Act.put, List.setIfInBounds_toArray, List.set_cons_zero, List.set_cons_succ, Nat.reduceAdd]
                  rw [q42]
                  clear hV q42
                  generalize vals 0 = y0
                  generalize vals 1 = y1
                  generalize vals 2 = y2
                  generalize vals 3 = y3
                  generalize vals 4 = y4
                  generalize vals 5 = y5
                  generalize vals 6 = y6
                  generalize vals 7 = y7
                  generalize vals 8 = y8
                  generalize vals 9 = y9
                  generalize vals 10 = y10
                  generalize vals 11 = y11
                  generalize vals 12 = y12
                  generalize vals 13 = y13
                  generalize vals 14 = y14
                  generalize vals 15 = y15
                  generalize vals 16 = y16
                  generalize vals 17 = y17
                  generalize vals 18 = y18
                  generalize vals 19 = y19
                  generalize vals 20 = y20
                  generalize vals 21 = y21
                  generalize vals 22 = y22
                  generalize vals 23 = y23
                  generalize vals 24 = y24
                  generalize vals 25 = y25
                  generalize vals 26 = y26
                  generalize vals 27 = y27
                  generalize vals 28 = y28
                  generalize vals 29 = y29
                  generalize vals 30 = y30
                  generalize vals 31 = y31
                  generalize vals 32 = y32
                  generalize vals 33 = y33
                  generalize vals 34 = y34
                  generalize vals 35 = y35
                  generalize vals 36 = y36
                  generalize vals 37 = y37
                  generalize vals 38 = y38
                  generalize vals 39 = y39
                  generalize vals 40 = y40
                  generalize vals 41 = y41
                  have HQ2 := Lib.hid (HQ.out.trans (hG.mono HQ.out.size))
                  clear hG hkc
                  go_wp2_with fail
                  have hlk := HLT.out
                  go_roundw
                  case rel => exact ⟨j + 1, by omega, by first | rw [HWJ.out] | rw [Int.natCast_succ], by rw [HNV.out], HQ2⟩
                  case measure => first | exact measK L.length j 1 ((j : Int) + 1) (by omega) hlk Nat.zero_lt_one | exact measK L.length j 1 (wrap64 ((j : Int) + 1)) HWJ.out hlk Nat.zero_lt_one
            · have HNV := Lib.hid (show bfZ t own (L.take (j + 1)) = (q : Int) by
                rw [HNX.out, hb, nxW, Int.toNat_natCast, if_neg]
                rintro (h | h)
                · omega
                · unfold btW at h
                  rw [decide_eq_false h1, decide_eq_false h2] at h
                  cases h)
              have HGT := Lib.hid h1
              have HNE := Lib.hid (show (wtW t own k == wtW t own q) = false from beq_eq_false_iff_ne.2 h2)
              rw [hb]
              clear hb HPL HNX h1 h2 hqo
              go_wp2_with fail
              refine wp_region_free (P := Try.prog) 43 (fun w' => Below wr.heap.size wr w') (fun oq v w' => match oq with
                  | 0 => v = .int .i64 (q : Int)
                  | 1 => v = .bool false
                  | 2 => v = .bool false
                  | 3 => v = .pointer (some ⟨rb, 0, none⟩)
                  | 4 => v = .int .i64 (k : Int)
                  | 5 => v = .int .i64 (wtW t own k)
                  | 6 => v = .pointer (some ⟨rb, 0, none⟩)
                  | 7 => v = .int .i64 (q : Int)
                  | 8 => v = .int .i64 (wtW t own q)
                  | 9 => v = .bool false
                  | 10 => v = .bool false
                  | 11 => v = .bool false
                  | 12 => v = .pointer (some ⟨rb, 0, none⟩)
                  | 13 => v = .int .i64 (k : Int)
                  | 14 => v = .int .i64 (wtW t own k)
                  | 15 => v = .pointer (some ⟨rb, 0, none⟩)
                  | 16 => v = .int .i64 (q : Int)
                  | 17 => v = .int .i64 (wtW t own q)
                  | 18 => v = .bool false
                  | 19 => v = .bool false
                  | 20 => v = undef
                  | 21 => v = undef
                  | 22 => v = undef
                  | 23 => v = undef
                  | 24 => v = undef
                  | 25 => v = undef
                  | 26 => v = undef
                  | 27 => v = undef
                  | 28 => v = undef
                  | 29 => v = undef
                  | 30 => v = undef
                  | 31 => v = undef
                  | 32 => v = undef
                  | 33 => v = undef
                  | 34 => v = undef
                  | 35 => v = undef
                  | 36 => v = undef
                  | 37 => v = undef
                  | 38 => v = undef
                  | 39 => v = undef
                  | 40 => v = undef
                  | 41 => v = .bool false
                  | 42 => v = .bool false
                  | _ => True) (by kernel_rfl) (by kernel_rfl) (Below.refl _ _).drew ?gb ?vb ?steps ?fin
              case gb => exact fun a b h1 h2 => h1.trans (h2.mono h1.size)
              case vb =>
                intro oq v a b h hb
                match oq with
                | 0 => exact h
                | 1 => exact h
                | 2 => exact h
                | 3 => exact h
                | 4 => exact h
                | 5 => exact h
                | 6 => exact h
                | 7 => exact h
                | 8 => exact h
                | 9 => exact h
                | 10 => exact h
                | 11 => exact h
                | 12 => exact h
                | 13 => exact h
                | 14 => exact h
                | 15 => exact h
                | 16 => exact h
                | 17 => exact h
                | 18 => exact h
                | 19 => exact h
                | 20 => exact h
                | 21 => exact h
                | 22 => exact h
                | 23 => exact h
                | 24 => exact h
                | 25 => exact h
                | 26 => exact h
                | 27 => exact h
                | 28 => exact h
                | 29 => exact h
                | 30 => exact h
                | 31 => exact h
                | 32 => exact h
                | 33 => exact h
                | 34 => exact h
                | 35 => exact h
                | 36 => exact h
                | 37 => exact h
                | 38 => exact h
                | 39 => exact h
                | 40 => exact h
                | 41 => exact h
                | 42 => exact h
                | _ + 43 => trivial
              case steps =>
                intro vals
                simp only [List.take_succ_cons, List.take_zero, freeSteps, Act.put, List.setIfInBounds_toArray, List.set_cons_zero, List.set_cons_succ, Nat.reduceAdd]
                refine ⟨fun w8 hG hW => ?_, fun w8 hG hW => ?_, fun w8 hG hW => ?_, fun w8 hG hW => ?_, fun w8 hG hW => ?_, fun w8 hG hW => ?_, fun w8 hG hW => ?_, fun w8 hG hW => ?_, fun w8 hG hW => ?_, fun w8 hG hW => ?_, fun w8 hG hW => ?_, fun w8 hG hW => ?_, fun w8 hG hW => ?_, fun w8 hG hW => ?_, fun w8 hG hW => ?_, fun w8 hG hW => ?_, fun w8 hG hW => ?_, fun w8 hG hW => ?_, fun w8 hG hW => ?_, fun w8 hG hW => ?_, fun w8 hG hW => ?_, fun w8 hG hW => ?_, fun w8 hG hW => ?_, fun w8 hG hW => ?_, fun w8 hG hW => ?_, fun w8 hG hW => ?_, fun w8 hG hW => ?_, fun w8 hG hW => ?_, fun w8 hG hW => ?_, fun w8 hG hW => ?_, fun w8 hG hW => ?_, fun w8 hG hW => ?_, fun w8 hG hW => ?_, fun w8 hG hW => ?_, fun w8 hG hW => ?_, fun w8 hG hW => ?_, fun w8 hG hW => ?_, fun w8 hG hW => ?_, fun w8 hG hW => ?_, fun w8 hG hW => ?_, fun w8 hG hW => ?_, fun w8 hG hW => ?_, fun w8 hG hW => ?_, trivial⟩
                · clear hW
                  refine stepAt_value rfl rfl rfl (.int .i64 (q : Int)) w8 ?_ ⟨rfl, Below.refl _ _⟩
                  go_simp
                · have q0 := hW 0 (by decide)
                  simp only at q0
                  rw [q0]
                  clear hW
                  refine stepAt_value rfl rfl rfl (.bool false) w8 ?_ ⟨rfl, Below.refl _ _⟩
                  have hd1 : ¬ ((q : Int) < 0) := by omega
                  go_simp
                · have q1 := hW 1 (by decide)
                  simp only at q1
                  rw [q1]
                  clear hW
                  refine stepAt_value rfl rfl rfl (.bool false) w8 ?_ ⟨rfl, Below.refl _ _⟩
                  go_simp
                · have q2 := hW 2 (by decide)
                  simp only at q2
                  rw [q2]
                  clear hW
                  refine stepAt_value rfl rfl rfl (.pointer (some ⟨rb, 0, none⟩)) w8 ?_ ⟨rfl, Below.refl _ _⟩
                  go_simp
                · have q2 := hW 2 (by decide)
                  simp only at q2
                  rw [q2]
                  clear hW
                  refine stepAt_value rfl rfl rfl (.int .i64 (k : Int)) w8 ?_ ⟨rfl, Below.refl _ _⟩
                  go_simp
                · have q2 := hW 2 (by decide)
                  simp only at q2
                  have q3 := hW 3 (by decide)
                  simp only at q3
                  have q4 := hW 4 (by decide)
                  simp only at q4
                  rw [q2, q3, q4]
                  clear hW
                  refine stepAt_call rfl rfl rfl 55 #[.pointer (some ⟨rb, 0, none⟩), .int .i64 (k : Int)] (by go_simp) ((rsum_any w8 M mb t R rb own most k (HDr.out.below hG) HKO.out).mono fun e w' ⟨h1, h2⟩ => ⟨_, h1, rfl, h2⟩)
                · have q2 := hW 2 (by decide)
                  simp only at q2
                  rw [q2]
                  clear hW
                  refine stepAt_value rfl rfl rfl (.pointer (some ⟨rb, 0, none⟩)) w8 ?_ ⟨rfl, Below.refl _ _⟩
                  go_simp
                · have q2 := hW 2 (by decide)
                  simp only at q2
                  rw [q2]
                  clear hW
                  refine stepAt_value rfl rfl rfl (.int .i64 (q : Int)) w8 ?_ ⟨rfl, Below.refl _ _⟩
                  go_simp
                · have q2 := hW 2 (by decide)
                  simp only at q2
                  have q6 := hW 6 (by decide)
                  simp only at q6
                  have q7 := hW 7 (by decide)
                  simp only at q7
                  rw [q2, q6, q7]
                  clear hW
                  refine stepAt_call rfl rfl rfl 55 #[.pointer (some ⟨rb, 0, none⟩), .int .i64 (q : Int)] (by go_simp) ((rsum_any w8 M mb t R rb own most q (HDr.out.below hG) HQO.out).mono fun e w' ⟨h1, h2⟩ => ⟨_, h1, rfl, h2⟩)
                · have q2 := hW 2 (by decide)
                  simp only at q2
                  have q5 := hW 5 (by decide)
                  simp only at q5
                  have q8 := hW 8 (by decide)
                  simp only at q8
                  rw [q2, q5, q8]
                  clear hW
                  refine stepAt_value rfl rfl rfl (.bool false) w8 ?_ ⟨rfl, Below.refl _ _⟩
                  have hd2 := HGT.out
                  go_simp
                · have q2 := hW 2 (by decide)
                  simp only at q2
                  have q9 := hW 9 (by decide)
                  simp only at q9
                  rw [q2, q9]
                  clear hW
                  refine stepAt_value rfl rfl rfl (.bool false) w8 ?_ ⟨rfl, Below.refl _ _⟩
                  go_simp
                · have q10 := hW 10 (by decide)
                  simp only at q10
                  rw [q10]
                  clear hW
                  refine stepAt_value rfl rfl rfl (.bool false) w8 ?_ ⟨rfl, Below.refl _ _⟩
                  go_simp
                · have q11 := hW 11 (by decide)
                  simp only at q11
                  rw [q11]
                  clear hW
                  refine stepAt_value rfl rfl rfl (.pointer (some ⟨rb, 0, none⟩)) w8 ?_ ⟨rfl, Below.refl _ _⟩
                  go_simp
                · have q11 := hW 11 (by decide)
                  simp only at q11
                  rw [q11]
                  clear hW
                  refine stepAt_value rfl rfl rfl (.int .i64 (k : Int)) w8 ?_ ⟨rfl, Below.refl _ _⟩
                  go_simp
                · have q11 := hW 11 (by decide)
                  simp only at q11
                  have q12 := hW 12 (by decide)
                  simp only at q12
                  have q13 := hW 13 (by decide)
                  simp only at q13
                  rw [q11, q12, q13]
                  clear hW
                  refine stepAt_call rfl rfl rfl 55 #[.pointer (some ⟨rb, 0, none⟩), .int .i64 (k : Int)] (by go_simp) ((rsum_any w8 M mb t R rb own most k (HDr.out.below hG) HKO.out).mono fun e w' ⟨h1, h2⟩ => ⟨_, h1, rfl, h2⟩)
                · have q11 := hW 11 (by decide)
                  simp only at q11
                  rw [q11]
                  clear hW
                  refine stepAt_value rfl rfl rfl (.pointer (some ⟨rb, 0, none⟩)) w8 ?_ ⟨rfl, Below.refl _ _⟩
                  go_simp
                · have q11 := hW 11 (by decide)
                  simp only at q11
                  rw [q11]
                  clear hW
                  refine stepAt_value rfl rfl rfl (.int .i64 (q : Int)) w8 ?_ ⟨rfl, Below.refl _ _⟩
                  go_simp
                · have q11 := hW 11 (by decide)
                  simp only at q11
                  have q15 := hW 15 (by decide)
                  simp only at q15
                  have q16 := hW 16 (by decide)
                  simp only at q16
                  rw [q11, q15, q16]
                  clear hW
                  refine stepAt_call rfl rfl rfl 55 #[.pointer (some ⟨rb, 0, none⟩), .int .i64 (q : Int)] (by go_simp) ((rsum_any w8 M mb t R rb own most q (HDr.out.below hG) HQO.out).mono fun e w' ⟨h1, h2⟩ => ⟨_, h1, rfl, h2⟩)
                · have q11 := hW 11 (by decide)
                  simp only at q11
                  have q14 := hW 14 (by decide)
                  simp only at q14
                  have q17 := hW 17 (by decide)
                  simp only at q17
                  rw [q11, q14, q17]
                  clear hW
                  refine stepAt_value rfl rfl rfl (.bool false) w8 ?_ ⟨rfl, Below.refl _ _⟩
                  have hd3 := HNE.out
                  go_simp
                · have q11 := hW 11 (by decide)
                  simp only at q11
                  have q18 := hW 18 (by decide)
                  simp only at q18
                  rw [q11, q18]
                  clear hW
                  refine stepAt_value rfl rfl rfl (.bool false) w8 ?_ ⟨rfl, Below.refl _ _⟩
                  go_simp
                · have q19 := hW 19 (by decide)
                  simp only at q19
                  rw [q19]
                  clear hW
                  exact stepAt_skip rfl rfl rfl ⟨rfl, Below.refl _ _⟩
                · have q19 := hW 19 (by decide)
                  simp only at q19
                  rw [q19]
                  clear hW
                  exact stepAt_skip rfl rfl rfl ⟨rfl, Below.refl _ _⟩
                · have q19 := hW 19 (by decide)
                  simp only at q19
                  rw [q19]
                  clear hW
                  exact stepAt_skip rfl rfl rfl ⟨rfl, Below.refl _ _⟩
                · have q19 := hW 19 (by decide)
                  simp only at q19
                  rw [q19]
                  clear hW
                  exact stepAt_skip rfl rfl rfl ⟨rfl, Below.refl _ _⟩
                · have q19 := hW 19 (by decide)
                  simp only at q19
                  rw [q19]
                  clear hW
                  exact stepAt_skip rfl rfl rfl ⟨rfl, Below.refl _ _⟩
                · have q19 := hW 19 (by decide)
                  simp only at q19
                  rw [q19]
                  clear hW
                  exact stepAt_skip rfl rfl rfl ⟨rfl, Below.refl _ _⟩
                · have q19 := hW 19 (by decide)
                  simp only at q19
                  rw [q19]
                  clear hW
                  exact stepAt_skip rfl rfl rfl ⟨rfl, Below.refl _ _⟩
                · have q19 := hW 19 (by decide)
                  simp only at q19
                  rw [q19]
                  clear hW
                  exact stepAt_skip rfl rfl rfl ⟨rfl, Below.refl _ _⟩
                · have q19 := hW 19 (by decide)
                  simp only at q19
                  rw [q19]
                  clear hW
                  exact stepAt_skip rfl rfl rfl ⟨rfl, Below.refl _ _⟩
                · have q19 := hW 19 (by decide)
                  simp only at q19
                  rw [q19]
                  clear hW
                  exact stepAt_skip rfl rfl rfl ⟨rfl, Below.refl _ _⟩
                · have q19 := hW 19 (by decide)
                  simp only at q19
                  rw [q19]
                  clear hW
                  exact stepAt_skip rfl rfl rfl ⟨rfl, Below.refl _ _⟩
                · have q19 := hW 19 (by decide)
                  simp only at q19
                  rw [q19]
                  clear hW
                  exact stepAt_skip rfl rfl rfl ⟨rfl, Below.refl _ _⟩
                · have q19 := hW 19 (by decide)
                  simp only at q19
                  rw [q19]
                  clear hW
                  exact stepAt_skip rfl rfl rfl ⟨rfl, Below.refl _ _⟩
                · have q19 := hW 19 (by decide)
                  simp only at q19
                  rw [q19]
                  clear hW
                  exact stepAt_skip rfl rfl rfl ⟨rfl, Below.refl _ _⟩
                · have q19 := hW 19 (by decide)
                  simp only at q19
                  rw [q19]
                  clear hW
                  exact stepAt_skip rfl rfl rfl ⟨rfl, Below.refl _ _⟩
                · have q19 := hW 19 (by decide)
                  simp only at q19
                  rw [q19]
                  clear hW
                  exact stepAt_skip rfl rfl rfl ⟨rfl, Below.refl _ _⟩
                · have q19 := hW 19 (by decide)
                  simp only at q19
                  rw [q19]
                  clear hW
                  exact stepAt_skip rfl rfl rfl ⟨rfl, Below.refl _ _⟩
                · have q19 := hW 19 (by decide)
                  simp only at q19
                  rw [q19]
                  clear hW
                  exact stepAt_skip rfl rfl rfl ⟨rfl, Below.refl _ _⟩
                · have q19 := hW 19 (by decide)
                  simp only at q19
                  rw [q19]
                  clear hW
                  exact stepAt_skip rfl rfl rfl ⟨rfl, Below.refl _ _⟩
                · have q19 := hW 19 (by decide)
                  simp only at q19
                  rw [q19]
                  clear hW
                  exact stepAt_skip rfl rfl rfl ⟨rfl, Below.refl _ _⟩
                · have q19 := hW 19 (by decide)
                  simp only at q19
                  rw [q19]
                  clear hW
                  exact stepAt_skip rfl rfl rfl ⟨rfl, Below.refl _ _⟩
                · have q11 := hW 11 (by decide)
                  simp only at q11
                  have q19 := hW 19 (by decide)
                  simp only at q19
                  have q40 := hW 40 (by decide)
                  simp only at q40
                  rw [q11, q19, q40]
                  clear hW
                  refine stepAt_value rfl rfl rfl (.bool false) w8 ?_ ⟨rfl, Below.refl _ _⟩
                  go_simp
                · have q11 := hW 11 (by decide)
                  simp only at q11
                  have q41 := hW 41 (by decide)
                  simp only at q41
                  rw [q11, q41]
                  clear hW
                  refine stepAt_value rfl rfl rfl (.bool false) w8 ?_ ⟨rfl, Below.refl _ _⟩
                  go_simp
              case fin =>
                intro vals w9 hG hV
                have q42 := hV 42 (by omega)
                simp only at q42
                simp only [List.take_succ_cons, List.take_zero, List.drop_succ_cons, List.drop_zero, putAll, Act.put, List.setIfInBounds_toArray, List.set_cons_zero, List.set_cons_succ, Nat.reduceAdd]
                rw [q42]
                clear hV q42
                generalize vals 0 = y0
                generalize vals 1 = y1
                generalize vals 2 = y2
                generalize vals 3 = y3
                generalize vals 4 = y4
                generalize vals 5 = y5
                generalize vals 6 = y6
                generalize vals 7 = y7
                generalize vals 8 = y8
                generalize vals 9 = y9
                generalize vals 10 = y10
                generalize vals 11 = y11
                generalize vals 12 = y12
                generalize vals 13 = y13
                generalize vals 14 = y14
                generalize vals 15 = y15
                generalize vals 16 = y16
                generalize vals 17 = y17
                generalize vals 18 = y18
                generalize vals 19 = y19
                generalize vals 20 = y20
                generalize vals 21 = y21
                generalize vals 22 = y22
                generalize vals 23 = y23
                generalize vals 24 = y24
                generalize vals 25 = y25
                generalize vals 26 = y26
                generalize vals 27 = y27
                generalize vals 28 = y28
                generalize vals 29 = y29
                generalize vals 30 = y30
                generalize vals 31 = y31
                generalize vals 32 = y32
                generalize vals 33 = y33
                generalize vals 34 = y34
                generalize vals 35 = y35
                generalize vals 36 = y36
                generalize vals 37 = y37
                generalize vals 38 = y38
                generalize vals 39 = y39
                generalize vals 40 = y40
                generalize vals 41 = y41
                have HQ2 := Lib.hid (HQ.out.trans (hG.mono HQ.out.size))
                clear hG hkc
                go_wp2_with fail
                have hlk := HLT.out
                go_roundw
                case rel => exact ⟨j + 1, by omega, by first | rw [HWJ.out] | rw [Int.natCast_succ], by rw [HNV.out], HQ2⟩
                case measure => first | exact measK L.length j 1 ((j : Int) + 1) (by omega) hlk Nat.zero_lt_one | exact measK L.length j 1 (wrap64 ((j : Int) + 1)) HWJ.out hlk Nat.zero_lt_one
      · obtain rfl : j = L.length := by omega
        have HBE := Lib.hid (show bfZ t own (L.take L.length) = bstZ t own r by rw [List.take_length, HBS.out, HV.out])
        rw [HBE.out]
        have hlt2 : ¬ (L.length : Int) < (L.length : Int) := by omega
        have HDr := Lib.hid (HD.out.below HQ.out)
        replace HZ := Lib.hid (HZ.out.below HQ.out HZ.out.lt)
        replace HB := Lib.hid (HB.out.trans (HQ.out.mono HB.out.size))
        clear HPL HBE HQ HKW HBS
        rcases HGD.out.bstZ_place HOL.out r with hb | ⟨q, hb, hqo⟩
        · rw [hb]
          have HBZ := Lib.hid hb
          clear hb
          have HR := Lib.hid (show pnm t (-1) = zero32 by simp [pnm, nodeAt])
          have HZF := Lib.hid (HZ.out.setRow (bv zero32))
          have HBF := Lib.hid (below_row HB.out HZE.out (bv zero32).toArray)
          go_wp2_with ((with_reducible refine wpList_store_name (.tmp 4) (.tmp 71) ?_ ?_ Z zero32 zero32 ?_ ?_ HZ.out HZL.out HZL.out ?_); rfl; rfl; rfl; rfl)
          refine ret_name2 rfl rfl HZF.out HZL.out rfl ?_
          exact ⟨by rw [HBZ.out, HR.out]; rfl, HBF.out⟩
        · rw [hb]
          have HBZ := Lib.hid hb
          have d1 : ¬ ((q : Int) < 0) := by omega
          have d2 : (q : Int) < (t.length : Int) := by have := HOL.out; omega
          obtain ⟨nq, hnq⟩ : ∃ n, t[q]? = some n := ⟨_, List.getElem?_eq_getElem (by omega)⟩
          obtain ⟨a1, c1, g1, o1, hs⟩ := HDr.out.rw.open
          obtain ⟨ba1, ba2, ba3, bc1, bc2, bc3, bg1, bg2, bg3, bo1, bo2, bo3, ht⟩ := HDr.out.ref.open
          obtain ⟨hba, hcq⟩ := ht.l1.name HGD.out.rts (rs_at hnq)
          subst hba
          rw [← pnm_at hnq] at hcq
          have k0 := hs.cell0
          have m0 := ht.cell0
          have HCQ := Lib.hid hcq
          have HNL := Lib.hid (HGD.out.pnm_len (q : Int))
          have HZF := Lib.hid (HZ.out.setRow (bv (pnm t (q : Int))))
          have HBF := Lib.hid (below_row HB.out HZE.out (bv (pnm t (q : Int))).toArray)
          clear hb hqo hnq hcq hs ht
          go_wp2_with (first
            | ((with_reducible refine wpList_load_name (.tmp 80) ?_ ?_ bg1 (bo1 + q * 32) (pnm t (q : Int)) ?_ HNL.out HCQ.out ?_); rfl; rfl; rfl)
            | ((with_reducible refine wpList_store_name (.tmp 4) (.tmp 81) ?_ ?_ Z zero32 (pnm t (q : Int)) ?_ ?_ HZ.out HZL.out HNL.out ?_); rfl; rfl; rfl; rfl))
          refine ret_name2 rfl rfl HZF.out HNL.out rfl ?_
          exact ⟨by rw [HBZ.out, decide_eq_true (show (0 : Int) ≤ (q : Int) by omega)]; rfl, HBF.out⟩
end Go.Proofs.Ytjodhagjfjgbcaa
