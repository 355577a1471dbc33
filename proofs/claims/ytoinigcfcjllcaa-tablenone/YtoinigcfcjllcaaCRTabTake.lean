/-
  The texts RTabTake, one behind the other.
-/
import Derived.Test.YtoinigcfcjllcaaNoneM8
import Derived.Test.YtoinigcfcjllcaaNoneM2
import Derived.Test.YtoinigcfcjllcaaNoneM3
import Derived.Test.YtoinigcfcjllcaaNoneM4
/-
  The document's table: Take.
-/
namespace Go.Proofs.Ytoinigcfcjllcaa
open Go Go.RowKit
set_option maxRecDepth 10000

theorem takeT_off {t : Tb} {vo : Vt} (h : ¬ okV t vo) : takeT t vo = (5, t) := by unfold takeT; rw [if_neg h]
theorem takeT_out {t : Tb} {vo : Vt} (h : okV t vo) (ho : otT t vo.w = true) : takeT t vo = (4, t) := by unfold takeT; rw [if_pos h, if_pos ho]
theorem takeT_same {t : Tb} {vo : Vt} {f : Fs} (h : okV t vo) (ho : otT t vo.w = false) (hf : fstT t.fs vo.w (ep t.k vo.s) = some f) (hg : f.g = vo.g) : takeT t vo = (1, t) := by
  unfold takeT; rw [if_pos h, if_neg (by rw [ho]; decide), hf]; exact if_pos hg
theorem takeT_double {t : Tb} {vo : Vt} {f : Fs} (h : okV t vo) (ho : otT t vo.w = false) (hf : fstT t.fs vo.w (ep t.k vo.s) = some f) (hg : f.g ≠ vo.g) : takeT t vo = (2, setO t vo.w) := by
  unfold takeT; rw [if_pos h, if_neg (by rw [ho]; decide), hf]; exact if_neg hg
theorem takeT_late {t : Tb} {vo : Vt} (h : okV t vo) (ho : otT t vo.w = false) (hf : fstT t.fs vo.w (ep t.k vo.s) = none) (hc : hsT t vo.w = true ∧ ep t.k vo.s < ep t.k (ltT t vo.w).s) : takeT t vo = (3, addF t vo) := by
  unfold takeT; rw [if_pos h, if_neg (by rw [ho]; decide), hf]; exact if_pos hc
theorem takeT_latest {t : Tb} {vo : Vt} (h : okV t vo) (ho : otT t vo.w = false) (hf : fstT t.fs vo.w (ep t.k vo.s) = none) (hc : ¬ (hsT t vo.w = true ∧ ep t.k vo.s < ep t.k (ltT t vo.w).s)) : takeT t vo = (0, setL (addF t vo) vo) := by
  unfold takeT; rw [if_pos h, if_neg (by rw [ho]; decide), hf]; exact if_neg hc
def RTk (w : World) (F : List Nat) (b g1 g2 g3 : Nat) (t : Tb) (w' : World) : Prop := ∃ F' v', RP w' F' b g1 g2 g3 v' t ∧ Kept F w w' ∧ NewF w F F'
set_option maxHeartbeats 16000000 in
theorem rtake_any (w : World) (F : List Nat) (b g1 g2 g3 : Nat) (v : Value) (t : Tb) (vo : Vt) (h : RP w F b g1 g2 g3 v t) (hv : vo.g.length = 32) (hn : t.fs.length ≤ 1000) :
    Calls Try.prog 20 #[.pointer (some ⟨b, 0, none⟩), .agg (vcl vo).toArray] w fun e w' => e = .returned (.int .i64 (takeT t vo).1) ∧ RTk w F b g1 g2 g3 (takeT t vo).2 w' := by
  have hb1 : Below w.heap.size w (w.alloc (.cells (vcl vo).toArray 29)) := (Below.refl _ w).alloc (Nat.le_refl _) _
  have hx := Blk.new w 29 (vcl vo).toArray
  rw [List.toList_toArray] at hx
  obtain ⟨X, hX⟩ : ∃ X, X = w.heap.size := ⟨_, rfl⟩
  rw [← hX] at hx
  have HX := Lib.hid hx
  have HT := Lib.hid (h.below hb1)
  have HB := Lib.hid hb1
  have HN := Lib.hid hn
  have HLW := Lib.hid h.low
  have HXL := Lib.hid (show w.heap.size ≤ X by omega)
  clear h hb1 hx hn
  go_enter Try.func20, Try.ntmps20
  go_upto_region 1 with fail
  rw [← hX]
  generalize w.alloc (.cells (vcl vo).toArray 29) = w1 at HX HT HB ⊢
  clear hX
  have c0 := HX.out.cell 0
  have c1 := HX.out.cell 1
  simp only [vcl, List.getElem?_cons_zero, List.getElem?_cons_succ] at c0 c1
  have HC := Lib.hid (ris_any w1 F b g1 g2 g3 v t vo.w HT.out)
  cases hi : isW t vo.w with
  | false =>
    have HNO := Lib.hid (takeT_off (t := t) (vo := vo) (fun hok => by unfold isW at hi; rw [decide_eq_true ⟨hok.1, hok.2.1⟩] at hi; cases hi))
    rw [hi] at HC
    clear hi
    go_wp2_with fail
    refine HC.out.mono ?_
    rintro e w1 ⟨rfl, rfl⟩
    go_wp2_with fail
    go_ret
    exact ⟨by rw [HNO.out]; rfl, F, v, by rw [HNO.out]; exact HT.out, Kept.of_below _ HB.out, NewF.refl _ _⟩
  | true =>
    obtain ⟨k, hkw, hk⟩ := isW_nat hi
    rw [hi] at HC
    by_cases hs0 : vo.s < 0
    · have HNO := Lib.hid (takeT_off (t := t) (vo := vo) (fun hok => by have := hok.2.2.1; omega))
      clear hi hkw hk
      go_wp2_with fail
      refine HC.out.mono ?_
      rintro e w1 ⟨rfl, rfl⟩
      go_wp2_with fail
      go_ret
      exact ⟨by rw [HNO.out]; rfl, F, v, by rw [HNO.out]; exact HT.out, Kept.of_below _ HB.out, NewF.refl _ _⟩
    · by_cases hs1 : (1073741824 : Int) < vo.s
      · have HNO := Lib.hid (takeT_off (t := t) (vo := vo) (fun hok => by have := hok.2.2.2; omega))
        clear hi hkw hk
        go_wp2_with fail
        refine HC.out.mono ?_
        rintro e w1 ⟨rfl, rfl⟩
        go_wp2_with fail
        go_ret
        exact ⟨by rw [HNO.out]; rfl, F, v, by rw [HNO.out]; exact HT.out, Kept.of_below _ HB.out, NewF.refl _ _⟩
      · have HOK := Lib.hid (show okV t vo from ⟨by omega, by omega, by omega, by omega⟩)
        have HKW := Lib.hid hkw
        rw [hkw] at c0 HC
        clear hi hkw
        go_wp2_with fail
        refine HC.out.mono ?_
        rintro e w1 ⟨rfl, rfl⟩
        clear HC
        have HKN := Lib.hid (show (k : Int) < (t.n : Int) by omega)
        go_upto_region 3 with fail
        clear c0 c1
        refine wp_region_free (P := Try.prog) 7 (fun w' => Below w1.heap.size w1 w') (fun oq v w' => match oq with
            | 0 => v = .pointer (some ⟨b, 0, none⟩)
            | 1 => v = .pointer (some ⟨b, 0, none⟩)
            | 2 => v = .pointer (some ⟨b, 5, none⟩)
            | 3 => v = .slice (some ⟨g3, 0, none⟩) t.n t.n
            | 4 => v = .pointer (some ⟨X, 0, none⟩)
            | 5 => v = .int .i64 (k : Int)
            | 6 => v = .pointer (some ⟨g3, k, none⟩)
            | _ => True) (by kernel_rfl) (by kernel_rfl) (Below.refl _ _).drew ?gb ?vb ?steps ?fin
        case gb => exact fun a b h1 h2 => h1.trans (h2.mono h1.size)
        case vb =>
          intro oq v a b h hb
          match oq with
          | 0 => exact h
          | 1 => exact h
          | 2 => exact h
          | 3 => exact h
          | 4 => exact h
          | 5 => exact h
          | 6 => exact h
          | _ + 7 => trivial
        case steps =>
          intro vals
          simp only [List.take_succ_cons, List.take_zero, freeSteps, Act.put, List.setIfInBounds_toArray, List.set_cons_zero, List.set_cons_succ, Nat.reduceAdd]
          refine ⟨fun w8 hG hW => ?_, fun w8 hG hW => ?_, fun w8 hG hW => ?_, fun w8 hG hW => ?_, fun w8 hG hW => ?_, fun w8 hG hW => ?_, fun w8 hG hW => ?_, trivial⟩
          · clear hW
            refine stepAt_value rfl rfl rfl (.pointer (some ⟨b, 0, none⟩)) w8 ?_ ⟨rfl, Below.refl _ _⟩
            go_simp
          · have q0 := hW 0 (by decide)
            simp only at q0
            rw [q0]
            clear hW
            refine stepAt_value rfl rfl rfl (.pointer (some ⟨b, 0, none⟩)) w8 ?_ ⟨rfl, Below.refl _ _⟩
            go_simp
          · have q1 := hW 1 (by decide)
            simp only at q1
            rw [q1]
            clear hW
            refine stepAt_value rfl rfl rfl (.pointer (some ⟨b, 5, none⟩)) w8 ?_ ⟨rfl, Below.refl _ _⟩
            go_simp
          · have q2 := hW 2 (by decide)
            simp only at q2
            rw [q2]
            clear hW
            refine stepAt_value rfl rfl rfl (.slice (some ⟨g3, 0, none⟩) t.n t.n) w8 ?_ ⟨rfl, Below.refl _ _⟩
            have cc := (HT.out.below hG).cell5
            go_simp
          · clear hW
            refine stepAt_value rfl rfl rfl (.pointer (some ⟨X, 0, none⟩)) w8 ?_ ⟨rfl, Below.refl _ _⟩
            go_simp
          · have q4 := hW 4 (by decide)
            simp only at q4
            rw [q4]
            clear hW
            refine stepAt_value rfl rfl rfl (.int .i64 (k : Int)) w8 ?_ ⟨rfl, Below.refl _ _⟩
            have cc := (HX.out.below hG HX.out.lt).cell 0
            simp only [vcl, List.getElem?_cons_zero] at cc
            rw [HKW.out] at cc
            go_simp
          · have q3 := hW 3 (by decide)
            simp only at q3
            have q5 := hW 5 (by decide)
            simp only at q5
            rw [q3, q5]
            clear hW
            refine stepAt_value rfl rfl rfl (.pointer (some ⟨g3, k, none⟩)) w8 ?_ ⟨rfl, Below.refl _ _⟩
            have hlt := HKN.out
            go_simp
        case fin =>
          intro vals w2 hG hV
          have q3 := hV 3 (by omega)
          simp only at q3
          have q5 := hV 5 (by omega)
          simp only at q5
          have q6 := hV 6 (by omega)
          simp only at q6
          simp only [List.take_succ_cons, List.take_zero, List.drop_succ_cons, List.drop_zero, putAll, Act.put, List.setIfInBounds_toArray, List.set_cons_zero, List.set_cons_succ, Nat.reduceAdd]
          rw [q3, q5, q6]
          clear hV q3 q5 q6
          generalize vals 0 = y0
          generalize vals 1 = y1
          generalize vals 2 = y2
          generalize vals 4 = y4
          replace HT := Lib.hid (HT.out.below hG)
          replace HX := Lib.hid (HX.out.below hG HX.out.lt)
          replace HB := Lib.hid (HB.out.trans (hG.mono HB.out.size))
          clear hG
          obtain ⟨O, hO⟩ : ∃ O, O = otN t k := ⟨_, rfl⟩
          have HOT0 := Lib.hid hO.symm
          have HOT := Lib.hid (show otT t vo.w = O by rw [HKW.out]; exact HOT0.out)
          have c5 := HT.out.out hk
          rw [← hO] at c5
          clear hO HOT0
          cases O with
          | true =>
            have HTK := Lib.hid (takeT_out HOK.out HOT.out)
            go_wp2_with fail
            go_ret
            exact ⟨by rw [HTK.out]; rfl, F, v, by rw [HTK.out]; exact HT.out, Kept.of_below _ HB.out, NewF.refl _ _⟩
          | false =>
            have HSI := Lib.hid (show I6 vo.s by have h1 := HOK.out.2.2.1; have h2 := HOK.out.2.2.2; unfold I6; omega)
            have HQ := Lib.hid (ep_wrap HT.out.fit.gd.k1 HSI.out).1
            have HK0 := Lib.hid (show ¬ t.k = 0 by have := HT.out.fit.gd.k1; omega)
            go_upto_region 5 with fail
            clear c5
            refine wp_region_free (P := Try.prog) 7 (fun w' => Below w2.heap.size w2 w') (fun oq v w' => match oq with
                | 0 => v = .pointer (some ⟨X, 1, none⟩)
                | 1 => v = .int .i64 vo.s
                | 2 => v = .pointer (some ⟨b, 0, none⟩)
                | 3 => v = .pointer (some ⟨b, 0, none⟩)
                | 4 => v = .pointer (some ⟨b, 1, none⟩)
                | 5 => v = .int .i64 (t.k : Int)
                | 6 => v = .int .i64 (ep t.k vo.s)
                | _ => True) (by kernel_rfl) (by kernel_rfl) (Below.refl _ _).drew ?gb ?vb ?steps ?fin
            case gb => exact fun a b h1 h2 => h1.trans (h2.mono h1.size)
            case vb =>
              intro oq v a b h hb
              match oq with
              | 0 => exact h
              | 1 => exact h
              | 2 => exact h
              | 3 => exact h
              | 4 => exact h
              | 5 => exact h
              | 6 => exact h
              | _ + 7 => trivial
            case steps =>
              intro vals
              simp only [List.take_succ_cons, List.take_zero, freeSteps, Act.put, List.setIfInBounds_toArray, List.set_cons_zero, List.set_cons_succ, Nat.reduceAdd]
              refine ⟨fun w8 hG hW => ?_, fun w8 hG hW => ?_, fun w8 hG hW => ?_, fun w8 hG hW => ?_, fun w8 hG hW => ?_, fun w8 hG hW => ?_, fun w8 hG hW => ?_, trivial⟩
              · clear hW
                refine stepAt_value rfl rfl rfl (.pointer (some ⟨X, 1, none⟩)) w8 ?_ ⟨rfl, Below.refl _ _⟩
                go_simp
              · have q0 := hW 0 (by decide)
                simp only at q0
                rw [q0]
                clear hW
                refine stepAt_value rfl rfl rfl (.int .i64 vo.s) w8 ?_ ⟨rfl, Below.refl _ _⟩
                have cc := (HX.out.below hG HX.out.lt).cell 1
                simp only [vcl, List.getElem?_cons_zero, List.getElem?_cons_succ] at cc
                go_simp
              · clear hW
                refine stepAt_value rfl rfl rfl (.pointer (some ⟨b, 0, none⟩)) w8 ?_ ⟨rfl, Below.refl _ _⟩
                go_simp
              · have q2 := hW 2 (by decide)
                simp only at q2
                rw [q2]
                clear hW
                refine stepAt_value rfl rfl rfl (.pointer (some ⟨b, 0, none⟩)) w8 ?_ ⟨rfl, Below.refl _ _⟩
                go_simp
              · have q3 := hW 3 (by decide)
                simp only at q3
                rw [q3]
                clear hW
                refine stepAt_value rfl rfl rfl (.pointer (some ⟨b, 1, none⟩)) w8 ?_ ⟨rfl, Below.refl _ _⟩
                go_simp
              · have q4 := hW 4 (by decide)
                simp only at q4
                rw [q4]
                clear hW
                refine stepAt_value rfl rfl rfl (.int .i64 (t.k : Int)) w8 ?_ ⟨rfl, Below.refl _ _⟩
                have cc := (HT.out.below hG).cell1
                go_simp
              · have q1 := hW 1 (by decide)
                simp only at q1
                have q5 := hW 5 (by decide)
                simp only at q5
                rw [q1, q5]
                clear hW
                have hwr := HQ.out
                have hk00 := HK0.out
                refine stepAt_value rfl rfl rfl (.int .i64 (ep t.k vo.s)) w8 ?_ ⟨rfl, Below.refl _ _⟩
                go_simp
                rw [IntKind.wrap_i64]
                unfold wrap64 at hwr
                exact hwr
            case fin =>
              intro vals w4 hG hV
              have q6 := hV 6 (by omega)
              simp only at q6
              simp only [List.take_succ_cons, List.take_zero, List.drop_succ_cons, List.drop_zero, putAll, Act.put, List.setIfInBounds_toArray, List.set_cons_zero, List.set_cons_succ, Nat.reduceAdd]
              rw [q6]
              clear hV q6
              generalize vals 0 = y0
              generalize vals 1 = y1
              generalize vals 2 = y2
              generalize vals 3 = y3
              generalize vals 4 = y4
              generalize vals 5 = y5
              replace HT := Lib.hid (HT.out.below hG)
              replace HX := Lib.hid (HX.out.below hG HX.out.lt)
              replace HB := Lib.hid (HB.out.trans (hG.mono HB.out.size))
              clear hG
              obtain ⟨ao, cap, g, off, hvv, hlies⟩ := HT.out.open
              subst hvv
              have HLI := Lib.hid hlies
              have HGL := Lib.hid HT.out.fit.fs.g
              have c2 := HT.out.cell2
              clear hlies
              go_wp2_with fail
              clear c2
              go_loopw [43] (fun i wr => ∃ (j : Nat), j ≤ t.fs.length ∧ i = .int .i64 j ∧ Hid (fstT (t.fs.take j) vo.w (ep t.k vo.s) = none) ∧ Hid (Below w4.heap.size w4 wr)) (fun i _ => t.fs.length - (intOf i).toNat)
              case atStart => exact ⟨0, Nat.zero_le _, rfl, Lib.hid rfl, Lib.hid (Below.refl _ _)⟩
              case round =>
                obtain ⟨j, hj, rfl, HFN, HBL⟩ := hrel
                have HTr := Lib.hid (HT.out.below HBL.out)
                have HXr := Lib.hid (HX.out.below HBL.out HX.out.lt)
                have HBr := Lib.hid (HB.out.trans (HBL.out.mono HB.out.size))
                by_cases hlt : j < t.fs.length
                · obtain ⟨f, hf⟩ : ∃ f, t.fs[j]? = some f := ⟨_, List.getElem?_eq_getElem hlt⟩
                  have HFF := Lib.hid (fst_take hf HFN.out)
                  have HFG := Lib.hid (show (fvt f).g.length = 32 from HGL.out f (List.mem_of_getElem? hf))
                  obtain ⟨hao, hcx⟩ := (HLI.out.keep HBL.out).first HGL.out hf
                  have HCX := Lib.hid (show ∀ q x, (vcl (fvt f))[q]? = some x → wr.cell? ⟨g, off + j * 34 + q, none⟩ = some x from hcx)
                  subst hao
                  have hnl : (j : Int) < (t.fs.length : Int) := by omega
                  clear hf hcx
                  have HZB := Lib.hid (zero_first wr)
                  have hn0 := HN.out
                  go_upto_region 9 with (first
                    | ((with_reducible refine wpList_load_first (.tmp 45) ?_ ?_ g (off + j * 34) (fvt f) ?_ HFG.out HCX.out ?_); rfl; rfl; rfl)
                    | ((with_reducible refine wpList_store_first (.tmp 7) (.tmp 46) ?_ ?_ wr.heap.size vt0 (fvt f) ?_ ?_ HZB.out vt0_len HFG.out ?_); rfl; rfl; rfl; rfl))
                  try simp only [Act.put]
                  obtain ⟨Z, hZ⟩ : ∃ Z, Z = wr.heap.size := ⟨_, rfl⟩
                  rw [← hZ] at HZB ⊢
                  have HBX := Lib.hid (below_row ((Below.refl wr.heap.size wr).alloc (Nat.le_refl _) (.cells #[.int .i64 0, .int .i64 0, .int .u8 0, .int .u8 0, .int .u8 0, .int .u8 0, .int .u8 0, .int .u8 0, .int .u8 0, .int .u8 0, .int .u8 0, .int .u8 0, .int .u8 0, .int .u8 0, .int .u8 0, .int .u8 0, .int .u8 0, .int .u8 0, .int .u8 0, .int .u8 0, .int .u8 0, .int .u8 0, .int .u8 0, .int .u8 0, .int .u8 0, .int .u8 0, .int .u8 0, .int .u8 0, .int .u8 0, .int .u8 0, .int .u8 0, .int .u8 0, .int .u8 0, .int .u8 0] 71)) (show wr.heap.size ≤ Z by omega) (vcl (fvt f)).toArray)
                  have HZ3 := Lib.hid (HZB.out.setRow (vcl (fvt f)))
                  have HT3 := Lib.hid (HTr.out.below HBX.out)
                  have HX3 := Lib.hid (HXr.out.below HBX.out HXr.out.lt)
                  have HB3 := Lib.hid (HBr.out.trans (HBX.out.mono HBr.out.size))
                  have HBL3 := Lib.hid (HBL.out.trans (HBX.out.mono HBL.out.size))
                  clear HZB hZ
                  generalize (wr.alloc (.cells #[.int .i64 0, .int .i64 0, .int .u8 0, .int .u8 0, .int .u8 0, .int .u8 0, .int .u8 0, .int .u8 0, .int .u8 0, .int .u8 0, .int .u8 0, .int .u8 0, .int .u8 0, .int .u8 0, .int .u8 0, .int .u8 0, .int .u8 0, .int .u8 0, .int .u8 0, .int .u8 0, .int .u8 0, .int .u8 0, .int .u8 0, .int .u8 0, .int .u8 0, .int .u8 0, .int .u8 0, .int .u8 0, .int .u8 0, .int .u8 0, .int .u8 0, .int .u8 0, .int .u8 0, .int .u8 0] 71)).setRow Z (vcl (fvt f)).toArray = w5 at HZ3 HT3 HX3 HB3 HBL3 ⊢
                  clear HBX HTr HXr HBr HBL
                  have d0 := HZ3.out.cell 0
                  have d1 := HZ3.out.cell 1
                  have e0 := HX3.out.cell 0
                  simp only [vcl, List.getElem?_cons_zero, List.getElem?_cons_succ] at d0 d1 e0
                  rw [show (fvt f).w = f.w from rfl] at d0
                  rw [show (fvt f).s = f.e from rfl] at d1
                  by_cases hfw : f.w = vo.w
                  · by_cases hfe : f.e = ep t.k vo.s
                    · have HSM := Lib.hid (HFF.out.1 ⟨hfw, hfe⟩)
                      have HZN := Lib.hid HZ3.out.voteName
                      have HXN := Lib.hid HX3.out.voteName
                      have hrq := fun W => root_eqW W (fvt f).g vo.g HFG.out hv
                      obtain ⟨E, hE⟩ : ∃ E, E = ((fvt f).g == vo.g) := ⟨_, rfl⟩
                      have HE := Lib.hid hE
                      rw [← hE] at hrq
                      clear hE
                      rw [hfw] at d0
                      rw [hfe] at d1
                      cases E with
                      | true =>
                        have HTK := Lib.hid (takeT_same HOK.out HOT.out HSM.out (beq_iff_eq.1 HE.out.symm))
                        go_wp2_with (first
                          | ((with_reducible refine wpList_load_name (.tmp 58) ?_ ?_ Z 2 (fvt f).g ?_ HFG.out HZN.out ?_); rfl; rfl; rfl)
                          | ((with_reducible refine wpList_load_name (.tmp 60) ?_ ?_ X 2 vo.g ?_ hv HXN.out ?_); rfl; rfl; rfl))
                        go_ret
                        exact ⟨by rw [HTK.out]; rfl, F, _, by rw [HTK.out]; exact HT3.out, Kept.of_below _ HB3.out, NewF.refl _ _⟩
                      | false =>
                        have HTK := Lib.hid (takeT_double HOK.out HOT.out HSM.out (fun hc => by have := HE.out; rw [show (fvt f).g = vo.g from hc] at this; simp at this))
                        go_upto_region 12 with (first
                          | ((with_reducible refine wpList_load_name (.tmp 58) ?_ ?_ Z 2 (fvt f).g ?_ HFG.out HZN.out ?_); rfl; rfl; rfl)
                          | ((with_reducible refine wpList_load_name (.tmp 60) ?_ ?_ X 2 vo.g ?_ hv HXN.out ?_); rfl; rfl; rfl))
                        clear d0 d1 e0 hrq HZN HXN
                        refine wp_region_free (P := Try.prog) 7 (fun w' => Below w5.heap.size w5 w') (fun oq v w' => match oq with
                            | 0 => v = .pointer (some ⟨b, 0, none⟩)
                            | 1 => v = .pointer (some ⟨b, 0, none⟩)
                            | 2 => v = .pointer (some ⟨b, 5, none⟩)
                            | 3 => v = .slice (some ⟨g3, 0, none⟩) t.n t.n
                            | 4 => v = .pointer (some ⟨X, 0, none⟩)
                            | 5 => v = .int .i64 (k : Int)
                            | 6 => v = .pointer (some ⟨g3, k, none⟩)
                            | _ => True) (by kernel_rfl) (by kernel_rfl) (Below.refl _ _).drew ?gb ?vb ?steps ?fin
                        case gb => exact fun a b h1 h2 => h1.trans (h2.mono h1.size)
                        case vb =>
                          intro oq v a b h hb
                          match oq with
                          | 0 => exact h
                          | 1 => exact h
                          | 2 => exact h
                          | 3 => exact h
                          | 4 => exact h
                          | 5 => exact h
                          | 6 => exact h
                          | _ + 7 => trivial
                        case steps =>
                          intro vals
                          simp only [List.take_succ_cons, List.take_zero, freeSteps, Act.put, List.setIfInBounds_toArray, List.set_cons_zero, List.set_cons_succ, Nat.reduceAdd]
                          refine ⟨fun w8 hG hW => ?_, fun w8 hG hW => ?_, fun w8 hG hW => ?_, fun w8 hG hW => ?_, fun w8 hG hW => ?_, fun w8 hG hW => ?_, fun w8 hG hW => ?_, trivial⟩
                          · clear hW
                            refine stepAt_value rfl rfl rfl (.pointer (some ⟨b, 0, none⟩)) w8 ?_ ⟨rfl, Below.refl _ _⟩
                            go_simp
                          · have q0 := hW 0 (by decide)
                            simp only at q0
                            rw [q0]
                            clear hW
                            refine stepAt_value rfl rfl rfl (.pointer (some ⟨b, 0, none⟩)) w8 ?_ ⟨rfl, Below.refl _ _⟩
                            go_simp
                          · have q1 := hW 1 (by decide)
                            simp only at q1
                            rw [q1]
                            clear hW
                            refine stepAt_value rfl rfl rfl (.pointer (some ⟨b, 5, none⟩)) w8 ?_ ⟨rfl, Below.refl _ _⟩
                            go_simp
                          · have q2 := hW 2 (by decide)
                            simp only at q2
                            rw [q2]
                            clear hW
                            refine stepAt_value rfl rfl rfl (.slice (some ⟨g3, 0, none⟩) t.n t.n) w8 ?_ ⟨rfl, Below.refl _ _⟩
                            have cc := (HT3.out.below hG).cell5
                            go_simp
                          · clear hW
                            refine stepAt_value rfl rfl rfl (.pointer (some ⟨X, 0, none⟩)) w8 ?_ ⟨rfl, Below.refl _ _⟩
                            go_simp
                          · have q4 := hW 4 (by decide)
                            simp only at q4
                            rw [q4]
                            clear hW
                            refine stepAt_value rfl rfl rfl (.int .i64 (k : Int)) w8 ?_ ⟨rfl, Below.refl _ _⟩
                            have cc := (HX3.out.below hG HX3.out.lt).cell 0
                            simp only [vcl, List.getElem?_cons_zero] at cc
                            rw [HKW.out] at cc
                            go_simp
                          · have q3 := hW 3 (by decide)
                            simp only at q3
                            have q5 := hW 5 (by decide)
                            simp only at q5
                            rw [q3, q5]
                            clear hW
                            refine stepAt_value rfl rfl rfl (.pointer (some ⟨g3, k, none⟩)) w8 ?_ ⟨rfl, Below.refl _ _⟩
                            have hlt := HKN.out
                            go_simp
                        case fin =>
                          intro vals w6 hG hV
                          have q3 := hV 3 (by omega)
                          simp only at q3
                          have q5 := hV 5 (by omega)
                          simp only at q5
                          have q6 := hV 6 (by omega)
                          simp only at q6
                          simp only [List.take_succ_cons, List.take_zero, List.drop_succ_cons, List.drop_zero, putAll, Act.put, List.setIfInBounds_toArray, List.set_cons_zero, List.set_cons_succ, Nat.reduceAdd]
                          rw [q3, q5, q6]
                          clear hV q3 q5 q6
                          generalize vals 0 = y0
                          generalize vals 1 = y1
                          generalize vals 2 = y2
                          generalize vals 4 = y4
                          replace HT3 := Lib.hid (HT3.out.below hG)
                          replace HX3 := Lib.hid (HX3.out.below hG HX3.out.lt)
                          replace HB3 := Lib.hid (HB3.out.trans (hG.mono HB3.out.size))
                          clear hG
                          have HDO := Lib.hid (HT3.out.doOut (k := k))
                          have cu := HT3.out.out hk
                          have fu := HT3.out.l3.free k
                          go_wp2_with fail
                          go_ret
                          rw [HTK.out, HKW.out]
                          exact ⟨rfl, F, _, HDO.out.1, (Kept.of_below F HB3.out).trans (HDO.out.2.mono (F' := F) (fun x hx => by simp at hx; rw [hx]; exact HT3.out.inF.2.2.2)) (NewF.refl _ _), NewF.refl _ _⟩
                    · have HSN := Lib.hid (HFF.out.2 fun hc => hfe hc.2)
                      go_wp2_with fail
                      go_roundw
                      case rel => exact ⟨j + 1, by omega, by go_num, HSN, HBL3⟩
                      case measure => simp [intOf]; omega
                  · have HSN := Lib.hid (HFF.out.2 fun hc => hfw hc.1)
                    go_wp2_with fail
                    go_roundw
                    case rel => exact ⟨j + 1, by omega, by go_num, HSN, HBL3⟩
                    case measure => simp [intOf]; omega
                · obtain rfl : j = t.fs.length := by omega
                  rw [List.take_length] at HFN
                  obtain ⟨w5, hw5⟩ : ∃ w5, w5 = wr := ⟨_, rfl⟩
                  rw [← hw5] at HTr HXr HBr ⊢
                  clear hw5 hlt HT HX HB HBL
                  have HT := HTr
                  have HX := HXr
                  have HB := HBr
                  clear HTr HXr HBr
                  have HNL := Lib.hid (show (⟨vo.w, ep t.k vo.s, vo.g⟩ : Vt).g.length = 32 from hv)
                  obtain ⟨nf, hnf⟩ : ∃ nf : Vt, nf = ⟨vo.w, ep t.k vo.s, vo.g⟩ := ⟨_, rfl⟩
                  have HNF := Lib.hid hnf
                  rw [← hnf] at HNL
                  clear hnf
                  have HFSL := Lib.hid (frows_length t.fs HGL.out)
                  have HNN := HN.out
                  obtain ⟨i0, hi0, hz0, hz1, hz2⟩ := info_parts Try.infoFirst
                  have hzc : (Value.agg (vcl vt0).toArray).cells.size = 34 := vcl_length vt0_len
                  have HBLK := Lib.hid HT.out.blk
                  have HCE := Lib.hid (show ([.int .i64 (t.n : Int), .int .i64 (t.k : Int), .slice ao t.fs.length cap, .slice (some ⟨g1, 0, none⟩) t.n t.n, .slice (some ⟨g2, 0, none⟩) t.n t.n, .slice (some ⟨g3, 0, none⟩) t.n t.n] : List Value)[2]? = some (.slice ao t.fs.length cap) from rfl)
                  have HWD := Lib.hid HT.out.wide
                  have HNB := Lib.hid (show b ∉ ownL (.slice ao t.fs.length cap) from fun hm => (HT.out.vne b (mem_ownL.1 hm)).1 rfl)
                  have HXO := Lib.hid (show X ∉ ownL (.slice ao t.fs.length cap) from fun hm => by have := HLW.out X (HT.out.inv X (mem_ownL.1 hm)); have := HXL.out; omega)
                  have HXF := Lib.hid (show X ∉ F from fun hm => by have := HLW.out X hm; have := HXL.out; omega)
                  have HFN2 := Lib.hid HFN.out
                  clear HFN
                  go_upto_region 15 with fail
                  refine wp_region_freeK (P := Try.prog) 15 (fun w' => Kept (ownL (.slice ao t.fs.length cap)) w5 w' ∧ Wide 34 w' 0 (.slice ao t.fs.length cap) (frows t.fs)) (fun oq v w' => match oq with
                      | 0 => v = .pointer (some ⟨b, 0, none⟩)
                      | 1 => v = .pointer (some ⟨b, 0, none⟩)
                      | 2 => v = .pointer (some ⟨b, 0, none⟩)
                      | 3 => v = .pointer (some ⟨b, 2, none⟩)
                      | 4 => v = .slice ao t.fs.length cap
                      | 5 => v = .pointer (some ⟨X, 0, none⟩)
                      | 6 => v = .int .i64 (k : Int)
                      | 7 => v = .int .i64 (ep t.k vo.s)
                      | 8 => v = .pointer (some ⟨X, 2, none⟩)
                      | 9 => v = .agg (bv vo.g).toArray
                      | 10 => v = .agg (vcl nf).toArray
                      | 11 => ∃ g, v = .slice (some ⟨g, 0, none⟩) 1 1 ∧ Lies w' w'.heap.size (some ⟨g, 0, none⟩) g 0 (vcl nf)
                      | 12 => Wide 34 w' 0 v (frows t.fs ++ vcl nf) ∧ (v.ownBlock = Value.ownBlock (.slice ao t.fs.length cap) ∨ ∃ j, v.ownBlock = some j ∧ w5.heap.size ≤ j)
                      | 13 => v = .pointer (some ⟨b, 0, none⟩)
                      | 14 => v = .pointer (some ⟨b, 2, none⟩)
                      | _ => True) (fun hh oq => match oq with
                      | 11 => hh 12
                      | _ => false) [] (by kernel_rfl) (by kernel_rfl) (by kernel_rfl) ⟨(Kept.refl _ _).drew, HWD.out.below (Below.refl _ _).drew⟩ ?gb ?vb ?db ?steps ?fin
                  case gb => exact fun a b h1 h2 => ⟨h1.1.then h2, h1.2.below h2⟩
                  case vb =>
                    intro oq v a b h hb
                    match oq with
                    | 0 => exact h
                    | 1 => exact h
                    | 2 => exact h
                    | 3 => exact h
                    | 4 => exact h
                    | 5 => exact h
                    | 6 => exact h
                    | 7 => exact h
                    | 8 => exact h
                    | 9 => exact h
                    | 10 => exact h
                    | 11 => (obtain ⟨g, h1, h2⟩ := h; exact ⟨g, h1, h2.below hb⟩)
                    | 12 => exact ⟨h.1.below hb, h.2⟩
                    | 13 => exact h
                    | 14 => exact h
                    | _ + 15 => trivial
                  case db =>
                    intro hh i oq h
                    split at h
                    · exact turnOn_of h
                    · cases h
                  case steps =>
                    intro vals
                    simp only [List.take_succ_cons, List.take_zero, freeStepsK, Act.put, List.setIfInBounds_toArray, List.set_cons_zero, List.set_cons_succ, Nat.reduceAdd]
                    refine ⟨fun hh w8 hi hK hG hW hV => ?_, fun hh w8 hi hK hG hW hV => ?_, fun hh w8 hi hK hG hW hV => ?_, fun hh w8 hi hK hG hW hV => ?_, fun hh w8 hi hK hG hW hV => ?_, fun hh w8 hi hK hG hW hV => ?_, fun hh w8 hi hK hG hW hV => ?_, fun hh w8 hi hK hG hW hV => ?_, fun hh w8 hi hK hG hW hV => ?_, fun hh w8 hi hK hG hW hV => ?_, fun hh w8 hi hK hG hW hV => ?_, fun hh w8 hi hK hG hW hV => ?_, fun hh w8 hi hK hG hW hV => ?_, fun hh w8 hi hK hG hW hV => ?_, fun hh w8 hi hK hG hW hV => ?_, trivial⟩
                    · clear hW hV hK hi
                      refine stepAt_value rfl rfl rfl (.pointer (some ⟨b, 0, none⟩)) w8 ?_ ⟨rfl, .inl (Below.refl _ _)⟩
                      go_simp
                    · clear hW hV hK hi
                      refine stepAt_value rfl rfl rfl (.pointer (some ⟨b, 0, none⟩)) w8 ?_ ⟨rfl, .inl (Below.refl _ _)⟩
                      go_simp
                    · have q1 := hV 1 (hW 1 (by decide)) rfl
                      simp only at q1
                      rw [q1]
                      clear hW hV hK hi
                      refine stepAt_value rfl rfl rfl (.pointer (some ⟨b, 0, none⟩)) w8 ?_ ⟨rfl, .inl (Below.refl _ _)⟩
                      go_simp
                    · have q2 := hV 2 (hW 2 (by decide)) rfl
                      simp only at q2
                      rw [q2]
                      clear hW hV hK hi
                      refine stepAt_value rfl rfl rfl (.pointer (some ⟨b, 2, none⟩)) w8 ?_ ⟨rfl, .inl (Below.refl _ _)⟩
                      go_simp
                    · have q3 := hV 3 (hW 3 (by decide)) rfl
                      simp only at q3
                      rw [q3]
                      clear hW hV hK hi
                      have c := ((HBLK.out.kept hG.1 HNB.out).cell 2).trans HCE.out
                      refine stepAt_value rfl rfl rfl (.slice ao t.fs.length cap) w8 ?_ ⟨rfl, .inl (Below.refl _ _)⟩
                      go_simp
                    · clear hW hV hK hi
                      refine stepAt_value rfl rfl rfl (.pointer (some ⟨X, 0, none⟩)) w8 ?_ ⟨rfl, .inl (Below.refl _ _)⟩
                      go_simp
                    · have q5 := hV 5 (hW 5 (by decide)) rfl
                      simp only at q5
                      rw [q5]
                      clear hW hV hK hi
                      refine stepAt_value rfl rfl rfl (.int .i64 (k : Int)) w8 ?_ ⟨rfl, .inl (Below.refl _ _)⟩
                      have cc := (HX.out.kept hG.1 HXO.out).cell 0
                      simp only [vcl, List.getElem?_cons_zero] at cc
                      rw [HKW.out] at cc
                      go_simp
                    · clear hW hV hK hi
                      refine stepAt_value rfl rfl rfl (.int .i64 (ep t.k vo.s)) w8 ?_ ⟨rfl, .inl (Below.refl _ _)⟩
                      go_simp
                    · clear hW hV hK hi
                      refine stepAt_value rfl rfl rfl (.pointer (some ⟨X, 2, none⟩)) w8 ?_ ⟨rfl, .inl (Below.refl _ _)⟩
                      go_simp
                    · have q8 := hV 8 (hW 8 (by decide)) rfl
                      simp only at q8
                      rw [q8]
                      clear hW hV hK hi
                      refine stepAt_load_run rfl rfl rfl _ _ rfl _ _ rfl (run_load_root hv (HX.out.kept hG.1 HXO.out).voteName) ⟨rfl, .inl (Below.refl _ _)⟩
                    · have q6 := hV 6 (hW 6 (by decide)) rfl
                      simp only at q6
                      have q7 := hV 7 (hW 7 (by decide)) rfl
                      simp only at q7
                      have q9 := hV 9 (hW 9 (by decide)) rfl
                      simp only at q9
                      rw [q6, q7, q9]
                      clear hW hV hK hi
                      refine stepAt_build rfl rfl rfl 71 _ rfl (vcl nf).toArray ?_ ⟨rfl, .inl (Below.refl _ _)⟩
                      simp only [List.map_toArray, List.map_cons, List.map_nil]
                      rw [HNF.out, HKW.out]
                      exact built_first _ _ _ hv
                    · have q10 := hV 10 (hW 10 (by decide)) rfl
                      simp only at q10
                      rw [q10]
                      clear hW hV hK hi
                      refine stepAt_build_rows rfl rfl rfl 67 71 1 _ rfl i0 (.agg (vcl vt0).toArray) (s := 34) (by omega) [vcl nf] (fun rr hrr => by simp at hrr; rw [hrr]; exact (vcl_length HNL.out)) Try.underlying67 hi0 hz0 hz1 rfl (by omega) (by omega) rfl ⟨⟨w8.heap.size, rfl, ?_⟩, .inl ((Below.refl _ _).alloc (Nat.le_refl _) _)⟩
                      rw [show ([vcl nf] : List (List Value)).flatten = vcl nf by simp]
                      exact ⟨fun _ => rfl, fun _ => by simp, fun j u hj => by rw [Nat.zero_add]; exact ((Blk.new w8 71 (vcl nf).toArray).cell j).trans hj⟩
                    · have q4 := hV 4 (hW 4 (by decide)) rfl
                      simp only at q4
                      obtain ⟨g, q6, hl6⟩ := hV 11 (hW 11 (by decide)) hi
                      rw [q4, q6]
                      refine stepAt_append_wide2 rfl rfl rfl _ _ 67 67 rfl rfl hG.2 (by omega) 71 i0 (.agg (vcl vt0).toArray) 48 Try.underlying67 hi0 hz0 hz1 hz2 hzc _ rfl 1 (vcl nf) (hl6.src 1 67 71 Try.underlying67 ((vcl_length HNL.out)) (vcl_one _) (by omega)) ?_ ?_ (Nat.zero_le _) fun v' w' h1 h2 h3 => ⟨⟨h1, ?_⟩, .inr ⟨⟨hG.1.trans (Kept.of_grown _ h2.grown (fun j hj => mem_ownL.2 hj)) (NewF.refl _ _), h3⟩, fun j hj hd => ?_⟩⟩
                      · rw [HFSL.out]; unfold maxLen; omega
                      · rw [HFSL.out]; omega
                      · rcases h2.own with h | ⟨j, h, hj⟩
                        · exact .inl h
                        · exact .inr ⟨j, h, Nat.le_trans hG.1.size hj⟩
                      · match j, hj, hd with
                        | 0, hj, _ => exact hV 0 hj rfl
                        | 1, hj, _ => exact hV 1 hj rfl
                        | 2, hj, _ => exact hV 2 hj rfl
                        | 3, hj, _ => exact hV 3 hj rfl
                        | 4, hj, _ => exact hV 4 hj rfl
                        | 5, hj, _ => exact hV 5 hj rfl
                        | 6, hj, _ => exact hV 6 hj rfl
                        | 7, hj, _ => exact hV 7 hj rfl
                        | 8, hj, _ => exact hV 8 hj rfl
                        | 9, hj, _ => exact hV 9 hj rfl
                        | 10, hj, _ => exact hV 10 hj rfl
                        | 11, _, hd => simp only [turnOn_self] at hd; cases hd
                        | 12, hj, _ => rw [hi] at hj; cases hj
                        | 13, hj, _ => exact hV 13 hj rfl
                        | 14, hj, _ => exact hV 14 hj rfl
                        | _ + 15, _, _ => trivial
                    · have q0 := hV 0 (hW 0 (by decide)) rfl
                      simp only at q0
                      rw [q0]
                      clear hW hV hK hi
                      refine stepAt_value rfl rfl rfl (.pointer (some ⟨b, 0, none⟩)) w8 ?_ ⟨rfl, .inl (Below.refl _ _)⟩
                      go_simp
                    · have q13 := hV 13 (hW 13 (by decide)) rfl
                      simp only at q13
                      rw [q13]
                      clear hW hV hK hi
                      refine stepAt_value rfl rfl rfl (.pointer (some ⟨b, 2, none⟩)) w8 ?_ ⟨rfl, .inl (Below.refl _ _)⟩
                      go_simp
                  case fin =>
                    intro hh vals w10 hall hG hV
                    have q7 := hV 12 (hall 12 (by omega)) rfl
                    have q9 := hV 14 (hall 14 (by omega)) rfl
                    simp only at q7 q9
                    simp only [List.take_succ_cons, List.take_zero, List.drop_succ_cons, List.drop_zero, putAll, Act.put, List.setIfInBounds_toArray, List.set_cons_zero, List.set_cons_succ, Nat.reduceAdd]
                    rw [q9]
                    have HG := Lib.hid hG.1
                    have HW7 := Lib.hid q7.1
                    have HO7 := Lib.hid q7.2
                    clear hV q7 q9 hG hall
                    generalize vals 0 = x0
                    generalize vals 1 = x1
                    generalize vals 2 = x2
                    generalize vals 3 = x3
                    generalize vals 4 = x4
                    generalize vals 5 = x5
                    generalize vals 6 = x6
                    generalize vals 7 = x7
                    generalize vals 8 = x8
                    generalize vals 9 = x9
                    generalize vals 10 = x10
                    generalize vals 11 = x11
                    generalize vals 13 = x13
                    obtain ⟨v7, hv7⟩ : ∃ v7, vals 12 = v7 := ⟨_, rfl⟩
                    rw [hv7] at HW7 HO7 ⊢
                    clear hv7
                    obtain ⟨ao7, n7, cap7, b7, off7, e7, _, _⟩ := HW7.out.lies
                    subst e7
                    have c9 := (HBLK.out.kept HG.out HNB.out).cell 2
                    have f9 := (HBLK.out.kept HG.out HNB.out).free 2
                    go_upto_region 16 with fail
                    clear c9 f9
                    have HADD := Lib.hid (HT.out.fit.add hv HOK.out HFN2.out)
                    have HST := Lib.hid (HT.out.stored HADD.out ⟨rfl, rfl, rfl, rfl, rfl⟩ HG.out (by
                      show Wide 34 w10 0 _ (frows (t.fs ++ [⟨vo.w, ep t.k vo.s, vo.g⟩]))
                      rw [frows_append, frows_sole]
                      have := HW7.out
                      rw [HNF.out] at this
                      exact this) (fun q hq => by
                      refine ⟨?_, HW7.out.ownLt (by rw [List.length_append, vcl_length HNL.out]; omega) q hq⟩
                      rcases HO7.out with h | ⟨j, h, hj⟩
                      · exact .inl (h.symm.trans hq)
                      · rw [hq] at h; cases h; exact .inr hj))
                    obtain ⟨F2, hF2⟩ : ∃ F2, F2 = ownL (.slice ao7 n7 cap7) ++ F := ⟨_, rfl⟩
                    rw [← hF2] at HST
                    clear hF2
                    have HX5 := Lib.hid HX.out.lt
                    replace HX := Lib.hid (HX.out.kept HST.out.2.1 HXF.out)
                    have HKP := Lib.hid ((Kept.of_below F HB.out).trans HST.out.2.1 (NewF.refl _ _))
                    have HNW := Lib.hid (show NewF w F F2 from (NewF.refl w F).trans HST.out.2.2 HB.out.size)
                    have HT2 := Lib.hid HST.out.1
                    have HXF2 := Lib.hid (show X ∉ F2 from fun hm => by
                      rcases HST.out.2.2 X hm with h | h
                      · exact HXF.out h
                      · have := HX5.out; omega)
                    clear HX5 HST HG HW7 HO7 HT HB HBLK HCE HWD HNB HXO HADD hi0 hz0 hz1 hz2 hzc
                    generalize w10.setCell ⟨b, 2, none⟩ (.slice ao7 n7 cap7) = w6 at HX HKP HT2 ⊢
                    obtain ⟨v2, hv2⟩ : ∃ v2 : Value, v2 = .slice ao7 n7 cap7 := ⟨_, rfl⟩
                    rw [← hv2] at HT2
                    clear hv2
                    try simp only [Act.put]
                    obtain ⟨H, hH⟩ : ∃ H, H = hsN t k := ⟨_, rfl⟩
                    have HHS := Lib.hid hH.symm
                    clear hH
                    have HLS := Lib.hid (show I6 (ltN t k).s by have := HT2.out.fit.l k; rw [show ltN (addF t vo) k = ltN t k from rfl] at this; unfold I6; omega)
                    have HQ2 := Lib.hid (ep_wrap HT2.out.fit.gd.k1 HLS.out).1
                    have HHT := Lib.hid (show hsT t vo.w = hsN t k by rw [HKW.out]; rfl)
                    have HLT := Lib.hid (show ltT t vo.w = ltN t k by rw [HKW.out]; rfl)
                    cases H with
                    | false =>
                      refine wp_region_free (P := Try.prog) 25 (fun w' => Below w6.heap.size w6 w') (fun oq v w' => match oq with
                          | 0 => v = .pointer (some ⟨b, 0, none⟩)
                          | 1 => v = .pointer (some ⟨b, 0, none⟩)
                          | 2 => v = .pointer (some ⟨b, 4, none⟩)
                          | 3 => v = .slice (some ⟨g2, 0, none⟩) t.n t.n
                          | 4 => v = .pointer (some ⟨X, 0, none⟩)
                          | 5 => v = .int .i64 (k : Int)
                          | 6 => v = .pointer (some ⟨g2, k, none⟩)
                          | 7 => v = .bool false
                          | 8 => v = .bool false
                          | 9 => v = undef
                          | 10 => v = undef
                          | 11 => v = undef
                          | 12 => v = undef
                          | 13 => v = undef
                          | 14 => v = undef
                          | 15 => v = undef
                          | 16 => v = undef
                          | 17 => v = undef
                          | 18 => v = undef
                          | 19 => v = undef
                          | 20 => v = undef
                          | 21 => v = undef
                          | 22 => v = undef
                          | 23 => v = undef
                          | 24 => v = undef
                          | _ => True) (by kernel_rfl) (by kernel_rfl) (Below.refl _ _).drew ?gb ?vb ?steps ?fin
                      case gb => exact fun a b h1 h2 => h1.trans (h2.mono h1.size)
                      case vb =>
                        intro oq v a b h hb
                        match oq with
                        | 0 => exact h
                        | 1 => exact h
                        | 2 => exact h
                        | 3 => exact h
                        | 4 => exact h
                        | 5 => exact h
                        | 6 => exact h
                        | 7 => exact h
                        | 8 => exact h
                        | 9 => exact h
                        | 10 => exact h
                        | 11 => exact h
                        | 12 => exact h
                        | 13 => exact h
                        | 14 => exact h
                        | 15 => exact h
                        | 16 => exact h
                        | 17 => exact h
                        | 18 => exact h
                        | 19 => exact h
                        | 20 => exact h
                        | 21 => exact h
                        | 22 => exact h
                        | 23 => exact h
                        | 24 => exact h
                        | _ + 25 => trivial
                      case steps =>
                        intro vals
                        simp only [List.take_succ_cons, List.take_zero, freeSteps, Act.put, List.setIfInBounds_toArray, List.set_cons_zero, List.set_cons_succ, Nat.reduceAdd]
                        refine ⟨fun w8 hG hW => ?_, fun w8 hG hW => ?_, fun w8 hG hW => ?_, fun w8 hG hW => ?_, fun w8 hG hW => ?_, fun w8 hG hW => ?_, fun w8 hG hW => ?_, fun w8 hG hW => ?_, fun w8 hG hW => ?_, fun w8 hG hW => ?_, fun w8 hG hW => ?_, fun w8 hG hW => ?_, fun w8 hG hW => ?_, fun w8 hG hW => ?_, fun w8 hG hW => ?_, fun w8 hG hW => ?_, fun w8 hG hW => ?_, fun w8 hG hW => ?_, fun w8 hG hW => ?_, fun w8 hG hW => ?_, fun w8 hG hW => ?_, fun w8 hG hW => ?_, fun w8 hG hW => ?_, fun w8 hG hW => ?_, fun w8 hG hW => ?_, trivial⟩
                        · clear hW
                          refine stepAt_value rfl rfl rfl (.pointer (some ⟨b, 0, none⟩)) w8 ?_ ⟨rfl, Below.refl _ _⟩
                          go_simp
                        · have q0 := hW 0 (by decide)
                          simp only at q0
                          rw [q0]
                          clear hW
                          refine stepAt_value rfl rfl rfl (.pointer (some ⟨b, 0, none⟩)) w8 ?_ ⟨rfl, Below.refl _ _⟩
                          go_simp
                        · have q1 := hW 1 (by decide)
                          simp only at q1
                          rw [q1]
                          clear hW
                          refine stepAt_value rfl rfl rfl (.pointer (some ⟨b, 4, none⟩)) w8 ?_ ⟨rfl, Below.refl _ _⟩
                          go_simp
                        · have q2 := hW 2 (by decide)
                          simp only at q2
                          rw [q2]
                          clear hW
                          refine stepAt_value rfl rfl rfl (.slice (some ⟨g2, 0, none⟩) t.n t.n) w8 ?_ ⟨rfl, Below.refl _ _⟩
                          have cc := (HT2.out.below hG).cell4
                          rw [show (addF t vo).n = t.n from rfl] at cc
                          go_simp
                        · clear hW
                          refine stepAt_value rfl rfl rfl (.pointer (some ⟨X, 0, none⟩)) w8 ?_ ⟨rfl, Below.refl _ _⟩
                          go_simp
                        · have q4 := hW 4 (by decide)
                          simp only at q4
                          rw [q4]
                          clear hW
                          refine stepAt_value rfl rfl rfl (.int .i64 (k : Int)) w8 ?_ ⟨rfl, Below.refl _ _⟩
                          have cc := (HX.out.below hG HX.out.lt).cell 0
                          simp only [vcl, List.getElem?_cons_zero] at cc
                          rw [HKW.out] at cc
                          go_simp
                        · have q3 := hW 3 (by decide)
                          simp only at q3
                          have q5 := hW 5 (by decide)
                          simp only at q5
                          rw [q3, q5]
                          clear hW
                          refine stepAt_value rfl rfl rfl (.pointer (some ⟨g2, k, none⟩)) w8 ?_ ⟨rfl, Below.refl _ _⟩
                          have hlt := HKN.out
                          go_simp
                        · have q6 := hW 6 (by decide)
                          simp only at q6
                          rw [q6]
                          clear hW
                          refine stepAt_value rfl rfl rfl (.bool false) w8 ?_ ⟨rfl, Below.refl _ _⟩
                          have cc := (HT2.out.below hG).voted hk
                          rw [show hsN (addF t vo) k = hsN t k from rfl, HHS.out] at cc
                          go_simp
                        · have q7 := hW 7 (by decide)
                          simp only at q7
                          rw [q7]
                          clear hW
                          refine stepAt_value rfl rfl rfl (.bool false) w8 ?_ ⟨rfl, Below.refl _ _⟩
                          go_simp
                        · have q8 := hW 8 (by decide)
                          simp only at q8
                          rw [q8]
                          clear hW
                          exact stepAt_skip rfl rfl rfl ⟨rfl, Below.refl _ _⟩
                        · have q8 := hW 8 (by decide)
                          simp only at q8
                          rw [q8]
                          clear hW
                          exact stepAt_skip rfl rfl rfl ⟨rfl, Below.refl _ _⟩
                        · have q8 := hW 8 (by decide)
                          simp only at q8
                          rw [q8]
                          clear hW
                          exact stepAt_skip rfl rfl rfl ⟨rfl, Below.refl _ _⟩
                        · have q8 := hW 8 (by decide)
                          simp only at q8
                          rw [q8]
                          clear hW
                          exact stepAt_skip rfl rfl rfl ⟨rfl, Below.refl _ _⟩
                        · have q8 := hW 8 (by decide)
                          simp only at q8
                          rw [q8]
                          clear hW
                          exact stepAt_skip rfl rfl rfl ⟨rfl, Below.refl _ _⟩
                        · have q8 := hW 8 (by decide)
                          simp only at q8
                          rw [q8]
                          clear hW
                          exact stepAt_skip rfl rfl rfl ⟨rfl, Below.refl _ _⟩
                        · have q8 := hW 8 (by decide)
                          simp only at q8
                          rw [q8]
                          clear hW
                          exact stepAt_skip rfl rfl rfl ⟨rfl, Below.refl _ _⟩
                        · have q8 := hW 8 (by decide)
                          simp only at q8
                          rw [q8]
                          clear hW
                          exact stepAt_skip rfl rfl rfl ⟨rfl, Below.refl _ _⟩
                        · have q8 := hW 8 (by decide)
                          simp only at q8
                          rw [q8]
                          clear hW
                          exact stepAt_skip rfl rfl rfl ⟨rfl, Below.refl _ _⟩
                        · have q8 := hW 8 (by decide)
                          simp only at q8
                          rw [q8]
                          clear hW
                          exact stepAt_skip rfl rfl rfl ⟨rfl, Below.refl _ _⟩
                        · have q8 := hW 8 (by decide)
                          simp only at q8
                          rw [q8]
                          clear hW
                          exact stepAt_skip rfl rfl rfl ⟨rfl, Below.refl _ _⟩
                        · have q8 := hW 8 (by decide)
                          simp only at q8
                          rw [q8]
                          clear hW
                          exact stepAt_skip rfl rfl rfl ⟨rfl, Below.refl _ _⟩
                        · have q8 := hW 8 (by decide)
                          simp only at q8
                          rw [q8]
                          clear hW
                          exact stepAt_skip rfl rfl rfl ⟨rfl, Below.refl _ _⟩
                        · have q8 := hW 8 (by decide)
                          simp only at q8
                          rw [q8]
                          clear hW
                          exact stepAt_skip rfl rfl rfl ⟨rfl, Below.refl _ _⟩
                        · have q8 := hW 8 (by decide)
                          simp only at q8
                          rw [q8]
                          clear hW
                          exact stepAt_skip rfl rfl rfl ⟨rfl, Below.refl _ _⟩
                        · have q8 := hW 8 (by decide)
                          simp only at q8
                          rw [q8]
                          clear hW
                          exact stepAt_skip rfl rfl rfl ⟨rfl, Below.refl _ _⟩
                      case fin =>
                        intro vals w7 hG hV
                        have q8 := hV 8 (by omega)
                        simp only at q8
                        have q24 := hV 24 (by omega)
                        simp only at q24
                        simp only [List.take_succ_cons, List.take_zero, List.drop_succ_cons, List.drop_zero, putAll, Act.put, List.setIfInBounds_toArray, List.set_cons_zero, List.set_cons_succ, Nat.reduceAdd]
                        rw [q8, q24]
                        clear hV q8 q24
                        generalize vals 0 = y0
                        generalize vals 1 = y1
                        generalize vals 2 = y2
                        generalize vals 3 = y3
                        generalize vals 4 = y4
                        generalize vals 5 = y5
                        generalize vals 6 = y6
                        generalize vals 7 = y7
                        generalize vals 9 = y9
                        generalize vals 10 = y10
                        generalize vals 11 = y11
                        generalize vals 12 = y12
                        generalize vals 13 = y13
                        generalize vals 14 = y14
                        generalize vals 15 = y15
                        generalize vals 16 = y16
                        generalize vals 17 = y17
                        generalize vals 18 = y18
                        generalize vals 19 = y19
                        generalize vals 20 = y20
                        generalize vals 21 = y21
                        generalize vals 22 = y22
                        generalize vals 23 = y23
                        replace HT2 := Lib.hid (HT2.out.below hG)
                        replace HX := Lib.hid (HX.out.below hG HX.out.lt)
                        replace HKP := Lib.hid (HKP.out.then hG)
                        clear hG
                        have HTK := Lib.hid (takeT_latest HOK.out HOT.out HFN2.out (by rw [HHT.out, HLT.out]; exact fun hc => by have := hc.1; rw [HHS.out] at this; cases this))
                        go_upto_region 18 with fail
                        refine wp_region_free (P := Try.prog) 8 (fun w' => Below w7.heap.size w7 w') (fun oq v w' => match oq with
                            | 0 => v = .pointer (some ⟨b, 0, none⟩)
                            | 1 => v = .pointer (some ⟨b, 0, none⟩)
                            | 2 => v = .pointer (some ⟨b, 3, none⟩)
                            | 3 => v = .slice (some ⟨g1, 0, none⟩) t.n t.n
                            | 4 => v = .pointer (some ⟨X, 0, none⟩)
                            | 5 => v = .int .i64 (k : Int)
                            | 6 => v = .agg (vcl vo).toArray
                            | 7 => v = .pointer (some ⟨g1, k * 34, none⟩)
                            | _ => True) (by kernel_rfl) (by kernel_rfl) (Below.refl _ _).drew ?gb ?vb ?steps ?fin
                        case gb => exact fun a b h1 h2 => h1.trans (h2.mono h1.size)
                        case vb =>
                          intro oq v a b h hb
                          match oq with
                          | 0 => exact h
                          | 1 => exact h
                          | 2 => exact h
                          | 3 => exact h
                          | 4 => exact h
                          | 5 => exact h
                          | 6 => exact h
                          | 7 => exact h
                          | _ + 8 => trivial
                        case steps =>
                          intro vals
                          simp only [List.take_succ_cons, List.take_zero, freeSteps, Act.put, List.setIfInBounds_toArray, List.set_cons_zero, List.set_cons_succ, Nat.reduceAdd]
                          refine ⟨fun w8 hG hW => ?_, fun w8 hG hW => ?_, fun w8 hG hW => ?_, fun w8 hG hW => ?_, fun w8 hG hW => ?_, fun w8 hG hW => ?_, fun w8 hG hW => ?_, fun w8 hG hW => ?_, trivial⟩
                          · clear hW
                            refine stepAt_value rfl rfl rfl (.pointer (some ⟨b, 0, none⟩)) w8 ?_ ⟨rfl, Below.refl _ _⟩
                            go_simp
                          · have q0 := hW 0 (by decide)
                            simp only at q0
                            rw [q0]
                            clear hW
                            refine stepAt_value rfl rfl rfl (.pointer (some ⟨b, 0, none⟩)) w8 ?_ ⟨rfl, Below.refl _ _⟩
                            go_simp
                          · have q1 := hW 1 (by decide)
                            simp only at q1
                            rw [q1]
                            clear hW
                            refine stepAt_value rfl rfl rfl (.pointer (some ⟨b, 3, none⟩)) w8 ?_ ⟨rfl, Below.refl _ _⟩
                            go_simp
                          · have q2 := hW 2 (by decide)
                            simp only at q2
                            rw [q2]
                            clear hW
                            refine stepAt_value rfl rfl rfl (.slice (some ⟨g1, 0, none⟩) t.n t.n) w8 ?_ ⟨rfl, Below.refl _ _⟩
                            have cc := (HT2.out.below hG).cell3
                            rw [show (addF t vo).n = t.n from rfl] at cc
                            go_simp
                          · clear hW
                            refine stepAt_value rfl rfl rfl (.pointer (some ⟨X, 0, none⟩)) w8 ?_ ⟨rfl, Below.refl _ _⟩
                            go_simp
                          · have q4 := hW 4 (by decide)
                            simp only at q4
                            rw [q4]
                            clear hW
                            refine stepAt_value rfl rfl rfl (.int .i64 (k : Int)) w8 ?_ ⟨rfl, Below.refl _ _⟩
                            have cc := (HX.out.below hG HX.out.lt).cell 0
                            simp only [vcl, List.getElem?_cons_zero] at cc
                            rw [HKW.out] at cc
                            go_simp
                          · clear hW
                            refine stepAt_load_run rfl rfl rfl _ _ rfl _ _ rfl (run_load_vote hv (HX.out.below hG HX.out.lt).voteAll) ⟨rfl, Below.refl _ _⟩
                          · have q3 := hW 3 (by decide)
                            simp only at q3
                            have q5 := hW 5 (by decide)
                            simp only at q5
                            rw [q3, q5]
                            clear hW
                            refine stepAt_value rfl rfl rfl (.pointer (some ⟨g1, k * 34, none⟩)) w8 ?_ ⟨rfl, Below.refl _ _⟩
                            have hlt := HKN.out
                            go_simp
                        case fin =>
                          intro vals wA hG hV
                          have q6 := hV 6 (by omega)
                          simp only at q6
                          have q7 := hV 7 (by omega)
                          simp only at q7
                          simp only [List.take_succ_cons, List.take_zero, List.drop_succ_cons, List.drop_zero, putAll, Act.put, List.setIfInBounds_toArray, List.set_cons_zero, List.set_cons_succ, Nat.reduceAdd]
                          rw [q6, q7]
                          clear hV q6 q7
                          generalize vals 0 = y0
                          generalize vals 1 = y1
                          generalize vals 2 = y2
                          generalize vals 3 = y3
                          generalize vals 4 = y4
                          generalize vals 5 = y5
                          replace HT2 := Lib.hid (HT2.out.below hG)
                          replace HX := Lib.hid (HX.out.below hG HX.out.lt)
                          replace HKP := Lib.hid (HKP.out.then hG)
                          clear hG
                          have HVR := Lib.hid (HT2.out.rowV hk HKW.out hv ⟨HOK.out.2.2.1, HOK.out.2.2.2⟩)
                          have HDV := Lib.hid (HT2.out.doV hv ⟨HOK.out.2.2.1, HOK.out.2.2.2⟩)
                          have HVT := Lib.hid HT2.out.l1
                          have HIN := Lib.hid HT2.out.inF
                          have HFIT := Lib.hid (show k * 34 + 34 ≤ (rowsOf (addF t vo).n (lrow (addF t vo))).length by rw [rowsOf_length HT2.out.fit.lrow]; have : (addF t vo).n = t.n := rfl; omega)
                          go_upto_region 19 with ((with_reducible refine wpList_store_votePart (.tmp 119) (.tmp 118) ?_ ?_ g1 (k * 34) 29 _ _ vo ?_ ?_ HVT.out hv HFIT.out HVR.out ?_); rfl; rfl; rfl; rfl)
                          try simp only [Act.put]
                          replace HKP := Lib.hid (HKP.out.trans (HDV.out.2.mono (F' := F2) (fun x hx => by simp at hx; rw [hx]; exact HIN.out.2.1)) HNW.out)
                          replace HX := Lib.hid (HX.out.kept (HDV.out.2.mono (F' := F2) (fun x hx => by simp at hx; rw [hx]; exact HIN.out.2.1)) HXF2.out)
                          have HT3 := Lib.hid HDV.out.1
                          clear HDV HVT HFIT HVR HT2
                          generalize wA.setRow g1 (rowsOf (addF t vo).n (lrow (setV (addF t vo) vo))).toArray = wB at HX HKP HT3 ⊢
                          refine wp_region_free (P := Try.prog) 7 (fun w' => Below wB.heap.size wB w') (fun oq v w' => match oq with
                              | 0 => v = .pointer (some ⟨b, 0, none⟩)
                              | 1 => v = .pointer (some ⟨b, 0, none⟩)
                              | 2 => v = .pointer (some ⟨b, 4, none⟩)
                              | 3 => v = .slice (some ⟨g2, 0, none⟩) t.n t.n
                              | 4 => v = .pointer (some ⟨X, 0, none⟩)
                              | 5 => v = .int .i64 (k : Int)
                              | 6 => v = .pointer (some ⟨g2, k, none⟩)
                              | _ => True) (by kernel_rfl) (by kernel_rfl) (Below.refl _ _).drew ?gb ?vb ?steps ?fin
                          case gb => exact fun a b h1 h2 => h1.trans (h2.mono h1.size)
                          case vb =>
                            intro oq v a b h hb
                            match oq with
                            | 0 => exact h
                            | 1 => exact h
                            | 2 => exact h
                            | 3 => exact h
                            | 4 => exact h
                            | 5 => exact h
                            | 6 => exact h
                            | _ + 7 => trivial
                          case steps =>
                            intro vals
                            simp only [List.take_succ_cons, List.take_zero, freeSteps, Act.put, List.setIfInBounds_toArray, List.set_cons_zero, List.set_cons_succ, Nat.reduceAdd]
                            refine ⟨fun w8 hG hW => ?_, fun w8 hG hW => ?_, fun w8 hG hW => ?_, fun w8 hG hW => ?_, fun w8 hG hW => ?_, fun w8 hG hW => ?_, fun w8 hG hW => ?_, trivial⟩
                            · clear hW
                              refine stepAt_value rfl rfl rfl (.pointer (some ⟨b, 0, none⟩)) w8 ?_ ⟨rfl, Below.refl _ _⟩
                              go_simp
                            · have q0 := hW 0 (by decide)
                              simp only at q0
                              rw [q0]
                              clear hW
                              refine stepAt_value rfl rfl rfl (.pointer (some ⟨b, 0, none⟩)) w8 ?_ ⟨rfl, Below.refl _ _⟩
                              go_simp
                            · have q1 := hW 1 (by decide)
                              simp only at q1
                              rw [q1]
                              clear hW
                              refine stepAt_value rfl rfl rfl (.pointer (some ⟨b, 4, none⟩)) w8 ?_ ⟨rfl, Below.refl _ _⟩
                              go_simp
                            · have q2 := hW 2 (by decide)
                              simp only at q2
                              rw [q2]
                              clear hW
                              refine stepAt_value rfl rfl rfl (.slice (some ⟨g2, 0, none⟩) t.n t.n) w8 ?_ ⟨rfl, Below.refl _ _⟩
                              have cc := (HT3.out.below hG).cell4
                              rw [show (setV (addF t vo) vo).n = t.n from rfl] at cc
                              go_simp
                            · clear hW
                              refine stepAt_value rfl rfl rfl (.pointer (some ⟨X, 0, none⟩)) w8 ?_ ⟨rfl, Below.refl _ _⟩
                              go_simp
                            · have q4 := hW 4 (by decide)
                              simp only at q4
                              rw [q4]
                              clear hW
                              refine stepAt_value rfl rfl rfl (.int .i64 (k : Int)) w8 ?_ ⟨rfl, Below.refl _ _⟩
                              have cc := (HX.out.below hG HX.out.lt).cell 0
                              simp only [vcl, List.getElem?_cons_zero] at cc
                              rw [HKW.out] at cc
                              go_simp
                            · have q3 := hW 3 (by decide)
                              simp only at q3
                              have q5 := hW 5 (by decide)
                              simp only at q5
                              rw [q3, q5]
                              clear hW
                              refine stepAt_value rfl rfl rfl (.pointer (some ⟨g2, k, none⟩)) w8 ?_ ⟨rfl, Below.refl _ _⟩
                              have hlt := HKN.out
                              go_simp
                          case fin =>
                            intro vals wC hG hV
                            have q3 := hV 3 (by omega)
                            simp only at q3
                            have q5 := hV 5 (by omega)
                            simp only at q5
                            have q6 := hV 6 (by omega)
                            simp only at q6
                            simp only [List.take_succ_cons, List.take_zero, List.drop_succ_cons, List.drop_zero, putAll, Act.put, List.setIfInBounds_toArray, List.set_cons_zero, List.set_cons_succ, Nat.reduceAdd]
                            rw [q3, q5, q6]
                            clear hV q3 q5 q6
                            generalize vals 0 = y0
                            generalize vals 1 = y1
                            generalize vals 2 = y2
                            generalize vals 4 = y4
                            replace HT3 := Lib.hid (HT3.out.below hG)
                            replace HX := Lib.hid (HX.out.below hG HX.out.lt)
                            replace HKP := Lib.hid (HKP.out.then hG)
                            clear hG
                            have HDH := Lib.hid (HT3.out.doH (k := k) HKW.out)
                            have cv := HT3.out.voted hk
                            have fv := HT3.out.l2.free k
                            go_wp2_with fail
                            go_ret
                            rw [HTK.out]
                            exact ⟨rfl, F2, v2, HDH.out.1, HKP.out.trans (HDH.out.2.mono (F' := F2) (fun x hx => by simp at hx; rw [hx]; exact HIN.out.2.2.1)) HNW.out, HNW.out⟩
                    | true =>
                      by_cases hgt : ep t.k vo.s < ep t.k (ltN t k).s
                      · have HGT := Lib.hid hgt
                        clear hgt
                        refine wp_region_free (P := Try.prog) 25 (fun w' => Below w6.heap.size w6 w') (fun oq v w' => match oq with
                            | 0 => v = .pointer (some ⟨b, 0, none⟩)
                            | 1 => v = .pointer (some ⟨b, 0, none⟩)
                            | 2 => v = .pointer (some ⟨b, 4, none⟩)
                            | 3 => v = .slice (some ⟨g2, 0, none⟩) t.n t.n
                            | 4 => v = .pointer (some ⟨X, 0, none⟩)
                            | 5 => v = .int .i64 (k : Int)
                            | 6 => v = .pointer (some ⟨g2, k, none⟩)
                            | 7 => v = .bool true
                            | 8 => v = .bool true
                            | 9 => v = .pointer (some ⟨b, 0, none⟩)
                            | 10 => v = .pointer (some ⟨b, 0, none⟩)
                            | 11 => v = .pointer (some ⟨b, 3, none⟩)
                            | 12 => v = .slice (some ⟨g1, 0, none⟩) t.n t.n
                            | 13 => v = .pointer (some ⟨X, 0, none⟩)
                            | 14 => v = .int .i64 (k : Int)
                            | 15 => v = .pointer (some ⟨g1, k * 34, none⟩)
                            | 16 => v = .pointer (some ⟨g1, k * 34 + 1, none⟩)
                            | 17 => v = .int .i64 (ltN t k).s
                            | 18 => v = .pointer (some ⟨b, 0, none⟩)
                            | 19 => v = .pointer (some ⟨b, 0, none⟩)
                            | 20 => v = .pointer (some ⟨b, 1, none⟩)
                            | 21 => v = .int .i64 (t.k : Int)
                            | 22 => v = .int .i64 (ep t.k (ltN t k).s)
                            | 23 => v = .int .i64 (ep t.k vo.s)
                            | 24 => v = .bool true
                            | _ => True) (by kernel_rfl) (by kernel_rfl) (Below.refl _ _).drew ?gb ?vb ?steps ?fin
                        case gb => exact fun a b h1 h2 => h1.trans (h2.mono h1.size)
                        case vb =>
                          intro oq v a b h hb
                          match oq with
                          | 0 => exact h
                          | 1 => exact h
                          | 2 => exact h
                          | 3 => exact h
                          | 4 => exact h
                          | 5 => exact h
                          | 6 => exact h
                          | 7 => exact h
                          | 8 => exact h
                          | 9 => exact h
                          | 10 => exact h
                          | 11 => exact h
                          | 12 => exact h
                          | 13 => exact h
                          | 14 => exact h
                          | 15 => exact h
                          | 16 => exact h
                          | 17 => exact h
                          | 18 => exact h
                          | 19 => exact h
                          | 20 => exact h
                          | 21 => exact h
                          | 22 => exact h
                          | 23 => exact h
                          | 24 => exact h
                          | _ + 25 => trivial
                        case steps =>
                          intro vals
                          simp only [List.take_succ_cons, List.take_zero, freeSteps, Act.put, List.setIfInBounds_toArray, List.set_cons_zero, List.set_cons_succ, Nat.reduceAdd]
                          refine ⟨fun w8 hG hW => ?_, fun w8 hG hW => ?_, fun w8 hG hW => ?_, fun w8 hG hW => ?_, fun w8 hG hW => ?_, fun w8 hG hW => ?_, fun w8 hG hW => ?_, fun w8 hG hW => ?_, fun w8 hG hW => ?_, fun w8 hG hW => ?_, fun w8 hG hW => ?_, fun w8 hG hW => ?_, fun w8 hG hW => ?_, fun w8 hG hW => ?_, fun w8 hG hW => ?_, fun w8 hG hW => ?_, fun w8 hG hW => ?_, fun w8 hG hW => ?_, fun w8 hG hW => ?_, fun w8 hG hW => ?_, fun w8 hG hW => ?_, fun w8 hG hW => ?_, fun w8 hG hW => ?_, fun w8 hG hW => ?_, fun w8 hG hW => ?_, trivial⟩
                          · clear hW
                            refine stepAt_value rfl rfl rfl (.pointer (some ⟨b, 0, none⟩)) w8 ?_ ⟨rfl, Below.refl _ _⟩
                            go_simp
                          · have q0 := hW 0 (by decide)
                            simp only at q0
                            rw [q0]
                            clear hW
                            refine stepAt_value rfl rfl rfl (.pointer (some ⟨b, 0, none⟩)) w8 ?_ ⟨rfl, Below.refl _ _⟩
                            go_simp
                          · have q1 := hW 1 (by decide)
                            simp only at q1
                            rw [q1]
                            clear hW
                            refine stepAt_value rfl rfl rfl (.pointer (some ⟨b, 4, none⟩)) w8 ?_ ⟨rfl, Below.refl _ _⟩
                            go_simp
                          · have q2 := hW 2 (by decide)
                            simp only at q2
                            rw [q2]
                            clear hW
                            refine stepAt_value rfl rfl rfl (.slice (some ⟨g2, 0, none⟩) t.n t.n) w8 ?_ ⟨rfl, Below.refl _ _⟩
                            have cc := (HT2.out.below hG).cell4
                            rw [show (addF t vo).n = t.n from rfl] at cc
                            go_simp
                          · clear hW
                            refine stepAt_value rfl rfl rfl (.pointer (some ⟨X, 0, none⟩)) w8 ?_ ⟨rfl, Below.refl _ _⟩
                            go_simp
                          · have q4 := hW 4 (by decide)
                            simp only at q4
                            rw [q4]
                            clear hW
                            refine stepAt_value rfl rfl rfl (.int .i64 (k : Int)) w8 ?_ ⟨rfl, Below.refl _ _⟩
                            have cc := (HX.out.below hG HX.out.lt).cell 0
                            simp only [vcl, List.getElem?_cons_zero] at cc
                            rw [HKW.out] at cc
                            go_simp
                          · have q3 := hW 3 (by decide)
                            simp only at q3
                            have q5 := hW 5 (by decide)
                            simp only at q5
                            rw [q3, q5]
                            clear hW
                            refine stepAt_value rfl rfl rfl (.pointer (some ⟨g2, k, none⟩)) w8 ?_ ⟨rfl, Below.refl _ _⟩
                            have hlt := HKN.out
                            go_simp
                          · have q6 := hW 6 (by decide)
                            simp only at q6
                            rw [q6]
                            clear hW
                            refine stepAt_value rfl rfl rfl (.bool true) w8 ?_ ⟨rfl, Below.refl _ _⟩
                            have cc := (HT2.out.below hG).voted hk
                            rw [show hsN (addF t vo) k = hsN t k from rfl, HHS.out] at cc
                            go_simp
                          · have q7 := hW 7 (by decide)
                            simp only at q7
                            rw [q7]
                            clear hW
                            refine stepAt_value rfl rfl rfl (.bool true) w8 ?_ ⟨rfl, Below.refl _ _⟩
                            go_simp
                          · have q8 := hW 8 (by decide)
                            simp only at q8
                            rw [q8]
                            clear hW
                            refine stepAt_value rfl rfl rfl (.pointer (some ⟨b, 0, none⟩)) w8 ?_ ⟨rfl, Below.refl _ _⟩
                            go_simp
                          · have q8 := hW 8 (by decide)
                            simp only at q8
                            have q9 := hW 9 (by decide)
                            simp only at q9
                            rw [q8, q9]
                            clear hW
                            refine stepAt_value rfl rfl rfl (.pointer (some ⟨b, 0, none⟩)) w8 ?_ ⟨rfl, Below.refl _ _⟩
                            go_simp
                          · have q8 := hW 8 (by decide)
                            simp only at q8
                            have q10 := hW 10 (by decide)
                            simp only at q10
                            rw [q8, q10]
                            clear hW
                            refine stepAt_value rfl rfl rfl (.pointer (some ⟨b, 3, none⟩)) w8 ?_ ⟨rfl, Below.refl _ _⟩
                            go_simp
                          · have q8 := hW 8 (by decide)
                            simp only at q8
                            have q11 := hW 11 (by decide)
                            simp only at q11
                            rw [q8, q11]
                            clear hW
                            refine stepAt_value rfl rfl rfl (.slice (some ⟨g1, 0, none⟩) t.n t.n) w8 ?_ ⟨rfl, Below.refl _ _⟩
                            have cc := (HT2.out.below hG).cell3
                            rw [show (addF t vo).n = t.n from rfl] at cc
                            go_simp
                          · have q8 := hW 8 (by decide)
                            simp only at q8
                            rw [q8]
                            clear hW
                            refine stepAt_value rfl rfl rfl (.pointer (some ⟨X, 0, none⟩)) w8 ?_ ⟨rfl, Below.refl _ _⟩
                            go_simp
                          · have q8 := hW 8 (by decide)
                            simp only at q8
                            have q13 := hW 13 (by decide)
                            simp only at q13
                            rw [q8, q13]
                            clear hW
                            refine stepAt_value rfl rfl rfl (.int .i64 (k : Int)) w8 ?_ ⟨rfl, Below.refl _ _⟩
                            have cc := (HX.out.below hG HX.out.lt).cell 0
                            simp only [vcl, List.getElem?_cons_zero] at cc
                            rw [HKW.out] at cc
                            go_simp
                          · have q8 := hW 8 (by decide)
                            simp only at q8
                            have q12 := hW 12 (by decide)
                            simp only at q12
                            have q14 := hW 14 (by decide)
                            simp only at q14
                            rw [q8, q12, q14]
                            clear hW
                            refine stepAt_value rfl rfl rfl (.pointer (some ⟨g1, k * 34, none⟩)) w8 ?_ ⟨rfl, Below.refl _ _⟩
                            have hlt := HKN.out
                            go_simp
                          · have q8 := hW 8 (by decide)
                            simp only at q8
                            have q15 := hW 15 (by decide)
                            simp only at q15
                            rw [q8, q15]
                            clear hW
                            refine stepAt_value rfl rfl rfl (.pointer (some ⟨g1, k * 34 + 1, none⟩)) w8 ?_ ⟨rfl, Below.refl _ _⟩
                            go_simp
                          · have q8 := hW 8 (by decide)
                            simp only at q8
                            have q16 := hW 16 (by decide)
                            simp only at q16
                            rw [q8, q16]
                            clear hW
                            refine stepAt_value rfl rfl rfl (.int .i64 (ltN t k).s) w8 ?_ ⟨rfl, Below.refl _ _⟩
                            have cc := (HT2.out.below hG).slot hk
                            rw [show ltN (addF t vo) k = ltN t k from rfl] at cc
                            go_simp
                          · have q8 := hW 8 (by decide)
                            simp only at q8
                            rw [q8]
                            clear hW
                            refine stepAt_value rfl rfl rfl (.pointer (some ⟨b, 0, none⟩)) w8 ?_ ⟨rfl, Below.refl _ _⟩
                            go_simp
                          · have q8 := hW 8 (by decide)
                            simp only at q8
                            have q18 := hW 18 (by decide)
                            simp only at q18
                            rw [q8, q18]
                            clear hW
                            refine stepAt_value rfl rfl rfl (.pointer (some ⟨b, 0, none⟩)) w8 ?_ ⟨rfl, Below.refl _ _⟩
                            go_simp
                          · have q8 := hW 8 (by decide)
                            simp only at q8
                            have q19 := hW 19 (by decide)
                            simp only at q19
                            rw [q8, q19]
                            clear hW
                            refine stepAt_value rfl rfl rfl (.pointer (some ⟨b, 1, none⟩)) w8 ?_ ⟨rfl, Below.refl _ _⟩
                            go_simp
                          · have q8 := hW 8 (by decide)
                            simp only at q8
                            have q20 := hW 20 (by decide)
                            simp only at q20
                            rw [q8, q20]
                            clear hW
                            refine stepAt_value rfl rfl rfl (.int .i64 (t.k : Int)) w8 ?_ ⟨rfl, Below.refl _ _⟩
                            have cc := (HT2.out.below hG).cell1
                            rw [show (addF t vo).k = t.k from rfl] at cc
                            go_simp
                          · have q8 := hW 8 (by decide)
                            simp only at q8
                            have q17 := hW 17 (by decide)
                            simp only at q17
                            have q21 := hW 21 (by decide)
                            simp only at q21
                            rw [q8, q17, q21]
                            clear hW
                            have hwr := HQ2.out
                            have hk00 := HK0.out
                            refine stepAt_value rfl rfl rfl (.int .i64 (ep t.k (ltN t k).s)) w8 ?_ ⟨rfl, Below.refl _ _⟩
                            go_simp
                            rw [IntKind.wrap_i64]
                            unfold wrap64 at hwr
                            exact hwr
                          · have q8 := hW 8 (by decide)
                            simp only at q8
                            rw [q8]
                            clear hW
                            refine stepAt_value rfl rfl rfl (.int .i64 (ep t.k vo.s)) w8 ?_ ⟨rfl, Below.refl _ _⟩
                            go_simp
                          · have q8 := hW 8 (by decide)
                            simp only at q8
                            have q22 := hW 22 (by decide)
                            simp only at q22
                            have q23 := hW 23 (by decide)
                            simp only at q23
                            rw [q8, q22, q23]
                            clear hW
                            refine stepAt_value rfl rfl rfl (.bool true) w8 ?_ ⟨rfl, Below.refl _ _⟩
                            have hgt := HGT.out
                            go_simp
                        case fin =>
                          intro vals w7 hG hV
                          have q8 := hV 8 (by omega)
                          simp only at q8
                          have q24 := hV 24 (by omega)
                          simp only at q24
                          simp only [List.take_succ_cons, List.take_zero, List.drop_succ_cons, List.drop_zero, putAll, Act.put, List.setIfInBounds_toArray, List.set_cons_zero, List.set_cons_succ, Nat.reduceAdd]
                          rw [q8, q24]
                          clear hV q8 q24
                          generalize vals 0 = y0
                          generalize vals 1 = y1
                          generalize vals 2 = y2
                          generalize vals 3 = y3
                          generalize vals 4 = y4
                          generalize vals 5 = y5
                          generalize vals 6 = y6
                          generalize vals 7 = y7
                          generalize vals 9 = y9
                          generalize vals 10 = y10
                          generalize vals 11 = y11
                          generalize vals 12 = y12
                          generalize vals 13 = y13
                          generalize vals 14 = y14
                          generalize vals 15 = y15
                          generalize vals 16 = y16
                          generalize vals 17 = y17
                          generalize vals 18 = y18
                          generalize vals 19 = y19
                          generalize vals 20 = y20
                          generalize vals 21 = y21
                          generalize vals 22 = y22
                          generalize vals 23 = y23
                          replace HT2 := Lib.hid (HT2.out.below hG)
                          replace HX := Lib.hid (HX.out.below hG HX.out.lt)
                          replace HKP := Lib.hid (HKP.out.then hG)
                          clear hG
                          have HTK := Lib.hid (takeT_late HOK.out HOT.out HFN2.out (by rw [HHT.out, HLT.out]; exact ⟨HHS.out, HGT.out⟩))
                          go_wp2_with fail
                          go_ret
                          exact ⟨by rw [HTK.out]; rfl, F2, v2, by rw [HTK.out]; exact HT2.out, HKP.out, HNW.out⟩
                      · have HGT := Lib.hid hgt
                        clear hgt
                        refine wp_region_free (P := Try.prog) 25 (fun w' => Below w6.heap.size w6 w') (fun oq v w' => match oq with
                            | 0 => v = .pointer (some ⟨b, 0, none⟩)
                            | 1 => v = .pointer (some ⟨b, 0, none⟩)
                            | 2 => v = .pointer (some ⟨b, 4, none⟩)
                            | 3 => v = .slice (some ⟨g2, 0, none⟩) t.n t.n
                            | 4 => v = .pointer (some ⟨X, 0, none⟩)
                            | 5 => v = .int .i64 (k : Int)
                            | 6 => v = .pointer (some ⟨g2, k, none⟩)
                            | 7 => v = .bool true
                            | 8 => v = .bool true
                            | 9 => v = .pointer (some ⟨b, 0, none⟩)
                            | 10 => v = .pointer (some ⟨b, 0, none⟩)
                            | 11 => v = .pointer (some ⟨b, 3, none⟩)
                            | 12 => v = .slice (some ⟨g1, 0, none⟩) t.n t.n
                            | 13 => v = .pointer (some ⟨X, 0, none⟩)
                            | 14 => v = .int .i64 (k : Int)
                            | 15 => v = .pointer (some ⟨g1, k * 34, none⟩)
                            | 16 => v = .pointer (some ⟨g1, k * 34 + 1, none⟩)
                            | 17 => v = .int .i64 (ltN t k).s
                            | 18 => v = .pointer (some ⟨b, 0, none⟩)
                            | 19 => v = .pointer (some ⟨b, 0, none⟩)
                            | 20 => v = .pointer (some ⟨b, 1, none⟩)
                            | 21 => v = .int .i64 (t.k : Int)
                            | 22 => v = .int .i64 (ep t.k (ltN t k).s)
                            | 23 => v = .int .i64 (ep t.k vo.s)
                            | 24 => v = .bool false
                            | _ => True) (by kernel_rfl) (by kernel_rfl) (Below.refl _ _).drew ?gb ?vb ?steps ?fin
                        case gb => exact fun a b h1 h2 => h1.trans (h2.mono h1.size)
                        case vb =>
                          intro oq v a b h hb
                          match oq with
                          | 0 => exact h
                          | 1 => exact h
                          | 2 => exact h
                          | 3 => exact h
                          | 4 => exact h
                          | 5 => exact h
                          | 6 => exact h
                          | 7 => exact h
                          | 8 => exact h
                          | 9 => exact h
                          | 10 => exact h
                          | 11 => exact h
                          | 12 => exact h
                          | 13 => exact h
                          | 14 => exact h
                          | 15 => exact h
                          | 16 => exact h
                          | 17 => exact h
                          | 18 => exact h
                          | 19 => exact h
                          | 20 => exact h
                          | 21 => exact h
                          | 22 => exact h
                          | 23 => exact h
                          | 24 => exact h
                          | _ + 25 => trivial
                        case steps =>
                          intro vals
                          simp only [List.take_succ_cons, List.take_zero, freeSteps, Act.put, List.setIfInBounds_toArray, List.set_cons_zero, List.set_cons_succ, Nat.reduceAdd]
                          refine ⟨fun w8 hG hW => ?_, fun w8 hG hW => ?_, fun w8 hG hW => ?_, fun w8 hG hW => ?_, fun w8 hG hW => ?_, fun w8 hG hW => ?_, fun w8 hG hW => ?_, fun w8 hG hW => ?_, fun w8 hG hW => ?_, fun w8 hG hW => ?_, fun w8 hG hW => ?_, fun w8 hG hW => ?_, fun w8 hG hW => ?_, fun w8 hG hW => ?_, fun w8 hG hW => ?_, fun w8 hG hW => ?_, fun w8 hG hW => ?_, fun w8 hG hW => ?_, fun w8 hG hW => ?_, fun w8 hG hW => ?_, fun w8 hG hW => ?_, fun w8 hG hW => ?_, fun w8 hG hW => ?_, fun w8 hG hW => ?_, fun w8 hG hW => ?_, trivial⟩
                          · clear hW
                            refine stepAt_value rfl rfl rfl (.pointer (some ⟨b, 0, none⟩)) w8 ?_ ⟨rfl, Below.refl _ _⟩
                            go_simp
                          · have q0 := hW 0 (by decide)
                            simp only at q0
                            rw [q0]
                            clear hW
                            refine stepAt_value rfl rfl rfl (.pointer (some ⟨b, 0, none⟩)) w8 ?_ ⟨rfl, Below.refl _ _⟩
                            go_simp
                          · have q1 := hW 1 (by decide)
                            simp only at q1
                            rw [q1]
                            clear hW
                            refine stepAt_value rfl rfl rfl (.pointer (some ⟨b, 4, none⟩)) w8 ?_ ⟨rfl, Below.refl _ _⟩
                            go_simp
                          · have q2 := hW 2 (by decide)
                            simp only at q2
                            rw [q2]
                            clear hW
                            refine stepAt_value rfl rfl rfl (.slice (some ⟨g2, 0, none⟩) t.n t.n) w8 ?_ ⟨rfl, Below.refl _ _⟩
                            have cc := (HT2.out.below hG).cell4
                            rw [show (addF t vo).n = t.n from rfl] at cc
                            go_simp
                          · clear hW
                            refine stepAt_value rfl rfl rfl (.pointer (some ⟨X, 0, none⟩)) w8 ?_ ⟨rfl, Below.refl _ _⟩
                            go_simp
                          · have q4 := hW 4 (by decide)
                            simp only at q4
                            rw [q4]
                            clear hW
                            refine stepAt_value rfl rfl rfl (.int .i64 (k : Int)) w8 ?_ ⟨rfl, Below.refl _ _⟩
                            have cc := (HX.out.below hG HX.out.lt).cell 0
                            simp only [vcl, List.getElem?_cons_zero] at cc
                            rw [HKW.out] at cc
                            go_simp
                          · have q3 := hW 3 (by decide)
                            simp only at q3
                            have q5 := hW 5 (by decide)
                            simp only at q5
                            rw [q3, q5]
                            clear hW
                            refine stepAt_value rfl rfl rfl (.pointer (some ⟨g2, k, none⟩)) w8 ?_ ⟨rfl, Below.refl _ _⟩
                            have hlt := HKN.out
                            go_simp
                          · have q6 := hW 6 (by decide)
                            simp only at q6
                            rw [q6]
                            clear hW
                            refine stepAt_value rfl rfl rfl (.bool true) w8 ?_ ⟨rfl, Below.refl _ _⟩
                            have cc := (HT2.out.below hG).voted hk
                            rw [show hsN (addF t vo) k = hsN t k from rfl, HHS.out] at cc
                            go_simp
                          · have q7 := hW 7 (by decide)
                            simp only at q7
                            rw [q7]
                            clear hW
                            refine stepAt_value rfl rfl rfl (.bool true) w8 ?_ ⟨rfl, Below.refl _ _⟩
                            go_simp
                          · have q8 := hW 8 (by decide)
                            simp only at q8
                            rw [q8]
                            clear hW
                            refine stepAt_value rfl rfl rfl (.pointer (some ⟨b, 0, none⟩)) w8 ?_ ⟨rfl, Below.refl _ _⟩
                            go_simp
                          · have q8 := hW 8 (by decide)
                            simp only at q8
                            have q9 := hW 9 (by decide)
                            simp only at q9
                            rw [q8, q9]
                            clear hW
                            refine stepAt_value rfl rfl rfl (.pointer (some ⟨b, 0, none⟩)) w8 ?_ ⟨rfl, Below.refl _ _⟩
                            go_simp
                          · have q8 := hW 8 (by decide)
                            simp only at q8
                            have q10 := hW 10 (by decide)
                            simp only at q10
                            rw [q8, q10]
                            clear hW
                            refine stepAt_value rfl rfl rfl (.pointer (some ⟨b, 3, none⟩)) w8 ?_ ⟨rfl, Below.refl _ _⟩
                            go_simp
                          · have q8 := hW 8 (by decide)
                            simp only at q8
                            have q11 := hW 11 (by decide)
                            simp only at q11
                            rw [q8, q11]
                            clear hW
                            refine stepAt_value rfl rfl rfl (.slice (some ⟨g1, 0, none⟩) t.n t.n) w8 ?_ ⟨rfl, Below.refl _ _⟩
                            have cc := (HT2.out.below hG).cell3
                            rw [show (addF t vo).n = t.n from rfl] at cc
                            go_simp
                          · have q8 := hW 8 (by decide)
                            simp only at q8
                            rw [q8]
                            clear hW
                            refine stepAt_value rfl rfl rfl (.pointer (some ⟨X, 0, none⟩)) w8 ?_ ⟨rfl, Below.refl _ _⟩
                            go_simp
                          · have q8 := hW 8 (by decide)
                            simp only at q8
                            have q13 := hW 13 (by decide)
                            simp only at q13
                            rw [q8, q13]
                            clear hW
                            refine stepAt_value rfl rfl rfl (.int .i64 (k : Int)) w8 ?_ ⟨rfl, Below.refl _ _⟩
                            have cc := (HX.out.below hG HX.out.lt).cell 0
                            simp only [vcl, List.getElem?_cons_zero] at cc
                            rw [HKW.out] at cc
                            go_simp
                          · have q8 := hW 8 (by decide)
                            simp only at q8
                            have q12 := hW 12 (by decide)
                            simp only at q12
                            have q14 := hW 14 (by decide)
                            simp only at q14
                            rw [q8, q12, q14]
                            clear hW
                            refine stepAt_value rfl rfl rfl (.pointer (some ⟨g1, k * 34, none⟩)) w8 ?_ ⟨rfl, Below.refl _ _⟩
                            have hlt := HKN.out
                            go_simp
                          · have q8 := hW 8 (by decide)
                            simp only at q8
                            have q15 := hW 15 (by decide)
                            simp only at q15
                            rw [q8, q15]
                            clear hW
                            refine stepAt_value rfl rfl rfl (.pointer (some ⟨g1, k * 34 + 1, none⟩)) w8 ?_ ⟨rfl, Below.refl _ _⟩
                            go_simp
                          · have q8 := hW 8 (by decide)
                            simp only at q8
                            have q16 := hW 16 (by decide)
                            simp only at q16
                            rw [q8, q16]
                            clear hW
                            refine stepAt_value rfl rfl rfl (.int .i64 (ltN t k).s) w8 ?_ ⟨rfl, Below.refl _ _⟩
                            have cc := (HT2.out.below hG).slot hk
                            rw [show ltN (addF t vo) k = ltN t k from rfl] at cc
                            go_simp
                          · have q8 := hW 8 (by decide)
                            simp only at q8
                            rw [q8]
                            clear hW
                            refine stepAt_value rfl rfl rfl (.pointer (some ⟨b, 0, none⟩)) w8 ?_ ⟨rfl, Below.refl _ _⟩
                            go_simp
                          · have q8 := hW 8 (by decide)
                            simp only at q8
                            have q18 := hW 18 (by decide)
                            simp only at q18
                            rw [q8, q18]
                            clear hW
                            refine stepAt_value rfl rfl rfl (.pointer (some ⟨b, 0, none⟩)) w8 ?_ ⟨rfl, Below.refl _ _⟩
                            go_simp
                          · have q8 := hW 8 (by decide)
                            simp only at q8
                            have q19 := hW 19 (by decide)
                            simp only at q19
                            rw [q8, q19]
                            clear hW
                            refine stepAt_value rfl rfl rfl (.pointer (some ⟨b, 1, none⟩)) w8 ?_ ⟨rfl, Below.refl _ _⟩
                            go_simp
                          · have q8 := hW 8 (by decide)
                            simp only at q8
                            have q20 := hW 20 (by decide)
                            simp only at q20
                            rw [q8, q20]
                            clear hW
                            refine stepAt_value rfl rfl rfl (.int .i64 (t.k : Int)) w8 ?_ ⟨rfl, Below.refl _ _⟩
                            have cc := (HT2.out.below hG).cell1
                            rw [show (addF t vo).k = t.k from rfl] at cc
                            go_simp
                          · have q8 := hW 8 (by decide)
                            simp only at q8
                            have q17 := hW 17 (by decide)
                            simp only at q17
                            have q21 := hW 21 (by decide)
                            simp only at q21
                            rw [q8, q17, q21]
                            clear hW
                            have hwr := HQ2.out
                            have hk00 := HK0.out
                            refine stepAt_value rfl rfl rfl (.int .i64 (ep t.k (ltN t k).s)) w8 ?_ ⟨rfl, Below.refl _ _⟩
                            go_simp
                            rw [IntKind.wrap_i64]
                            unfold wrap64 at hwr
                            exact hwr
                          · have q8 := hW 8 (by decide)
                            simp only at q8
                            rw [q8]
                            clear hW
                            refine stepAt_value rfl rfl rfl (.int .i64 (ep t.k vo.s)) w8 ?_ ⟨rfl, Below.refl _ _⟩
                            go_simp
                          · have q8 := hW 8 (by decide)
                            simp only at q8
                            have q22 := hW 22 (by decide)
                            simp only at q22
                            have q23 := hW 23 (by decide)
                            simp only at q23
                            rw [q8, q22, q23]
                            clear hW
                            refine stepAt_value rfl rfl rfl (.bool false) w8 ?_ ⟨rfl, Below.refl _ _⟩
                            have hgt := HGT.out
                            go_simp
                        case fin =>
                          intro vals w7 hG hV
                          have q8 := hV 8 (by omega)
                          simp only at q8
                          have q24 := hV 24 (by omega)
                          simp only at q24
                          simp only [List.take_succ_cons, List.take_zero, List.drop_succ_cons, List.drop_zero, putAll, Act.put, List.setIfInBounds_toArray, List.set_cons_zero, List.set_cons_succ, Nat.reduceAdd]
                          rw [q8, q24]
                          clear hV q8 q24
                          generalize vals 0 = y0
                          generalize vals 1 = y1
                          generalize vals 2 = y2
                          generalize vals 3 = y3
                          generalize vals 4 = y4
                          generalize vals 5 = y5
                          generalize vals 6 = y6
                          generalize vals 7 = y7
                          generalize vals 9 = y9
                          generalize vals 10 = y10
                          generalize vals 11 = y11
                          generalize vals 12 = y12
                          generalize vals 13 = y13
                          generalize vals 14 = y14
                          generalize vals 15 = y15
                          generalize vals 16 = y16
                          generalize vals 17 = y17
                          generalize vals 18 = y18
                          generalize vals 19 = y19
                          generalize vals 20 = y20
                          generalize vals 21 = y21
                          generalize vals 22 = y22
                          generalize vals 23 = y23
                          replace HT2 := Lib.hid (HT2.out.below hG)
                          replace HX := Lib.hid (HX.out.below hG HX.out.lt)
                          replace HKP := Lib.hid (HKP.out.then hG)
                          clear hG
                          have HTK := Lib.hid (takeT_latest HOK.out HOT.out HFN2.out (by rw [HHT.out, HLT.out]; exact fun hc => HGT.out hc.2))
                          go_upto_region 18 with fail
                          refine wp_region_free (P := Try.prog) 8 (fun w' => Below w7.heap.size w7 w') (fun oq v w' => match oq with
                              | 0 => v = .pointer (some ⟨b, 0, none⟩)
                              | 1 => v = .pointer (some ⟨b, 0, none⟩)
                              | 2 => v = .pointer (some ⟨b, 3, none⟩)
                              | 3 => v = .slice (some ⟨g1, 0, none⟩) t.n t.n
                              | 4 => v = .pointer (some ⟨X, 0, none⟩)
                              | 5 => v = .int .i64 (k : Int)
                              | 6 => v = .agg (vcl vo).toArray
                              | 7 => v = .pointer (some ⟨g1, k * 34, none⟩)
                              | _ => True) (by kernel_rfl) (by kernel_rfl) (Below.refl _ _).drew ?gb ?vb ?steps ?fin
                          case gb => exact fun a b h1 h2 => h1.trans (h2.mono h1.size)
                          case vb =>
                            intro oq v a b h hb
                            match oq with
                            | 0 => exact h
                            | 1 => exact h
                            | 2 => exact h
                            | 3 => exact h
                            | 4 => exact h
                            | 5 => exact h
                            | 6 => exact h
                            | 7 => exact h
                            | _ + 8 => trivial
                          case steps =>
                            intro vals
                            simp only [List.take_succ_cons, List.take_zero, freeSteps, Act.put, List.setIfInBounds_toArray, List.set_cons_zero, List.set_cons_succ, Nat.reduceAdd]
                            refine ⟨fun w8 hG hW => ?_, fun w8 hG hW => ?_, fun w8 hG hW => ?_, fun w8 hG hW => ?_, fun w8 hG hW => ?_, fun w8 hG hW => ?_, fun w8 hG hW => ?_, fun w8 hG hW => ?_, trivial⟩
                            · clear hW
                              refine stepAt_value rfl rfl rfl (.pointer (some ⟨b, 0, none⟩)) w8 ?_ ⟨rfl, Below.refl _ _⟩
                              go_simp
                            · have q0 := hW 0 (by decide)
                              simp only at q0
                              rw [q0]
                              clear hW
                              refine stepAt_value rfl rfl rfl (.pointer (some ⟨b, 0, none⟩)) w8 ?_ ⟨rfl, Below.refl _ _⟩
                              go_simp
                            · have q1 := hW 1 (by decide)
                              simp only at q1
                              rw [q1]
                              clear hW
                              refine stepAt_value rfl rfl rfl (.pointer (some ⟨b, 3, none⟩)) w8 ?_ ⟨rfl, Below.refl _ _⟩
                              go_simp
                            · have q2 := hW 2 (by decide)
                              simp only at q2
                              rw [q2]
                              clear hW
                              refine stepAt_value rfl rfl rfl (.slice (some ⟨g1, 0, none⟩) t.n t.n) w8 ?_ ⟨rfl, Below.refl _ _⟩
                              have cc := (HT2.out.below hG).cell3
                              rw [show (addF t vo).n = t.n from rfl] at cc
                              go_simp
                            · clear hW
                              refine stepAt_value rfl rfl rfl (.pointer (some ⟨X, 0, none⟩)) w8 ?_ ⟨rfl, Below.refl _ _⟩
                              go_simp
                            · have q4 := hW 4 (by decide)
                              simp only at q4
                              rw [q4]
                              clear hW
                              refine stepAt_value rfl rfl rfl (.int .i64 (k : Int)) w8 ?_ ⟨rfl, Below.refl _ _⟩
                              have cc := (HX.out.below hG HX.out.lt).cell 0
                              simp only [vcl, List.getElem?_cons_zero] at cc
                              rw [HKW.out] at cc
                              go_simp
                            · clear hW
                              refine stepAt_load_run rfl rfl rfl _ _ rfl _ _ rfl (run_load_vote hv (HX.out.below hG HX.out.lt).voteAll) ⟨rfl, Below.refl _ _⟩
                            · have q3 := hW 3 (by decide)
                              simp only at q3
                              have q5 := hW 5 (by decide)
                              simp only at q5
                              rw [q3, q5]
                              clear hW
                              refine stepAt_value rfl rfl rfl (.pointer (some ⟨g1, k * 34, none⟩)) w8 ?_ ⟨rfl, Below.refl _ _⟩
                              have hlt := HKN.out
                              go_simp
                          case fin =>
                            intro vals wA hG hV
                            have q6 := hV 6 (by omega)
                            simp only at q6
                            have q7 := hV 7 (by omega)
                            simp only at q7
                            simp only [List.take_succ_cons, List.take_zero, List.drop_succ_cons, List.drop_zero, putAll, Act.put, List.setIfInBounds_toArray, List.set_cons_zero, List.set_cons_succ, Nat.reduceAdd]
                            rw [q6, q7]
                            clear hV q6 q7
                            generalize vals 0 = y0
                            generalize vals 1 = y1
                            generalize vals 2 = y2
                            generalize vals 3 = y3
                            generalize vals 4 = y4
                            generalize vals 5 = y5
                            replace HT2 := Lib.hid (HT2.out.below hG)
                            replace HX := Lib.hid (HX.out.below hG HX.out.lt)
                            replace HKP := Lib.hid (HKP.out.then hG)
                            clear hG
                            have HVR := Lib.hid (HT2.out.rowV hk HKW.out hv ⟨HOK.out.2.2.1, HOK.out.2.2.2⟩)
                            have HDV := Lib.hid (HT2.out.doV hv ⟨HOK.out.2.2.1, HOK.out.2.2.2⟩)
                            have HVT := Lib.hid HT2.out.l1
                            have HIN := Lib.hid HT2.out.inF
                            have HFIT := Lib.hid (show k * 34 + 34 ≤ (rowsOf (addF t vo).n (lrow (addF t vo))).length by rw [rowsOf_length HT2.out.fit.lrow]; have : (addF t vo).n = t.n := rfl; omega)
                            go_upto_region 19 with ((with_reducible refine wpList_store_votePart (.tmp 119) (.tmp 118) ?_ ?_ g1 (k * 34) 29 _ _ vo ?_ ?_ HVT.out hv HFIT.out HVR.out ?_); rfl; rfl; rfl; rfl)
                            try simp only [Act.put]
                            replace HKP := Lib.hid (HKP.out.trans (HDV.out.2.mono (F' := F2) (fun x hx => by simp at hx; rw [hx]; exact HIN.out.2.1)) HNW.out)
                            replace HX := Lib.hid (HX.out.kept (HDV.out.2.mono (F' := F2) (fun x hx => by simp at hx; rw [hx]; exact HIN.out.2.1)) HXF2.out)
                            have HT3 := Lib.hid HDV.out.1
                            clear HDV HVT HFIT HVR HT2
                            generalize wA.setRow g1 (rowsOf (addF t vo).n (lrow (setV (addF t vo) vo))).toArray = wB at HX HKP HT3 ⊢
                            refine wp_region_free (P := Try.prog) 7 (fun w' => Below wB.heap.size wB w') (fun oq v w' => match oq with
                                | 0 => v = .pointer (some ⟨b, 0, none⟩)
                                | 1 => v = .pointer (some ⟨b, 0, none⟩)
                                | 2 => v = .pointer (some ⟨b, 4, none⟩)
                                | 3 => v = .slice (some ⟨g2, 0, none⟩) t.n t.n
                                | 4 => v = .pointer (some ⟨X, 0, none⟩)
                                | 5 => v = .int .i64 (k : Int)
                                | 6 => v = .pointer (some ⟨g2, k, none⟩)
                                | _ => True) (by kernel_rfl) (by kernel_rfl) (Below.refl _ _).drew ?gb ?vb ?steps ?fin
                            case gb => exact fun a b h1 h2 => h1.trans (h2.mono h1.size)
                            case vb =>
                              intro oq v a b h hb
                              match oq with
                              | 0 => exact h
                              | 1 => exact h
                              | 2 => exact h
                              | 3 => exact h
                              | 4 => exact h
                              | 5 => exact h
                              | 6 => exact h
                              | _ + 7 => trivial
                            case steps =>
                              intro vals
                              simp only [List.take_succ_cons, List.take_zero, freeSteps, Act.put, List.setIfInBounds_toArray, List.set_cons_zero, List.set_cons_succ, Nat.reduceAdd]
                              refine ⟨fun w8 hG hW => ?_, fun w8 hG hW => ?_, fun w8 hG hW => ?_, fun w8 hG hW => ?_, fun w8 hG hW => ?_, fun w8 hG hW => ?_, fun w8 hG hW => ?_, trivial⟩
                              · clear hW
                                refine stepAt_value rfl rfl rfl (.pointer (some ⟨b, 0, none⟩)) w8 ?_ ⟨rfl, Below.refl _ _⟩
                                go_simp
                              · have q0 := hW 0 (by decide)
                                simp only at q0
                                rw [q0]
                                clear hW
                                refine stepAt_value rfl rfl rfl (.pointer (some ⟨b, 0, none⟩)) w8 ?_ ⟨rfl, Below.refl _ _⟩
                                go_simp
                              · have q1 := hW 1 (by decide)
                                simp only at q1
                                rw [q1]
                                clear hW
                                refine stepAt_value rfl rfl rfl (.pointer (some ⟨b, 4, none⟩)) w8 ?_ ⟨rfl, Below.refl _ _⟩
                                go_simp
                              · have q2 := hW 2 (by decide)
                                simp only at q2
                                rw [q2]
                                clear hW
                                refine stepAt_value rfl rfl rfl (.slice (some ⟨g2, 0, none⟩) t.n t.n) w8 ?_ ⟨rfl, Below.refl _ _⟩
                                have cc := (HT3.out.below hG).cell4
                                rw [show (setV (addF t vo) vo).n = t.n from rfl] at cc
                                go_simp
                              · clear hW
                                refine stepAt_value rfl rfl rfl (.pointer (some ⟨X, 0, none⟩)) w8 ?_ ⟨rfl, Below.refl _ _⟩
                                go_simp
                              · have q4 := hW 4 (by decide)
                                simp only at q4
                                rw [q4]
                                clear hW
                                refine stepAt_value rfl rfl rfl (.int .i64 (k : Int)) w8 ?_ ⟨rfl, Below.refl _ _⟩
                                have cc := (HX.out.below hG HX.out.lt).cell 0
                                simp only [vcl, List.getElem?_cons_zero] at cc
                                rw [HKW.out] at cc
                                go_simp
                              · have q3 := hW 3 (by decide)
                                simp only at q3
                                have q5 := hW 5 (by decide)
                                simp only at q5
                                rw [q3, q5]
                                clear hW
                                refine stepAt_value rfl rfl rfl (.pointer (some ⟨g2, k, none⟩)) w8 ?_ ⟨rfl, Below.refl _ _⟩
                                have hlt := HKN.out
                                go_simp
                            case fin =>
                              intro vals wC hG hV
                              have q3 := hV 3 (by omega)
                              simp only at q3
                              have q5 := hV 5 (by omega)
                              simp only at q5
                              have q6 := hV 6 (by omega)
                              simp only at q6
                              simp only [List.take_succ_cons, List.take_zero, List.drop_succ_cons, List.drop_zero, putAll, Act.put, List.setIfInBounds_toArray, List.set_cons_zero, List.set_cons_succ, Nat.reduceAdd]
                              rw [q3, q5, q6]
                              clear hV q3 q5 q6
                              generalize vals 0 = y0
                              generalize vals 1 = y1
                              generalize vals 2 = y2
                              generalize vals 4 = y4
                              replace HT3 := Lib.hid (HT3.out.below hG)
                              replace HX := Lib.hid (HX.out.below hG HX.out.lt)
                              replace HKP := Lib.hid (HKP.out.then hG)
                              clear hG
                              have HDH := Lib.hid (HT3.out.doH (k := k) HKW.out)
                              have cv := HT3.out.voted hk
                              have fv := HT3.out.l2.free k
                              go_wp2_with fail
                              go_ret
                              rw [HTK.out]
                              exact ⟨rfl, F2, v2, HDH.out.1, HKP.out.trans (HDH.out.2.mono (F' := F2) (fun x hx => by simp at hx; rw [hx]; exact HIN.out.2.2.1)) HNW.out, HNW.out⟩
end Go.Proofs.Ytoinigcfcjllcaa
