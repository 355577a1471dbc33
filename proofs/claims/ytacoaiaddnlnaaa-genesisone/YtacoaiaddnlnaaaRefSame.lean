/-
  What the reference's Same answers.
-/
import Derived.Test.YtacoaiaddnlnaaaAlive5
import Derived.Test.YtacoaiaddnlnaaaRefGood
namespace Go.Proofs.Ytacoaiaddnlnaaa
open Go.RowKit

/-- The numbers, one behind the other. -/
def fl (l : List (Int × Int)) : List Int := l.flatMap fun p => [p.1, p.2]
theorem nc_fl (l : List (Int × Int)) : nc l = (fl l).map fun n => Value.int .i64 n := by
  induction l with
  | nil => rfl
  | cons v r ih => simp only [nc, fl, List.flatMap_cons, List.map_append] at ih ⊢; rw [ih]; rfl
theorem fl_length (l : List (Int × Int)) : (fl l).length = l.length * 2 := by
  induction l with
  | nil => rfl
  | cons v r ih => simp only [fl, List.flatMap_cons, List.length_append, List.length_cons, List.length_nil] at ih ⊢; omega
theorem fl_inj : ∀ a b : List (Int × Int), fl a = fl b → a = b
  | [], [], _ => rfl
  | [], _ :: _, h => by simp [fl] at h
  | _ :: _, [], h => by simp [fl] at h
  | (x, m) :: a, (y, n) :: b, h => by
    have e : ∀ (u v : Int) (r : List (Int × Int)), fl ((u, v) :: r) = u :: v :: fl r := fun _ _ _ => rfl
    rw [e, e] at h
    simp only [List.cons.injEq] at h
    rw [h.1, h.2.1, fl_inj a b h.2.2]
theorem nc_int {l : List (Int × Int)} {j : Nat} {n : Int} (h : (fl l)[j]? = some n) : (nc l)[j]? = some (.int .i64 n) := by rw [nc_fl, List.getElem?_map, h]; rfl
theorem take_next {α : Type} {a b : List α} {j : Nat} {x : α} (h : a.take j = b.take j) (ha : a[j]? = some x) (hb : b[j]? = some x) : a.take (j + 1) = b.take (j + 1) := by
  rw [List.take_add_one, List.take_add_one, h, ha, hb]

/-- Are two the same? -/
def sameB (La Lb : List (Int × Int)) (vs us : List (Int × ByteArray)) : Bool := decide (La = Lb) && decide (vs = us)

set_option maxRecDepth 100000 in
set_option maxHeartbeats 8000000 in
theorem same_any (w : World) (nao mao : Option Addr) (nlen mlen ncap mcap nb mb noff moff : Nat) (n1 n2 n3 n4 n5 n6 n7 n8 n9 n10 n11 m1 m2 m3 m4 m5 m6 m7 m8 m9 m10 m11 : Int) (vs us : List (Int × ByteArray)) (hl : vs.length = nlen) (hl2 : us.length = mlen) (hlen : nlen ≤ 1000) (hlen2 : mlen ≤ 1000)
    (hs : Lies w w.heap.size nao nb noff (vc vs)) (hs2 : Lies w w.heap.size mao mb moff (vc us)) :
    Calls Try.prog 15 #[.agg #[.slice nao nlen ncap, .int .i64 n1, .int .i64 n2, .int .i64 n3, .int .i64 n4, .int .i64 n5, .int .i64 n6, .int .i64 n7, .int .i64 n8, .int .i64 n9, .int .i64 n10, .int .i64 n11], .agg #[.slice mao mlen mcap, .int .i64 m1, .int .i64 m2, .int .i64 m3, .int .i64 m4, .int .i64 m5, .int .i64 m6, .int .i64 m7, .int .i64 m8, .int .i64 m9, .int .i64 m10, .int .i64 m11]] w fun e w' => e = .returned (.bool (sameB (nums nlen n1 n2 n3 n4 n5 n6 n7 n8 n9 n10 n11) (nums mlen m1 m2 m3 m4 m5 m6 m7 m8 m9 m10 m11) vs us)) ∧ Below w.heap.size w w' := by
  obtain ⟨La, hLa⟩ : ∃ L, L = nums nlen n1 n2 n3 n4 n5 n6 n7 n8 n9 n10 n11 := ⟨_, rfl⟩
  obtain ⟨Lb, hLb⟩ : ∃ L, L = nums mlen m1 m2 m3 m4 m5 m6 m7 m8 m9 m10 m11 := ⟨_, rfl⟩
  rw [← hLa, ← hLb]
  have HS := Lib.hid hs
  have HS2 := Lib.hid hs2
  have HL := Lib.hid hl
  have HL2 := Lib.hid hl2
  have HLa := Lib.hid hLa
  have HLb := Lib.hid hLb
  have HFa := Lib.hid (show (fl La).length = 24 by rw [hLa]; rfl)
  have HFb := Lib.hid (show (fl Lb).length = 24 by rw [hLb]; rfl)
  have HB := Lib.hid (((Below.refl w.heap.size w).alloc (Nat.le_refl _) (.cells #[.slice nao nlen ncap, .int .i64 n1, .int .i64 n2, .int .i64 n3, .int .i64 n4, .int .i64 n5, .int .i64 n6, .int .i64 n7, .int .i64 n8, .int .i64 n9, .int .i64 n10, .int .i64 n11] 24)).alloc (by simp) (.cells #[.slice mao mlen mcap, .int .i64 m1, .int .i64 m2, .int .i64 m3, .int .i64 m4, .int .i64 m5, .int .i64 m6, .int .i64 m7, .int .i64 m8, .int .i64 m9, .int .i64 m10, .int .i64 m11] 24))
  have HKn := Lib.hid ((Blk.new w 24 #[.slice nao nlen ncap, .int .i64 n1, .int .i64 n2, .int .i64 n3, .int .i64 n4, .int .i64 n5, .int .i64 n6, .int .i64 n7, .int .i64 n8, .int .i64 n9, .int .i64 n10, .int .i64 n11]).alloc (.cells #[.slice mao mlen mcap, .int .i64 m1, .int .i64 m2, .int .i64 m3, .int .i64 m4, .int .i64 m5, .int .i64 m6, .int .i64 m7, .int .i64 m8, .int .i64 m9, .int .i64 m10, .int .i64 m11] 24))
  have HKm := Lib.hid (Blk.newAt (w.alloc (.cells #[.slice nao nlen ncap, .int .i64 n1, .int .i64 n2, .int .i64 n3, .int .i64 n4, .int .i64 n5, .int .i64 n6, .int .i64 n7, .int .i64 n8, .int .i64 n9, .int .i64 n10, .int .i64 n11] 24)) 24 #[.slice mao mlen mcap, .int .i64 m1, .int .i64 m2, .int .i64 m3, .int .i64 m4, .int .i64 m5, .int .i64 m6, .int .i64 m7, .int .i64 m8, .int .i64 m9, .int .i64 m10, .int .i64 m11] (w.heap.size + 1) (by simp))
  clear hs hs2 hl hl2 hLa hLb
  go_enter Try.func15, Try.ntmps15
  go_wp2_with fail
  generalize (w.alloc (.cells #[.slice nao nlen ncap, .int .i64 n1, .int .i64 n2, .int .i64 n3, .int .i64 n4, .int .i64 n5, .int .i64 n6, .int .i64 n7, .int .i64 n8, .int .i64 n9, .int .i64 n10, .int .i64 n11] 24)).alloc (.cells #[.slice mao mlen mcap, .int .i64 m1, .int .i64 m2, .int .i64 m3, .int .i64 m4, .int .i64 m5, .int .i64 m6, .int .i64 m7, .int .i64 m8, .int .i64 m9, .int .i64 m10, .int .i64 m11] 24) = w1 at HB HKn HKm ⊢
  generalize w.heap.size + 1 = A2 at HKm ⊢
  generalize w.heap.size = A at HKn ⊢
  refine wp_region_free (P := Try.prog) 4 (fun w' => Below w1.heap.size w1 w') (fun oq v w' => match oq with
      | 0 => v = .agg #[.slice nao nlen ncap, .int .i64 n1, .int .i64 n2, .int .i64 n3, .int .i64 n4, .int .i64 n5, .int .i64 n6, .int .i64 n7, .int .i64 n8, .int .i64 n9, .int .i64 n10, .int .i64 n11]
      | 1 => ∃ g, v = .slice (some ⟨g, 0, none⟩) 24 24 ∧ Blk w' g 3 (nc La)
      | 2 => v = .agg #[.slice mao mlen mcap, .int .i64 m1, .int .i64 m2, .int .i64 m3, .int .i64 m4, .int .i64 m5, .int .i64 m6, .int .i64 m7, .int .i64 m8, .int .i64 m9, .int .i64 m10, .int .i64 m11]
      | 3 => ∃ g, v = .slice (some ⟨g, 0, none⟩) 24 24 ∧ Blk w' g 3 (nc Lb)
      | _ => True) (by kernel_rfl) (by kernel_rfl) (Below.refl _ _).drew ?gb ?vb ?steps ?fin
  case gb => exact fun a b h1 h2 => h1.trans (h2.mono h1.size)
  case vb =>
    intro oq v a b h hb
    match oq with
    | 0 => exact h
    | 1 => obtain ⟨g, h1, h2⟩ := h; exact ⟨g, h1, h2.below hb h2.lt⟩
    | 2 => exact h
    | 3 => obtain ⟨g, h1, h2⟩ := h; exact ⟨g, h1, h2.below hb h2.lt⟩
    | _ + 4 => trivial
  case steps =>
    intro vals
    simp only [List.take_succ_cons, List.take_zero, freeSteps, Act.put, List.setIfInBounds_toArray, List.set_cons_zero, List.set_cons_succ, Nat.reduceAdd]
    refine ⟨fun w8 hG hW => ?_, fun w8 hG hW => ?_, fun w8 hG hW => ?_, fun w8 hG hW => ?_, trivial⟩
    · clear hW
      refine stepAt_value rfl rfl rfl (.agg #[.slice nao nlen ncap, .int .i64 n1, .int .i64 n2, .int .i64 n3, .int .i64 n4, .int .i64 n5, .int .i64 n6, .int .i64 n7, .int .i64 n8, .int .i64 n9, .int .i64 n10, .int .i64 n11]) w8 ?_ ⟨rfl, Below.refl _ _⟩
      obtain ⟨q0, q1, q2, q3, q4, q5, q6, q7, q8, q9, q10, q11⟩ := (HKn.out.below hG HKn.out.lt).twelve
      go_simp
    · have q0 := hW 0 (by decide)
      simp only at q0
      rw [q0]
      clear hW
      refine stepAt_call rfl rfl rfl 19 #[.agg #[.slice nao nlen ncap, .int .i64 n1, .int .i64 n2, .int .i64 n3, .int .i64 n4, .int .i64 n5, .int .i64 n6, .int .i64 n7, .int .i64 n8, .int .i64 n9, .int .i64 n10, .int .i64 n11]] (by go_simp) ((refNumbers_any w8 nao nlen ncap n1 n2 n3 n4 n5 n6 n7 n8 n9 n10 n11).mono fun e w' ⟨g, h1, h2, h3⟩ => ⟨_, h1, ⟨g, rfl, by rw [HLa.out]; exact h2⟩, h3⟩)
    · clear hW
      refine stepAt_value rfl rfl rfl (.agg #[.slice mao mlen mcap, .int .i64 m1, .int .i64 m2, .int .i64 m3, .int .i64 m4, .int .i64 m5, .int .i64 m6, .int .i64 m7, .int .i64 m8, .int .i64 m9, .int .i64 m10, .int .i64 m11]) w8 ?_ ⟨rfl, Below.refl _ _⟩
      obtain ⟨q0, q1, q2, q3, q4, q5, q6, q7, q8, q9, q10, q11⟩ := (HKm.out.below hG HKm.out.lt).twelve
      go_simp
    · have q2 := hW 2 (by decide)
      simp only at q2
      rw [q2]
      clear hW
      refine stepAt_call rfl rfl rfl 19 #[.agg #[.slice mao mlen mcap, .int .i64 m1, .int .i64 m2, .int .i64 m3, .int .i64 m4, .int .i64 m5, .int .i64 m6, .int .i64 m7, .int .i64 m8, .int .i64 m9, .int .i64 m10, .int .i64 m11]] (by go_simp) ((refNumbers_any w8 mao mlen mcap m1 m2 m3 m4 m5 m6 m7 m8 m9 m10 m11).mono fun e w' ⟨g, h1, h2, h3⟩ => ⟨_, h1, ⟨g, rfl, by rw [HLb.out]; exact h2⟩, h3⟩)
  case fin =>
  intro vals w2 hG hV
  obtain ⟨g, q1, hg⟩ := hV 1 (by omega)
  obtain ⟨g2, q3, hg2⟩ := hV 3 (by omega)
  simp only [List.take_succ_cons, List.take_zero, List.drop_succ_cons, List.drop_zero, putAll, Act.put, List.setIfInBounds_toArray, List.set_cons_zero, List.set_cons_succ, Nat.reduceAdd]
  rw [q1, q3]
  have HKn2 := Lib.hid (HKn.out.below hG HKn.out.lt)
  have HKm2 := Lib.hid (HKm.out.below hG HKm.out.lt)
  have HB2 := Lib.hid (HB.out.trans (hG.mono HB.out.size))
  have HG := Lib.hid hg
  have HG2 := Lib.hid hg2
  generalize vals 0 = x0
  generalize vals 2 = x2
  clear hV q1 q3 hg hg2 hG HKn HKm HB vals
  go_wp2_with fail
  go_loopw [15] (fun i wr => ∃ (j : Nat), j ≤ 24 ∧ i = .int .i64 j ∧ Hid ((fl La).take j = (fl Lb).take j) ∧ Hid (Below w2.heap.size w2 wr)) (fun i _ => 24 - (intOf i).toNat)
  case atStart => exact ⟨0, Nat.zero_le _, rfl, Lib.hid rfl, Lib.hid (Below.refl _ _)⟩
  case round =>
    obtain ⟨j, hj, rfl, HT, HBel⟩ := hrel
    by_cases hlt : j < 24
    · obtain ⟨x, hx⟩ : ∃ x, (fl La)[j]? = some x := ⟨_, List.getElem?_eq_getElem (by rw [HFa.out]; exact hlt)⟩
      obtain ⟨y, hy⟩ : ∃ y, (fl Lb)[j]? = some y := ⟨_, List.getElem?_eq_getElem (by rw [HFb.out]; exact hlt)⟩
      have c0 := ((HG.out.below HBel.out HG.out.lt).cell j).trans (nc_int hx)
      have c1 := ((HG2.out.below HBel.out HG2.out.lt).cell j).trans (nc_int hy)
      have HX := Lib.hid hx
      have HY := Lib.hid hy
      clear hx hy
      by_cases hxy : x = y
      · subst hxy
        go_wp2_with fail
        go_quiet (fail)
        go_wp2_with fail
        go_roundw
        case rel => exact ⟨j + 1, by omega, by go_num, Lib.hid (take_next HT.out HX.out HY.out), Lib.hid (below_drewN HBel.out _)⟩
        case measure => simp [intOf]; omega
      · have HR := Lib.hid (show sameB La Lb vs us = false by
          have : La ≠ Lb := fun e => hxy (by have h1 := HX.out; rw [e, HY.out] at h1; exact (Option.some.inj h1).symm)
          simp [sameB, this])
        have HBF := Lib.hid (HB2.out.trans (HBel.out.mono HB2.out.size))
        go_wp2_with fail
        go_quiet (fail)
        go_wp2_with fail
        go_ret
        rw [HR.out]
        exact ⟨rfl, below_drewN HBF.out _⟩
    · have hjl : j = 24 := by omega
      have HEQ := Lib.hid (show La = Lb from fl_inj La Lb (by
        have h := HT.out
        rw [hjl, List.take_of_length_le (by rw [HFa.out]; omega), List.take_of_length_le (by rw [HFb.out]; omega)] at h
        exact h))
      have HBF := Lib.hid (HB2.out.trans (HBel.out.mono HB2.out.size))
      have HKn3 := Lib.hid (HKn2.out.below HBel.out HKn2.out.lt)
      have HKm3 := Lib.hid (HKm2.out.below HBel.out HKm2.out.lt)
      clear hjl HT HKn2 HKm2
      have p0 := HKn3.out.cell 0
      have r0 := HKm3.out.cell 0
      simp only [List.getElem?_cons_zero] at p0 r0
      by_cases hll : (nlen : Int) = (mlen : Int)
      · have hll' : nlen = mlen := by omega
        clear hll
        subst hll'
        clear HB2 HBel HG HG2
        go_wp2_with fail
        go_loopw [38] (fun i wr => ∃ (j : Nat), j ≤ nlen ∧ i = .int .i64 j ∧ Hid (vs.take j = us.take j) ∧ Hid (Below w.heap.size w wr) ∧ Hid (Blk wr A 24 #[.slice nao nlen ncap, .int .i64 n1, .int .i64 n2, .int .i64 n3, .int .i64 n4, .int .i64 n5, .int .i64 n6, .int .i64 n7, .int .i64 n8, .int .i64 n9, .int .i64 n10, .int .i64 n11].toList) ∧ Hid (Blk wr A2 24 (#[.slice mao nlen mcap, .int .i64 m1, .int .i64 m2, .int .i64 m3, .int .i64 m4, .int .i64 m5, .int .i64 m6, .int .i64 m7, .int .i64 m8, .int .i64 m9, .int .i64 m10, .int .i64 m11] : Array Value).toList)) (fun i _ => nlen - (intOf i).toNat)
        case atStart => exact ⟨0, Nat.zero_le _, rfl, Lib.hid rfl, HBF, HKn3, HKm3⟩
        case round =>
          clear HKn3 HKm3 HBF p0 r0
          obtain ⟨j2, hj2, rfl, HT, HBF, HKn3, HKm3⟩ := hrel
          by_cases hlt2 : j2 < nlen
          · obtain ⟨v, hv⟩ : ∃ v, vs[j2]? = some v := ⟨_, List.getElem?_eq_getElem (by rw [HL.out]; exact hlt2)⟩
            obtain ⟨u, hu⟩ : ∃ u, us[j2]? = some u := ⟨_, List.getElem?_eq_getElem (by rw [HL2.out]; exact hlt2)⟩
            obtain ⟨ha, c0, c1⟩ := HS.out.val HBF.out hv
            obtain ⟨ha2, c2, c3⟩ := HS2.out.val HBF.out hu
            subst ha ha2
            have HX := Lib.hid hv
            have HY := Lib.hid hu
            have p0 := HKn3.out.cell 0
            have r0 := HKm3.out.cell 0
            simp only [List.getElem?_cons_zero] at p0 r0
            obtain ⟨x, k⟩ := v
            obtain ⟨y, h⟩ := u
            simp only at c0 c1 c2 c3
            clear hv hu
            have hno : ¬ (x = y ∧ k = h) → sameB La Lb vs us = false := fun hne => by
              have : vs ≠ us := fun e => hne (by have h1 := HX.out; rw [e, HY.out] at h1; simp only [Option.some.injEq, Prod.mk.injEq] at h1; exact ⟨h1.1.symm, h1.2.symm⟩)
              simp [sameB, this]
            have HNO := Lib.hid hno
            clear hno
            by_cases hxy : x = y
            · by_cases hkh : k = h
              · subst hxy hkh
                go_wp2_with fail
                go_quiet (fail)
                go_wp2_with fail
                go_roundw
                case rel => exact ⟨j2 + 1, by omega, by go_num, Lib.hid (take_next HT.out HX.out HY.out), Lib.hid (below_drewN HBF.out _), Lib.hid (HKn3.out.drewN _), Lib.hid (HKm3.out.drewN _)⟩
                case measure => simp [intOf]; omega
              · have HR := Lib.hid (HNO.out fun e => hkh e.2)
                have e2 : (k.toList == h.toList) = false := by
                  rw [ByteArray.toList_eq, ByteArray.toList_eq, beq_eq_false_iff_ne]
                  exact fun e => hkh (ByteArray.ext (Array.toList_inj.1 e))
                have e3 : ¬ k.toList = h.toList := by simpa using e2
                subst hxy
                go_wp2_with fail
                go_quiet (fail)
                go_wp2_with fail
                go_ret
                rw [HR.out]
                exact ⟨rfl, below_drewN HBF.out _⟩
            · have HR := Lib.hid (HNO.out fun e => hxy e.1)
              have e2 : (x == y) = false := by simp [hxy]
              go_wp2_with fail
              go_quiet (fail)
              go_wp2_with fail
              go_ret
              rw [HR.out]
              exact ⟨rfl, below_drewN HBF.out _⟩
          · have hjl : j2 = nlen := by omega
            have HR := Lib.hid (show sameB La Lb vs us = true by
              have h1 := HT.out
              rw [hjl, List.take_of_length_le (by rw [HL.out]; omega), List.take_of_length_le (by rw [HL2.out]; omega)] at h1
              simp [sameB, HEQ.out, h1])
            clear hjl
            go_wp2_with fail
            go_ret
            rw [HR.out]
            exact ⟨rfl, HBF.out⟩
      · have HR := Lib.hid (show sameB La Lb vs us = false by
          have : vs ≠ us := fun e => hll (by rw [← HL.out, ← HL2.out, e])
          simp [sameB, this])
        go_wp2_with fail
        go_ret
        rw [HR.out]
        exact ⟨rfl, HBF.out⟩
end Go.Proofs.Ytacoaiaddnlnaaa
