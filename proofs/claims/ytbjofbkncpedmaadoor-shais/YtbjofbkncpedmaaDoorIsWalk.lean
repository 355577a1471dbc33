/-
  The walk of ShaIs.
-/
import Derived.Test.YtbjofbkncpedmaaDoorRefOf
import Derived.Test.YtbjofbkncpedmaaDoorRefLess
namespace Go.Proofs.YtbjofbkncpedmaaDoor
open Go.RowKit
set_option linter.unusedSimpArgs false

theorem refshow_in {w w' : World} (hb : Below w.heap.size w w') (r : List UInt8) (hr : r.length = 32) (S : ByteArray) (hS : S = ⟨(show_ r).toArray⟩) :
    Calls Tryd.prog 14 #[.agg (bv r).toArray] w' fun e w'' => e = .returned (.string S) ∧ Below w.heap.size w w'' :=
  (refshow_any w' r hr).mono fun _ _ ⟨h1, h2⟩ => ⟨by rw [h1, hS], hb.trans (h2.mono hb.size)⟩
theorem refless_in {w w' : World} (hb : Below w.heap.size w w') (r s : List UInt8) (hr : r.length = 32) (hs : s.length = 32) (b : Bool) (h : lessB r s = b) :
    Calls Tryd.prog 12 #[.agg (bv r).toArray, .agg (bv s).toArray] w' fun e w'' => e = .returned (.bool b) ∧ Below w.heap.size w w'' :=
  (refless_any w' r s hr hs).mono fun _ _ ⟨h1, h2⟩ => ⟨by rw [h1, h], hb.trans (h2.mono hb.size)⟩

/-- What is left of a region, from operation k on, quiet in a class. -/
theorem wpAny_rest {P : Program} {C : World → Prop} {Q : Exit → Act → World → Prop} {L : List Oper} {listed : Array Bool} {a : Act} {w : World} {g : Nat} (k : Nat) (hs : Region.noSelect L.toArray = true) (hg : g = (L.drop k).length) (hB : Region.lexFrom .any L.toArray (L.drop k).length k listed = true) (hC : C w)
    (h : wpQuiet P L.toArray C (fun a' => ∀ w', C w' → Q .normal a' w') (L.drop k) a) : wpAny P .any L.toArray Q g listed a w := by
  subst hg
  exact wpAny_of_quiet (Q := fun a' => ∀ w', C w' → Q .normal a' w') (fun _ w' hw' h => h w' hw') _ _ _ _ hC (wpAnyQ_lex (C := C) (md := .any) hs (L.drop k) k listed a (fun j => by simp [List.getElem?_drop]) hB h)

set_option maxHeartbeats 8000000 in
theorem is_in (w : World) (l r s : List UInt8) (hT : Tabs w) (hl : l.length ≤ 1000) (hr : r.length = 32) (hs : s.length = 32) (ab : Bool) (hab : lessB r s = ab) :
    Calls Tryd.prog 3 #[.string ⟨l.toArray⟩, .agg (bv r).toArray, .agg (bv s).toArray] w fun e w' => e = .returned (.bool true) ∧ Below w.heap.size w w' := by
  obtain ⟨S, hS⟩ : ∃ S : ByteArray, S = ⟨l.toArray⟩ := ⟨_, rfl⟩
  rw [← hS]
  have zS : S.size = l.length := by rw [hS]; simp [ByteArray.size]
  have c1 : ¬ ((1000 : Int) < (l.length : Int)) := by omega
  have h1 := (Blk.new w 23 (bv r).toArray).alloc (.cells (bv s).toArray 23)
  have h2 := Blk.new (w.alloc (.cells (bv r).toArray 23)) 23 (bv s).toArray
  have hb : Below w.heap.size w ((w.alloc (.cells (bv r).toArray 23)).alloc (.cells (bv s).toArray 23)) := ((Below.refl _ _).alloc (Nat.le_refl _) _).alloc (by simp) _
  simp only [World.size_alloc] at h2
  have HA := Lib.hid h1
  have HB := Lib.hid h2
  have HBL := Lib.hid hb
  have HT := Lib.hid hT
  have HS := Lib.hid hS
  have HZ1 := Lib.hid (root_size hr)
  have HZ2 := Lib.hid (root_size hs)
  have HHR := Lib.hid hr
  have HHS := Lib.hid hs
  have HL1 := Lib.hid hab
  obtain ⟨SR, hSR⟩ : ∃ S : ByteArray, S = ⟨(show_ r).toArray⟩ := ⟨_, rfl⟩
  have HSR := Lib.hid hSR
  have hse : (SR.toList == SR.toList) = true := by simp
  have hbb : (ab == ab) = true := by simp
  obtain ⟨D, hD⟩ : ∃ D, D = digest l := ⟨_, rfl⟩
  have hDl : D.length = 32 := by rw [hD]; exact digest_length _
  have heq := fun w => root_eq w D D hDl hDl
  simp only [BEq.rfl] at heq
  have HD := Lib.hid hD
  clear h1 h2 hb hT hS hr hs hab hSR hD hDl
  go_enter Tryd.func3, Tryd.ntmps3
  go_wp2_with fail
  generalize (w.alloc (.cells (bv r).toArray 23)).alloc (.cells (bv s).toArray 23) = w1 at HA HB HBL ⊢
  refine (alive_any w1 (HT.out.below HBL.out HT.out.size)).mono ?_
  rintro e w2 ⟨rfl, hb2⟩
  have HA2 := Lib.hid (HA.out.below hb2 HA.out.lt)
  have HB2 := Lib.hid (HB.out.below hb2 HB.out.lt)
  have HBL2 := Lib.hid (HBL.out.trans (hb2.mono HBL.out.size))
  clear hb2 HA HB HBL
  go_wp2_with fail
  refine wp_region_any (by kernel_rfl) ?_
  try (change wpAny _ _ _ _ _ _ _ (World.drew _))
  have hA3 := HA2.out.drew
  have hB3 := HB2.out.drew
  have hL3 := HBL2.out.drew
  generalize w2.drew = w3 at hA3 hB3 hL3 ⊢
  have HA3 := Lib.hid hA3
  have HB3 := Lib.hid hB3
  have HBL3 := Lib.hid hL3
  clear hA3 hB3 hL3 HA2 HB2 HBL2
  refine wpAny_take (i := 0) (v := ?_) rfl (by kernel_rfl) (by kernel_rfl) (by kernel_rfl) (fun _ _ _ h => h) (Or.inl ⟨by rfl, ?_⟩) ?_
  rotate_left
  · intro w
    go_simp
    try with_reducible rfl
  simp only [Act.put, List.getElem_toArray, List.getElem_cons_succ, List.getElem_cons_zero, List.setIfInBounds_toArray, List.set_cons_zero, List.set_cons_succ]
  refine wpAny_take (i := 3) (v := ?_) rfl (by kernel_rfl) (by kernel_rfl) (by kernel_rfl) (fun _ _ _ h => h) (Or.inl ⟨by rfl, ?_⟩) ?_
  rotate_left
  · intro w
    go_simp
    try with_reducible rfl
  simp only [Act.put, List.getElem_toArray, List.getElem_cons_succ, List.getElem_cons_zero, List.setIfInBounds_toArray, List.set_cons_zero, List.set_cons_succ]
  refine wpAny_ready (rs := [1]) (by kernel_rfl) (by simp) ?_
  refine AllReady.cons rfl (fun K hK => ?_) ?_
  · go_simp
    refine hK _ _ ?_
    clear hK K
    try simp only [Act.put, List.getElem_toArray, List.getElem_cons_succ, List.getElem_cons_zero, List.setIfInBounds_toArray, List.set_cons_zero, List.set_cons_succ]
    refine wpAny_ready (rs := [2]) (by kernel_rfl) (by simp) ?_
    refine AllReady.cons rfl (fun K hK => ?_) ?_
    · go_simp
      rw [HS.out]
      refine (of_one w3 l (HT.out.below HBL3.out HT.out.size) (by omega)).mono ?_
      rintro e w4 ⟨rfl, hb4⟩
      rw [← HD.out, ← HS.out]
      refine hK _ _ ?_
      clear hK K
      try simp only [Act.put, List.getElem_toArray, List.getElem_cons_succ, List.getElem_cons_zero, List.setIfInBounds_toArray, List.set_cons_zero, List.set_cons_succ]
      have HA4 := Lib.hid (HA3.out.below hb4 HA3.out.lt)
      have HB4 := Lib.hid (HB3.out.below hb4 HB3.out.lt)
      have HBL4 := Lib.hid (HBL3.out.trans (hb4.mono HBL3.out.size))
      clear hb4 HA3 HB3 HBL3
      refine wpAny_ready (rs := [4]) (by kernel_rfl) (by simp) ?_
      refine AllReady.cons rfl (fun K hK => ?_) ?_
      · go_simp
        rw [HS.out]
        refine (refof_any w4 l hl).mono ?_
        rintro e w5 ⟨rfl, hb5⟩
        rw [← HD.out, ← HS.out]
        refine hK _ _ ?_
        clear hK K
        try simp only [Act.put, List.getElem_toArray, List.getElem_cons_succ, List.getElem_cons_zero, List.setIfInBounds_toArray, List.set_cons_zero, List.set_cons_succ]
        have HA5 := Lib.hid (HA4.out.below hb5 HA4.out.lt)
        have HB5 := Lib.hid (HB4.out.below hb5 HB4.out.lt)
        have HBL5 := Lib.hid (HBL4.out.trans (hb5.mono HBL4.out.size))
        clear hb5 HA4 HB4 HBL4
        refine wpAny_take (i := 5) (v := ?_) rfl (by kernel_rfl) (by kernel_rfl) (by kernel_rfl) (fun _ _ _ h => h) (Or.inl ⟨by rfl, ?_⟩) ?_
        rotate_left
        · intro w
          go_simp
          try with_reducible rfl
        simp only [Act.put, List.getElem_toArray, List.getElem_cons_succ, List.getElem_cons_zero, List.setIfInBounds_toArray, List.set_cons_zero, List.set_cons_succ]
        refine wpAny_take (i := 6) (v := ?_) rfl (by kernel_rfl) (by kernel_rfl) (by kernel_rfl) (fun _ _ _ h => h) (Or.inl ⟨by rfl, ?_⟩) ?_
        rotate_left
        · intro w
          go_simp
          try with_reducible rfl
        simp only [Act.put, List.getElem_toArray, List.getElem_cons_succ, List.getElem_cons_zero, List.setIfInBounds_toArray, List.set_cons_zero, List.set_cons_succ]
        have HCA := Lib.hid (root_cells HA5.out)
        have HCB := Lib.hid (root_cells HB5.out)
        refine wpAny_rest (C := fun w' => Below w5.heap.size w5 w') 7 (by kernel_rfl) (by kernel_rfl) (by kernel_rfl) (Below.refl _ _) ?_
        simp only [List.drop_succ_cons, List.drop_zero]
        refine BigFrame.wpQuiet_want rfl fun K hK => ?_
        refine quiet_load_cells 23 (.tmp 4) rfl w.heap.size 0 (bv r) rfl 32 5 HCA.out Tryd.underlying23 HZ1.out (hK _ ?_)
        clear hK K
        simp only [Act.put, List.setIfInBounds_toArray, List.set_cons_zero, List.set_cons_succ]
        refine BigFrame.wpQuiet_want rfl fun K hK => ?_
        refine quiet_load_cells 23 (.tmp 5) rfl (w.heap.size + 1) 0 (bv s) rfl 32 5 HCB.out Tryd.underlying23 HZ2.out (hK _ ?_)
        clear hK K
        simp only [Act.put, List.setIfInBounds_toArray, List.set_cons_zero, List.set_cons_succ]
        go_big_quiet_step ((intro hw'; exact less_in hw' r s HHR.out HHS.out ab HL1.out))
        refine BigFrame.wpQuiet_want rfl fun K hK => ?_
        refine quiet_load_cells 23 (.tmp 4) rfl w.heap.size 0 (bv r) rfl 32 5 HCA.out Tryd.underlying23 HZ1.out (hK _ ?_)
        clear hK K
        simp only [Act.put, List.setIfInBounds_toArray, List.set_cons_zero, List.set_cons_succ]
        refine BigFrame.wpQuiet_want rfl fun K hK => ?_
        refine quiet_load_cells 23 (.tmp 5) rfl (w.heap.size + 1) 0 (bv s) rfl 32 5 HCB.out Tryd.underlying23 HZ2.out (hK _ ?_)
        clear hK K
        simp only [Act.put, List.setIfInBounds_toArray, List.set_cons_zero, List.set_cons_succ]
        go_big_quiet_step ((intro hw'; exact refless_in hw' r s HHR.out HHS.out ab HL1.out))
        go_big_quiet_step ((intro _; rfl))
        go_big_quiet_step ((intro _; rfl))
        go_big_quiet_step ((intro _; rfl))
        refine BigFrame.wpQuiet_want rfl fun K hK => ?_
        refine quiet_load_cells 23 (.tmp 4) rfl w.heap.size 0 (bv r) rfl 32 5 HCA.out Tryd.underlying23 HZ1.out (hK _ ?_)
        clear hK K
        simp only [Act.put, List.setIfInBounds_toArray, List.set_cons_zero, List.set_cons_succ]
        go_big_quiet_step ((intro hw'; exact show_in hw' r HHR.out SR HSR.out))
        refine BigFrame.wpQuiet_want rfl fun K hK => ?_
        refine quiet_load_cells 23 (.tmp 4) rfl w.heap.size 0 (bv r) rfl 32 5 HCA.out Tryd.underlying23 HZ1.out (hK _ ?_)
        clear hK K
        simp only [Act.put, List.setIfInBounds_toArray, List.set_cons_zero, List.set_cons_succ]
        go_big_quiet_step ((intro hw'; exact refshow_in hw' r HHR.out SR HSR.out))
        go_big_quiet_step ((intro _; rfl))
        go_big_quiet_step ((intro _; rfl))
        go_big_quiet_step ((intro _; rfl))
        refine wpQuiet_nil ?_
        intro w6 hb6
        have HB6 := Lib.hid (HBL5.out.trans (hb6.mono HBL5.out.size))
        clear hb6
        go_wp2_with fail
        go_ret
        exact ⟨rfl, HB6.out⟩
      exact AllReady.nil
    exact AllReady.nil
  exact AllReady.nil

set_option maxHeartbeats 1000000 in
theorem is_all (w : World) (s : ByteArray) (r t : List UInt8) (hT : Tabs w) (hr : r.length = 32) (ht : t.length = 32) :
    Calls Tryd.prog 3 #[.string s, .agg (bv r).toArray, .agg (bv t).toArray] w fun e w' => e = .returned (.bool true) ∧ Below w.heap.size w w' := by
  by_cases h : s.size ≤ 1000
  · have hx := is_in w s.data.toList r t hT (by rw [Array.length_toList]; exact h) hr ht (lessB r t) rfl
    have e : (⟨s.data.toList.toArray⟩ : ByteArray) = s := by cases s; simp
    rw [e] at hx
    exact hx
  · have c1 : (1000 : Int) < (s.size : Int) := by omega
    have HB := Lib.hid (show Below w.heap.size w ((w.alloc (.cells (bv r).toArray 23)).alloc (.cells (bv t).toArray 23)) from ((Below.refl _ _).alloc (Nat.le_refl _) _).alloc (by simp) _)
    have HT := Lib.hid hT
    clear hT hr ht h
    go_enter Tryd.func3, Tryd.ntmps3
    go_wp2_with fail
    generalize (w.alloc (.cells (bv r).toArray 23)).alloc (.cells (bv t).toArray 23) = w1 at HB ⊢
    refine (alive_any w1 (HT.out.below HB.out HT.out.size)).mono ?_
    rintro e w2 ⟨rfl, hb2⟩
    go_wp2_with fail
    go_ret
    exact ⟨rfl, HB.out.trans (hb2.mono HB.out.size)⟩
end Go.Proofs.YtbjofbkncpedmaaDoor
