/-
  The walk of ShaOrder.
-/
import Derived.Test.YtbjofbkncpedmaaDoorOrd
namespace Go.Proofs.YtbjofbkncpedmaaDoor
open Go.RowKit

/-- The three digests, boxed. -/
structure Three (w : World) (r s t : List UInt8) (wr : World) : Prop where
  a : Blk wr w.heap.size 23 (bv r)
  b : Blk wr (w.heap.size + 1) 23 (bv s)
  c : Blk wr (w.heap.size + 1 + 1) 23 (bv t)
  hB : Below w.heap.size w wr
theorem Three.below {w : World} {r s t : List UInt8} {wr w' : World} (h : Three w r s t wr) (hb : Below wr.heap.size wr w') : Three w r s t w' :=
  ⟨h.a.below hb h.a.lt, h.b.below hb h.b.lt, h.c.below hb h.c.lt, h.hB.trans (hb.mono h.hB.size)⟩

theorem wpList_load_wanted {P : Program} {ops : Array Oper} {rest : List Oper} {o : Oper} {a : Act} {w : World} {Q : Exit → Act → World → Prop} (hgd : Region.wanted o (yielded ops a.tmps) = true) (ty : TypeId) (x : Operand) (ho : o.op = .load ty x)
    (g off : Nat) (cs : List Value) (hx : a.eval x = .pointer (some ⟨g, off, none⟩)) (n : Nat) (e : TypeId)
    (hc : ∀ j v, cs[j]? = some v → w.cell? ⟨g, off + j, none⟩ = some v) (hu : P.underlying ty = some (.array n e)) (hi : (P.info? ty).map (·.size) = some cs.length)
    (h : wpList P ops Q rest (a.put o.dst (.agg cs.toArray)) w) : wpList P ops Q (o :: rest) a w := by
  refine wpList_step fun K hK => ?_
  rw [if_pos hgd]
  unfold Oper.wp execOp
  simp only [ho, hx, Sem.run_bind, run_loadAt_cells hc ty n e hu hi, Result.andThen_ok]
  exact hK _ _ h

set_option maxHeartbeats 4000000 in
theorem order_same (w : World) (r s t : List UInt8) (hT : Tabs w) (hr : r.length = 32) (hs : s.length = 32) (ht : t.length = 32) (h1 : lessB r s = false) (h2 : lessB s r = false) (h3 : (r == s) = true) :
    Calls Tryd.prog 5 #[.agg (bv r).toArray, .agg (bv s).toArray, .agg (bv t).toArray] w fun e w' => e = .returned (.bool true) ∧ Below w.heap.size w w' := by
  have h4 : Three w r s t (((w.alloc (.cells (bv r).toArray 23)).alloc (.cells (bv s).toArray 23)).alloc (.cells (bv t).toArray 23)) := by
    have a := ((Blk.new w 23 (bv r).toArray).alloc (.cells (bv s).toArray 23)).alloc (.cells (bv t).toArray 23)
    have b := (Blk.new (w.alloc (.cells (bv r).toArray 23)) 23 (bv s).toArray).alloc (.cells (bv t).toArray 23)
    have c := Blk.new ((w.alloc (.cells (bv r).toArray 23)).alloc (.cells (bv s).toArray 23)) 23 (bv t).toArray
    simp only [World.size_alloc] at b c
    exact ⟨a, b, c, (((Below.refl _ _).alloc (Nat.le_refl _) _).alloc (by simp) _).alloc (by simp; omega) _⟩
  have H3 := Lib.hid h4
  have HT := Lib.hid hT
  have HZ1 := Lib.hid (root_size hr)
  have HZ2 := Lib.hid (root_size hs)
  have HZ3 := Lib.hid (root_size ht)
  have HHR := Lib.hid hr
  have HHS := Lib.hid hs
  have HHT := Lib.hid ht
  have HL1 := Lib.hid h1
  have HL2 := Lib.hid h2
  have heq := fun w' => root_eq w' r s hr hs
  simp only [h3] at heq
  obtain ⟨SR, hSR⟩ : ∃ S : ByteArray, S = ⟨(show_ r).toArray⟩ := ⟨_, rfl⟩
  obtain ⟨SS, hSS⟩ : ∃ S : ByteArray, S = ⟨(show_ s).toArray⟩ := ⟨_, rfl⟩
  have hzr : SR.size = 64 := by rw [hSR]; simp [ByteArray.size, show_length, hr]
  have hlt : Op.bytesLess SR.toList SS.toList = false := by rw [hSR, hSS, ByteArray.toList_eq, ByteArray.toList_eq, ← h1]; exact shown_less r s (by omega)
  have HSR := Lib.hid hSR
  have HSS := Lib.hid hSS
  clear h4 hT hr hs ht h1 h2 h3 hSR hSS
  go_enter Tryd.func5, Tryd.ntmps5
  go_wp2_with fail
  generalize ((w.alloc (.cells (bv r).toArray 23)).alloc (.cells (bv s).toArray 23)).alloc (.cells (bv t).toArray 23) = w1 at H3 ⊢
  refine (alive_any w1 (HT.out.below H3.out.hB HT.out.size)).mono ?_
  rintro e w2 ⟨rfl, hb2⟩
  have H32 := Lib.hid (H3.out.below hb2)
  clear hb2 H3
  have HA2 := Lib.hid (root_cells H32.out.a)
  have HBB2 := Lib.hid (root_cells H32.out.b)
  have HCC2 := Lib.hid (root_cells H32.out.c)
  go_wp2_with fail
  refine wp_region_class (C := fun w' => Below w2.heap.size w2 w') (by kernel_rfl) (by kernel_rfl) (Below.refl _ _).drew ?_
  refine BigFrame.wpQuiet_want rfl fun K hK => ?_
  refine quiet_load_cells 23 (.tmp 3) rfl w.heap.size 0 (bv r) rfl 32 5 HA2.out Tryd.underlying23 HZ1.out (hK _ ?_)
  clear hK K
  simp only [Act.put, List.setIfInBounds_toArray, List.set_cons_zero, List.set_cons_succ]
  refine BigFrame.wpQuiet_want rfl fun K hK => ?_
  refine quiet_load_cells 23 (.tmp 4) rfl (w.heap.size + 1) 0 (bv s) rfl 32 5 HBB2.out Tryd.underlying23 HZ2.out (hK _ ?_)
  clear hK K
  simp only [Act.put, List.setIfInBounds_toArray, List.set_cons_zero, List.set_cons_succ]
  go_big_quiet_step ((intro hw'; exact less_in hw' r s HHR.out HHS.out false HL1.out))
  go_big_quiet_step ((intro _; rfl))
  go_big_quiet_skip
  go_big_quiet_skip
  go_big_quiet_skip
  go_big_quiet_step ((intro _; rfl))
  go_big_quiet_step ((intro _; rfl))
  refine BigFrame.wpQuiet_want rfl fun K hK => ?_
  refine quiet_load_cells 23 (.tmp 3) rfl w.heap.size 0 (bv r) rfl 32 5 HA2.out Tryd.underlying23 HZ1.out (hK _ ?_)
  clear hK K
  simp only [Act.put, List.setIfInBounds_toArray, List.set_cons_zero, List.set_cons_succ]
  refine BigFrame.wpQuiet_want rfl fun K hK => ?_
  refine quiet_load_cells 23 (.tmp 4) rfl (w.heap.size + 1) 0 (bv s) rfl 32 5 HBB2.out Tryd.underlying23 HZ2.out (hK _ ?_)
  clear hK K
  simp only [Act.put, List.setIfInBounds_toArray, List.set_cons_zero, List.set_cons_succ]
  go_big_quiet_step ((intro hw'; exact less_in hw' r s HHR.out HHS.out false HL1.out))
  go_big_quiet_step ((intro _; rfl))
  go_big_quiet_step ((intro _; rfl))
  refine BigFrame.wpQuiet_want rfl fun K hK => ?_
  refine quiet_load_cells 23 (.tmp 4) rfl (w.heap.size + 1) 0 (bv s) rfl 32 5 HBB2.out Tryd.underlying23 HZ2.out (hK _ ?_)
  clear hK K
  simp only [Act.put, List.setIfInBounds_toArray, List.set_cons_zero, List.set_cons_succ]
  refine BigFrame.wpQuiet_want rfl fun K hK => ?_
  refine quiet_load_cells 23 (.tmp 3) rfl w.heap.size 0 (bv r) rfl 32 5 HA2.out Tryd.underlying23 HZ1.out (hK _ ?_)
  clear hK K
  simp only [Act.put, List.setIfInBounds_toArray, List.set_cons_zero, List.set_cons_succ]
  go_big_quiet_step ((intro hw'; exact less_in hw' s r HHS.out HHR.out false HL2.out))
  go_big_quiet_step ((intro _; rfl))
  go_big_quiet_step ((intro _; rfl))
  refine BigFrame.wpQuiet_want rfl fun K hK => ?_
  refine quiet_load_cells 23 (.tmp 3) rfl w.heap.size 0 (bv r) rfl 32 5 HA2.out Tryd.underlying23 HZ1.out (hK _ ?_)
  clear hK K
  simp only [Act.put, List.setIfInBounds_toArray, List.set_cons_zero, List.set_cons_succ]
  refine BigFrame.wpQuiet_want rfl fun K hK => ?_
  refine quiet_load_cells 23 (.tmp 4) rfl (w.heap.size + 1) 0 (bv s) rfl 32 5 HBB2.out Tryd.underlying23 HZ2.out (hK _ ?_)
  clear hK K
  simp only [Act.put, List.setIfInBounds_toArray, List.set_cons_zero, List.set_cons_succ]
  go_big_quiet_step ((intro _; rfl))
  go_big_quiet_step ((intro _; rfl))
  go_big_quiet_step ((intro _; rfl))
  refine wpQuiet_nil ?_
  intro w3 hb3
  have H33 := Lib.hid (H32.out.below hb3)
  clear hb3 H32 HA2 HBB2 HCC2
  have NA3 := Lib.hid (root_cells H33.out.a w3 (Below.refl _ _))
  have NB3 := Lib.hid (root_cells H33.out.b w3 (Below.refl _ _))
  have NC3 := Lib.hid (root_cells H33.out.c w3 (Below.refl _ _))
  go_wp2_with (first
    | ((with_reducible refine wpList_load_wanted ?_ 23 (.tmp 3) ?_ _ 0 (bv r) ?_ 32 5 NA3.out Tryd.underlying23 HZ1.out ?_); rfl; rfl; rfl; simp only [Act.put, List.setIfInBounds_toArray, List.set_cons_zero, List.set_cons_succ])
    | ((with_reducible refine wpList_load_wanted ?_ 23 (.tmp 4) ?_ _ 0 (bv s) ?_ 32 5 NB3.out Tryd.underlying23 HZ2.out ?_); rfl; rfl; rfl; simp only [Act.put, List.setIfInBounds_toArray, List.set_cons_zero, List.set_cons_succ])
    | ((with_reducible refine wpList_load_wanted ?_ 23 (.tmp 5) ?_ _ 0 (bv t) ?_ 32 5 NC3.out Tryd.underlying23 HZ3.out ?_); rfl; rfl; rfl; simp only [Act.put, List.setIfInBounds_toArray, List.set_cons_zero, List.set_cons_succ]))
  refine (less_in (Below.refl w3.heap.size w3) r s HHR.out HHS.out false HL1.out).mono ?_
  rintro e w4 ⟨rfl, hb4⟩
  have H34 := Lib.hid (H33.out.below hb4)
  clear hb4 H33 NA3 NB3 NC3
  go_wp2_with fail
  have HA7 := Lib.hid (root_cells H34.out.a)
  have HBB7 := Lib.hid (root_cells H34.out.b)
  have HCC7 := Lib.hid (root_cells H34.out.c)
  refine wp_region_class (C := fun w' => Below w4.heap.size w4 w') (by kernel_rfl) (by kernel_rfl) (Below.refl _ _).drew ?_
  refine BigFrame.wpQuiet_want rfl fun K hK => ?_
  refine quiet_load_cells 23 (.tmp 3) rfl w.heap.size 0 (bv r) rfl 32 5 HA7.out Tryd.underlying23 HZ1.out (hK _ ?_)
  clear hK K
  simp only [Act.put, List.setIfInBounds_toArray, List.set_cons_zero, List.set_cons_succ]
  refine BigFrame.wpQuiet_want rfl fun K hK => ?_
  refine quiet_load_cells 23 (.tmp 4) rfl (w.heap.size + 1) 0 (bv s) rfl 32 5 HBB7.out Tryd.underlying23 HZ2.out (hK _ ?_)
  clear hK K
  simp only [Act.put, List.setIfInBounds_toArray, List.set_cons_zero, List.set_cons_succ]
  go_big_quiet_step ((intro hw'; exact less_in hw' r s HHR.out HHS.out false HL1.out))
  refine BigFrame.wpQuiet_want rfl fun K hK => ?_
  refine quiet_load_cells 23 (.tmp 3) rfl w.heap.size 0 (bv r) rfl 32 5 HA7.out Tryd.underlying23 HZ1.out (hK _ ?_)
  clear hK K
  simp only [Act.put, List.setIfInBounds_toArray, List.set_cons_zero, List.set_cons_succ]
  go_big_quiet_step ((intro hw'; exact show_in hw' r HHR.out SR HSR.out))
  refine BigFrame.wpQuiet_want rfl fun K hK => ?_
  refine quiet_load_cells 23 (.tmp 4) rfl (w.heap.size + 1) 0 (bv s) rfl 32 5 HBB7.out Tryd.underlying23 HZ2.out (hK _ ?_)
  clear hK K
  simp only [Act.put, List.setIfInBounds_toArray, List.set_cons_zero, List.set_cons_succ]
  go_big_quiet_step ((intro hw'; exact show_in hw' s HHS.out SS HSS.out))
  go_big_quiet_step ((intro _; rfl))
  go_big_quiet_step ((intro _; rfl))
  go_big_quiet_step ((intro _; rfl))
  refine BigFrame.wpQuiet_want rfl fun K hK => ?_
  refine quiet_load_cells 23 (.tmp 3) rfl w.heap.size 0 (bv r) rfl 32 5 HA7.out Tryd.underlying23 HZ1.out (hK _ ?_)
  clear hK K
  simp only [Act.put, List.setIfInBounds_toArray, List.set_cons_zero, List.set_cons_succ]
  go_big_quiet_step ((intro hw'; exact show_in hw' r HHR.out SR HSR.out))
  go_big_quiet_step ((intro _; rfl))
  go_big_quiet_step ((intro _; rfl))
  go_big_quiet_step ((intro _; rfl))
  go_big_quiet_step ((intro _; rfl))
  refine wpQuiet_nil ?_
  intro w8 hb8
  have HB8 := Lib.hid (H34.out.below hb8).hB
  clear hb8
  go_wp2_with fail
  go_ret
  exact ⟨rfl, HB8.out⟩

set_option maxHeartbeats 4000000 in
theorem order_more (w : World) (r s t : List UInt8) (hT : Tabs w) (hr : r.length = 32) (hs : s.length = 32) (ht : t.length = 32) (h1 : lessB r s = false) (h2 : lessB s r = true) (h3 : (r == s) = false) :
    Calls Tryd.prog 5 #[.agg (bv r).toArray, .agg (bv s).toArray, .agg (bv t).toArray] w fun e w' => e = .returned (.bool true) ∧ Below w.heap.size w w' := by
  have h4 : Three w r s t (((w.alloc (.cells (bv r).toArray 23)).alloc (.cells (bv s).toArray 23)).alloc (.cells (bv t).toArray 23)) := by
    have a := ((Blk.new w 23 (bv r).toArray).alloc (.cells (bv s).toArray 23)).alloc (.cells (bv t).toArray 23)
    have b := (Blk.new (w.alloc (.cells (bv r).toArray 23)) 23 (bv s).toArray).alloc (.cells (bv t).toArray 23)
    have c := Blk.new ((w.alloc (.cells (bv r).toArray 23)).alloc (.cells (bv s).toArray 23)) 23 (bv t).toArray
    simp only [World.size_alloc] at b c
    exact ⟨a, b, c, (((Below.refl _ _).alloc (Nat.le_refl _) _).alloc (by simp) _).alloc (by simp; omega) _⟩
  have H3 := Lib.hid h4
  have HT := Lib.hid hT
  have HZ1 := Lib.hid (root_size hr)
  have HZ2 := Lib.hid (root_size hs)
  have HZ3 := Lib.hid (root_size ht)
  have HHR := Lib.hid hr
  have HHS := Lib.hid hs
  have HHT := Lib.hid ht
  have HL1 := Lib.hid h1
  have HL2 := Lib.hid h2
  have heq := fun w' => root_eq w' r s hr hs
  simp only [h3] at heq
  obtain ⟨SR, hSR⟩ : ∃ S : ByteArray, S = ⟨(show_ r).toArray⟩ := ⟨_, rfl⟩
  obtain ⟨SS, hSS⟩ : ∃ S : ByteArray, S = ⟨(show_ s).toArray⟩ := ⟨_, rfl⟩
  have hzr : SR.size = 64 := by rw [hSR]; simp [ByteArray.size, show_length, hr]
  have hlt : Op.bytesLess SR.toList SS.toList = false := by rw [hSR, hSS, ByteArray.toList_eq, ByteArray.toList_eq, ← h1]; exact shown_less r s (by omega)
  have HSR := Lib.hid hSR
  have HSS := Lib.hid hSS
  clear h4 hT hr hs ht h1 h2 h3 hSR hSS
  go_enter Tryd.func5, Tryd.ntmps5
  go_wp2_with fail
  generalize ((w.alloc (.cells (bv r).toArray 23)).alloc (.cells (bv s).toArray 23)).alloc (.cells (bv t).toArray 23) = w1 at H3 ⊢
  refine (alive_any w1 (HT.out.below H3.out.hB HT.out.size)).mono ?_
  rintro e w2 ⟨rfl, hb2⟩
  have H32 := Lib.hid (H3.out.below hb2)
  clear hb2 H3
  have HA2 := Lib.hid (root_cells H32.out.a)
  have HBB2 := Lib.hid (root_cells H32.out.b)
  have HCC2 := Lib.hid (root_cells H32.out.c)
  go_wp2_with fail
  refine wp_region_class (C := fun w' => Below w2.heap.size w2 w') (by kernel_rfl) (by kernel_rfl) (Below.refl _ _).drew ?_
  refine BigFrame.wpQuiet_want rfl fun K hK => ?_
  refine quiet_load_cells 23 (.tmp 3) rfl w.heap.size 0 (bv r) rfl 32 5 HA2.out Tryd.underlying23 HZ1.out (hK _ ?_)
  clear hK K
  simp only [Act.put, List.setIfInBounds_toArray, List.set_cons_zero, List.set_cons_succ]
  refine BigFrame.wpQuiet_want rfl fun K hK => ?_
  refine quiet_load_cells 23 (.tmp 4) rfl (w.heap.size + 1) 0 (bv s) rfl 32 5 HBB2.out Tryd.underlying23 HZ2.out (hK _ ?_)
  clear hK K
  simp only [Act.put, List.setIfInBounds_toArray, List.set_cons_zero, List.set_cons_succ]
  go_big_quiet_step ((intro hw'; exact less_in hw' r s HHR.out HHS.out false HL1.out))
  go_big_quiet_step ((intro _; rfl))
  go_big_quiet_skip
  go_big_quiet_skip
  go_big_quiet_skip
  go_big_quiet_step ((intro _; rfl))
  go_big_quiet_step ((intro _; rfl))
  refine BigFrame.wpQuiet_want rfl fun K hK => ?_
  refine quiet_load_cells 23 (.tmp 3) rfl w.heap.size 0 (bv r) rfl 32 5 HA2.out Tryd.underlying23 HZ1.out (hK _ ?_)
  clear hK K
  simp only [Act.put, List.setIfInBounds_toArray, List.set_cons_zero, List.set_cons_succ]
  refine BigFrame.wpQuiet_want rfl fun K hK => ?_
  refine quiet_load_cells 23 (.tmp 4) rfl (w.heap.size + 1) 0 (bv s) rfl 32 5 HBB2.out Tryd.underlying23 HZ2.out (hK _ ?_)
  clear hK K
  simp only [Act.put, List.setIfInBounds_toArray, List.set_cons_zero, List.set_cons_succ]
  go_big_quiet_step ((intro hw'; exact less_in hw' r s HHR.out HHS.out false HL1.out))
  go_big_quiet_step ((intro _; rfl))
  go_big_quiet_step ((intro _; rfl))
  refine BigFrame.wpQuiet_want rfl fun K hK => ?_
  refine quiet_load_cells 23 (.tmp 4) rfl (w.heap.size + 1) 0 (bv s) rfl 32 5 HBB2.out Tryd.underlying23 HZ2.out (hK _ ?_)
  clear hK K
  simp only [Act.put, List.setIfInBounds_toArray, List.set_cons_zero, List.set_cons_succ]
  refine BigFrame.wpQuiet_want rfl fun K hK => ?_
  refine quiet_load_cells 23 (.tmp 3) rfl w.heap.size 0 (bv r) rfl 32 5 HA2.out Tryd.underlying23 HZ1.out (hK _ ?_)
  clear hK K
  simp only [Act.put, List.setIfInBounds_toArray, List.set_cons_zero, List.set_cons_succ]
  go_big_quiet_step ((intro hw'; exact less_in hw' s r HHS.out HHR.out true HL2.out))
  go_big_quiet_step ((intro _; rfl))
  go_big_quiet_step ((intro _; rfl))
  refine BigFrame.wpQuiet_want rfl fun K hK => ?_
  refine quiet_load_cells 23 (.tmp 3) rfl w.heap.size 0 (bv r) rfl 32 5 HA2.out Tryd.underlying23 HZ1.out (hK _ ?_)
  clear hK K
  simp only [Act.put, List.setIfInBounds_toArray, List.set_cons_zero, List.set_cons_succ]
  refine BigFrame.wpQuiet_want rfl fun K hK => ?_
  refine quiet_load_cells 23 (.tmp 4) rfl (w.heap.size + 1) 0 (bv s) rfl 32 5 HBB2.out Tryd.underlying23 HZ2.out (hK _ ?_)
  clear hK K
  simp only [Act.put, List.setIfInBounds_toArray, List.set_cons_zero, List.set_cons_succ]
  go_big_quiet_step ((intro _; rfl))
  go_big_quiet_step ((intro _; rfl))
  go_big_quiet_step ((intro _; rfl))
  refine wpQuiet_nil ?_
  intro w3 hb3
  have H33 := Lib.hid (H32.out.below hb3)
  clear hb3 H32 HA2 HBB2 HCC2
  have NA3 := Lib.hid (root_cells H33.out.a w3 (Below.refl _ _))
  have NB3 := Lib.hid (root_cells H33.out.b w3 (Below.refl _ _))
  have NC3 := Lib.hid (root_cells H33.out.c w3 (Below.refl _ _))
  go_wp2_with (first
    | ((with_reducible refine wpList_load_wanted ?_ 23 (.tmp 3) ?_ _ 0 (bv r) ?_ 32 5 NA3.out Tryd.underlying23 HZ1.out ?_); rfl; rfl; rfl; simp only [Act.put, List.setIfInBounds_toArray, List.set_cons_zero, List.set_cons_succ])
    | ((with_reducible refine wpList_load_wanted ?_ 23 (.tmp 4) ?_ _ 0 (bv s) ?_ 32 5 NB3.out Tryd.underlying23 HZ2.out ?_); rfl; rfl; rfl; simp only [Act.put, List.setIfInBounds_toArray, List.set_cons_zero, List.set_cons_succ])
    | ((with_reducible refine wpList_load_wanted ?_ 23 (.tmp 5) ?_ _ 0 (bv t) ?_ 32 5 NC3.out Tryd.underlying23 HZ3.out ?_); rfl; rfl; rfl; simp only [Act.put, List.setIfInBounds_toArray, List.set_cons_zero, List.set_cons_succ]))
  refine (less_in (Below.refl w3.heap.size w3) r s HHR.out HHS.out false HL1.out).mono ?_
  rintro e w4 ⟨rfl, hb4⟩
  have H34 := Lib.hid (H33.out.below hb4)
  clear hb4 H33 NA3 NB3 NC3
  go_wp2_with fail
  have HA7 := Lib.hid (root_cells H34.out.a)
  have HBB7 := Lib.hid (root_cells H34.out.b)
  have HCC7 := Lib.hid (root_cells H34.out.c)
  refine wp_region_class (C := fun w' => Below w4.heap.size w4 w') (by kernel_rfl) (by kernel_rfl) (Below.refl _ _).drew ?_
  refine BigFrame.wpQuiet_want rfl fun K hK => ?_
  refine quiet_load_cells 23 (.tmp 3) rfl w.heap.size 0 (bv r) rfl 32 5 HA7.out Tryd.underlying23 HZ1.out (hK _ ?_)
  clear hK K
  simp only [Act.put, List.setIfInBounds_toArray, List.set_cons_zero, List.set_cons_succ]
  refine BigFrame.wpQuiet_want rfl fun K hK => ?_
  refine quiet_load_cells 23 (.tmp 4) rfl (w.heap.size + 1) 0 (bv s) rfl 32 5 HBB7.out Tryd.underlying23 HZ2.out (hK _ ?_)
  clear hK K
  simp only [Act.put, List.setIfInBounds_toArray, List.set_cons_zero, List.set_cons_succ]
  go_big_quiet_step ((intro hw'; exact less_in hw' r s HHR.out HHS.out false HL1.out))
  refine BigFrame.wpQuiet_want rfl fun K hK => ?_
  refine quiet_load_cells 23 (.tmp 3) rfl w.heap.size 0 (bv r) rfl 32 5 HA7.out Tryd.underlying23 HZ1.out (hK _ ?_)
  clear hK K
  simp only [Act.put, List.setIfInBounds_toArray, List.set_cons_zero, List.set_cons_succ]
  go_big_quiet_step ((intro hw'; exact show_in hw' r HHR.out SR HSR.out))
  refine BigFrame.wpQuiet_want rfl fun K hK => ?_
  refine quiet_load_cells 23 (.tmp 4) rfl (w.heap.size + 1) 0 (bv s) rfl 32 5 HBB7.out Tryd.underlying23 HZ2.out (hK _ ?_)
  clear hK K
  simp only [Act.put, List.setIfInBounds_toArray, List.set_cons_zero, List.set_cons_succ]
  go_big_quiet_step ((intro hw'; exact show_in hw' s HHS.out SS HSS.out))
  go_big_quiet_step ((intro _; rfl))
  go_big_quiet_step ((intro _; rfl))
  go_big_quiet_step ((intro _; rfl))
  refine BigFrame.wpQuiet_want rfl fun K hK => ?_
  refine quiet_load_cells 23 (.tmp 3) rfl w.heap.size 0 (bv r) rfl 32 5 HA7.out Tryd.underlying23 HZ1.out (hK _ ?_)
  clear hK K
  simp only [Act.put, List.setIfInBounds_toArray, List.set_cons_zero, List.set_cons_succ]
  go_big_quiet_step ((intro hw'; exact show_in hw' r HHR.out SR HSR.out))
  go_big_quiet_step ((intro _; rfl))
  go_big_quiet_step ((intro _; rfl))
  go_big_quiet_step ((intro _; rfl))
  go_big_quiet_step ((intro _; rfl))
  refine wpQuiet_nil ?_
  intro w8 hb8
  have HB8 := Lib.hid (H34.out.below hb8).hB
  clear hb8
  go_wp2_with fail
  go_ret
  exact ⟨rfl, HB8.out⟩

set_option maxHeartbeats 4000000 in
theorem order_less0 (w : World) (r s t : List UInt8) (hT : Tabs w) (hr : r.length = 32) (hs : s.length = 32) (ht : t.length = 32) (h1 : lessB r s = true) (h2 : lessB s r = false) (h3 : (r == s) = false) (hbc : lessB s t = false) :
    Calls Tryd.prog 5 #[.agg (bv r).toArray, .agg (bv s).toArray, .agg (bv t).toArray] w fun e w' => e = .returned (.bool true) ∧ Below w.heap.size w w' := by
  have h4 : Three w r s t (((w.alloc (.cells (bv r).toArray 23)).alloc (.cells (bv s).toArray 23)).alloc (.cells (bv t).toArray 23)) := by
    have a := ((Blk.new w 23 (bv r).toArray).alloc (.cells (bv s).toArray 23)).alloc (.cells (bv t).toArray 23)
    have b := (Blk.new (w.alloc (.cells (bv r).toArray 23)) 23 (bv s).toArray).alloc (.cells (bv t).toArray 23)
    have c := Blk.new ((w.alloc (.cells (bv r).toArray 23)).alloc (.cells (bv s).toArray 23)) 23 (bv t).toArray
    simp only [World.size_alloc] at b c
    exact ⟨a, b, c, (((Below.refl _ _).alloc (Nat.le_refl _) _).alloc (by simp) _).alloc (by simp; omega) _⟩
  have H3 := Lib.hid h4
  have HT := Lib.hid hT
  have HZ1 := Lib.hid (root_size hr)
  have HZ2 := Lib.hid (root_size hs)
  have HZ3 := Lib.hid (root_size ht)
  have HHR := Lib.hid hr
  have HHS := Lib.hid hs
  have HHT := Lib.hid ht
  have HL1 := Lib.hid h1
  have HL2 := Lib.hid h2
  have HLB := Lib.hid hbc
  have heq := fun w' => root_eq w' r s hr hs
  simp only [h3] at heq
  obtain ⟨SR, hSR⟩ : ∃ S : ByteArray, S = ⟨(show_ r).toArray⟩ := ⟨_, rfl⟩
  obtain ⟨SS, hSS⟩ : ∃ S : ByteArray, S = ⟨(show_ s).toArray⟩ := ⟨_, rfl⟩
  have hzr : SR.size = 64 := by rw [hSR]; simp [ByteArray.size, show_length, hr]
  have hlt : Op.bytesLess SR.toList SS.toList = true := by rw [hSR, hSS, ByteArray.toList_eq, ByteArray.toList_eq, ← h1]; exact shown_less r s (by omega)
  have HSR := Lib.hid hSR
  have HSS := Lib.hid hSS
  clear h4 hT hr hs ht h1 h2 h3 hSR hSS hbc
  go_enter Tryd.func5, Tryd.ntmps5
  go_wp2_with fail
  generalize ((w.alloc (.cells (bv r).toArray 23)).alloc (.cells (bv s).toArray 23)).alloc (.cells (bv t).toArray 23) = w1 at H3 ⊢
  refine (alive_any w1 (HT.out.below H3.out.hB HT.out.size)).mono ?_
  rintro e w2 ⟨rfl, hb2⟩
  have H32 := Lib.hid (H3.out.below hb2)
  clear hb2 H3
  have HA2 := Lib.hid (root_cells H32.out.a)
  have HBB2 := Lib.hid (root_cells H32.out.b)
  have HCC2 := Lib.hid (root_cells H32.out.c)
  go_wp2_with fail
  refine wp_region_class (C := fun w' => Below w2.heap.size w2 w') (by kernel_rfl) (by kernel_rfl) (Below.refl _ _).drew ?_
  refine BigFrame.wpQuiet_want rfl fun K hK => ?_
  refine quiet_load_cells 23 (.tmp 3) rfl w.heap.size 0 (bv r) rfl 32 5 HA2.out Tryd.underlying23 HZ1.out (hK _ ?_)
  clear hK K
  simp only [Act.put, List.setIfInBounds_toArray, List.set_cons_zero, List.set_cons_succ]
  refine BigFrame.wpQuiet_want rfl fun K hK => ?_
  refine quiet_load_cells 23 (.tmp 4) rfl (w.heap.size + 1) 0 (bv s) rfl 32 5 HBB2.out Tryd.underlying23 HZ2.out (hK _ ?_)
  clear hK K
  simp only [Act.put, List.setIfInBounds_toArray, List.set_cons_zero, List.set_cons_succ]
  go_big_quiet_step ((intro hw'; exact less_in hw' r s HHR.out HHS.out true HL1.out))
  go_big_quiet_step ((intro _; rfl))
  refine BigFrame.wpQuiet_want rfl fun K hK => ?_
  refine quiet_load_cells 23 (.tmp 4) rfl (w.heap.size + 1) 0 (bv s) rfl 32 5 HBB2.out Tryd.underlying23 HZ2.out (hK _ ?_)
  clear hK K
  simp only [Act.put, List.setIfInBounds_toArray, List.set_cons_zero, List.set_cons_succ]
  refine BigFrame.wpQuiet_want rfl fun K hK => ?_
  refine quiet_load_cells 23 (.tmp 3) rfl w.heap.size 0 (bv r) rfl 32 5 HA2.out Tryd.underlying23 HZ1.out (hK _ ?_)
  clear hK K
  simp only [Act.put, List.setIfInBounds_toArray, List.set_cons_zero, List.set_cons_succ]
  go_big_quiet_step ((intro hw'; exact less_in hw' s r HHS.out HHR.out false HL2.out))
  go_big_quiet_step ((intro _; rfl))
  go_big_quiet_step ((intro _; rfl))
  refine BigFrame.wpQuiet_want rfl fun K hK => ?_
  refine quiet_load_cells 23 (.tmp 3) rfl w.heap.size 0 (bv r) rfl 32 5 HA2.out Tryd.underlying23 HZ1.out (hK _ ?_)
  clear hK K
  simp only [Act.put, List.setIfInBounds_toArray, List.set_cons_zero, List.set_cons_succ]
  refine BigFrame.wpQuiet_want rfl fun K hK => ?_
  refine quiet_load_cells 23 (.tmp 4) rfl (w.heap.size + 1) 0 (bv s) rfl 32 5 HBB2.out Tryd.underlying23 HZ2.out (hK _ ?_)
  clear hK K
  simp only [Act.put, List.setIfInBounds_toArray, List.set_cons_zero, List.set_cons_succ]
  go_big_quiet_step ((intro hw'; exact less_in hw' r s HHR.out HHS.out true HL1.out))
  go_big_quiet_step ((intro _; rfl))
  go_big_quiet_step ((intro _; rfl))
  go_big_quiet_skip
  go_big_quiet_skip
  go_big_quiet_skip
  go_big_quiet_skip
  go_big_quiet_step ((intro _; rfl))
  refine BigFrame.wpQuiet_want rfl fun K hK => ?_
  refine quiet_load_cells 23 (.tmp 3) rfl w.heap.size 0 (bv r) rfl 32 5 HA2.out Tryd.underlying23 HZ1.out (hK _ ?_)
  clear hK K
  simp only [Act.put, List.setIfInBounds_toArray, List.set_cons_zero, List.set_cons_succ]
  refine BigFrame.wpQuiet_want rfl fun K hK => ?_
  refine quiet_load_cells 23 (.tmp 4) rfl (w.heap.size + 1) 0 (bv s) rfl 32 5 HBB2.out Tryd.underlying23 HZ2.out (hK _ ?_)
  clear hK K
  simp only [Act.put, List.setIfInBounds_toArray, List.set_cons_zero, List.set_cons_succ]
  go_big_quiet_step ((intro _; rfl))
  go_big_quiet_step ((intro _; rfl))
  go_big_quiet_step ((intro _; rfl))
  refine wpQuiet_nil ?_
  intro w3 hb3
  have H33 := Lib.hid (H32.out.below hb3)
  clear hb3 H32 HA2 HBB2 HCC2
  have NA3 := Lib.hid (root_cells H33.out.a w3 (Below.refl _ _))
  have NB3 := Lib.hid (root_cells H33.out.b w3 (Below.refl _ _))
  have NC3 := Lib.hid (root_cells H33.out.c w3 (Below.refl _ _))
  go_wp2_with (first
    | ((with_reducible refine wpList_load_wanted ?_ 23 (.tmp 3) ?_ _ 0 (bv r) ?_ 32 5 NA3.out Tryd.underlying23 HZ1.out ?_); rfl; rfl; rfl; simp only [Act.put, List.setIfInBounds_toArray, List.set_cons_zero, List.set_cons_succ])
    | ((with_reducible refine wpList_load_wanted ?_ 23 (.tmp 4) ?_ _ 0 (bv s) ?_ 32 5 NB3.out Tryd.underlying23 HZ2.out ?_); rfl; rfl; rfl; simp only [Act.put, List.setIfInBounds_toArray, List.set_cons_zero, List.set_cons_succ])
    | ((with_reducible refine wpList_load_wanted ?_ 23 (.tmp 5) ?_ _ 0 (bv t) ?_ 32 5 NC3.out Tryd.underlying23 HZ3.out ?_); rfl; rfl; rfl; simp only [Act.put, List.setIfInBounds_toArray, List.set_cons_zero, List.set_cons_succ]))
  refine (less_in (Below.refl w3.heap.size w3) r s HHR.out HHS.out true HL1.out).mono ?_
  rintro e w4 ⟨rfl, hb4⟩
  have H34 := Lib.hid (H33.out.below hb4)
  clear hb4 H33 NA3 NB3 NC3
  have NA4 := Lib.hid (root_cells H34.out.a w4 (Below.refl _ _))
  have NB4 := Lib.hid (root_cells H34.out.b w4 (Below.refl _ _))
  have NC4 := Lib.hid (root_cells H34.out.c w4 (Below.refl _ _))
  go_wp2_with (first
    | ((with_reducible refine wpList_load_wanted ?_ 23 (.tmp 3) ?_ _ 0 (bv r) ?_ 32 5 NA4.out Tryd.underlying23 HZ1.out ?_); rfl; rfl; rfl; simp only [Act.put, List.setIfInBounds_toArray, List.set_cons_zero, List.set_cons_succ])
    | ((with_reducible refine wpList_load_wanted ?_ 23 (.tmp 4) ?_ _ 0 (bv s) ?_ 32 5 NB4.out Tryd.underlying23 HZ2.out ?_); rfl; rfl; rfl; simp only [Act.put, List.setIfInBounds_toArray, List.set_cons_zero, List.set_cons_succ])
    | ((with_reducible refine wpList_load_wanted ?_ 23 (.tmp 5) ?_ _ 0 (bv t) ?_ 32 5 NC4.out Tryd.underlying23 HZ3.out ?_); rfl; rfl; rfl; simp only [Act.put, List.setIfInBounds_toArray, List.set_cons_zero, List.set_cons_succ]))
  refine (less_in (Below.refl w4.heap.size w4) s t HHS.out HHT.out false HLB.out).mono ?_
  rintro e w5 ⟨rfl, hb5⟩
  have H35 := Lib.hid (H34.out.below hb5)
  clear hb5 H34 NA4 NB4 NC4
  go_wp2_with fail
  have HA7 := Lib.hid (root_cells H35.out.a)
  have HBB7 := Lib.hid (root_cells H35.out.b)
  have HCC7 := Lib.hid (root_cells H35.out.c)
  refine wp_region_class (C := fun w' => Below w5.heap.size w5 w') (by kernel_rfl) (by kernel_rfl) (Below.refl _ _).drew ?_
  refine BigFrame.wpQuiet_want rfl fun K hK => ?_
  refine quiet_load_cells 23 (.tmp 3) rfl w.heap.size 0 (bv r) rfl 32 5 HA7.out Tryd.underlying23 HZ1.out (hK _ ?_)
  clear hK K
  simp only [Act.put, List.setIfInBounds_toArray, List.set_cons_zero, List.set_cons_succ]
  refine BigFrame.wpQuiet_want rfl fun K hK => ?_
  refine quiet_load_cells 23 (.tmp 4) rfl (w.heap.size + 1) 0 (bv s) rfl 32 5 HBB7.out Tryd.underlying23 HZ2.out (hK _ ?_)
  clear hK K
  simp only [Act.put, List.setIfInBounds_toArray, List.set_cons_zero, List.set_cons_succ]
  go_big_quiet_step ((intro hw'; exact less_in hw' r s HHR.out HHS.out true HL1.out))
  refine BigFrame.wpQuiet_want rfl fun K hK => ?_
  refine quiet_load_cells 23 (.tmp 3) rfl w.heap.size 0 (bv r) rfl 32 5 HA7.out Tryd.underlying23 HZ1.out (hK _ ?_)
  clear hK K
  simp only [Act.put, List.setIfInBounds_toArray, List.set_cons_zero, List.set_cons_succ]
  go_big_quiet_step ((intro hw'; exact show_in hw' r HHR.out SR HSR.out))
  refine BigFrame.wpQuiet_want rfl fun K hK => ?_
  refine quiet_load_cells 23 (.tmp 4) rfl (w.heap.size + 1) 0 (bv s) rfl 32 5 HBB7.out Tryd.underlying23 HZ2.out (hK _ ?_)
  clear hK K
  simp only [Act.put, List.setIfInBounds_toArray, List.set_cons_zero, List.set_cons_succ]
  go_big_quiet_step ((intro hw'; exact show_in hw' s HHS.out SS HSS.out))
  go_big_quiet_step ((intro _; rfl))
  go_big_quiet_step ((intro _; rfl))
  go_big_quiet_step ((intro _; rfl))
  refine BigFrame.wpQuiet_want rfl fun K hK => ?_
  refine quiet_load_cells 23 (.tmp 3) rfl w.heap.size 0 (bv r) rfl 32 5 HA7.out Tryd.underlying23 HZ1.out (hK _ ?_)
  clear hK K
  simp only [Act.put, List.setIfInBounds_toArray, List.set_cons_zero, List.set_cons_succ]
  go_big_quiet_step ((intro hw'; exact show_in hw' r HHR.out SR HSR.out))
  go_big_quiet_step ((intro _; rfl))
  go_big_quiet_step ((intro _; rfl))
  go_big_quiet_step ((intro _; rfl))
  go_big_quiet_step ((intro _; rfl))
  refine wpQuiet_nil ?_
  intro w8 hb8
  have HB8 := Lib.hid (H35.out.below hb8).hB
  clear hb8
  go_wp2_with fail
  go_ret
  exact ⟨rfl, HB8.out⟩

set_option maxHeartbeats 4000000 in
theorem order_less1 (w : World) (r s t : List UInt8) (hT : Tabs w) (hr : r.length = 32) (hs : s.length = 32) (ht : t.length = 32) (h1 : lessB r s = true) (h2 : lessB s r = false) (h3 : (r == s) = false) (hbc : lessB s t = true) (hac : lessB r t = true) :
    Calls Tryd.prog 5 #[.agg (bv r).toArray, .agg (bv s).toArray, .agg (bv t).toArray] w fun e w' => e = .returned (.bool true) ∧ Below w.heap.size w w' := by
  have h4 : Three w r s t (((w.alloc (.cells (bv r).toArray 23)).alloc (.cells (bv s).toArray 23)).alloc (.cells (bv t).toArray 23)) := by
    have a := ((Blk.new w 23 (bv r).toArray).alloc (.cells (bv s).toArray 23)).alloc (.cells (bv t).toArray 23)
    have b := (Blk.new (w.alloc (.cells (bv r).toArray 23)) 23 (bv s).toArray).alloc (.cells (bv t).toArray 23)
    have c := Blk.new ((w.alloc (.cells (bv r).toArray 23)).alloc (.cells (bv s).toArray 23)) 23 (bv t).toArray
    simp only [World.size_alloc] at b c
    exact ⟨a, b, c, (((Below.refl _ _).alloc (Nat.le_refl _) _).alloc (by simp) _).alloc (by simp; omega) _⟩
  have H3 := Lib.hid h4
  have HT := Lib.hid hT
  have HZ1 := Lib.hid (root_size hr)
  have HZ2 := Lib.hid (root_size hs)
  have HZ3 := Lib.hid (root_size ht)
  have HHR := Lib.hid hr
  have HHS := Lib.hid hs
  have HHT := Lib.hid ht
  have HL1 := Lib.hid h1
  have HL2 := Lib.hid h2
  have HLB := Lib.hid hbc
  have HLC := Lib.hid hac
  have heq := fun w' => root_eq w' r s hr hs
  simp only [h3] at heq
  obtain ⟨SR, hSR⟩ : ∃ S : ByteArray, S = ⟨(show_ r).toArray⟩ := ⟨_, rfl⟩
  obtain ⟨SS, hSS⟩ : ∃ S : ByteArray, S = ⟨(show_ s).toArray⟩ := ⟨_, rfl⟩
  have hzr : SR.size = 64 := by rw [hSR]; simp [ByteArray.size, show_length, hr]
  have hlt : Op.bytesLess SR.toList SS.toList = true := by rw [hSR, hSS, ByteArray.toList_eq, ByteArray.toList_eq, ← h1]; exact shown_less r s (by omega)
  have HSR := Lib.hid hSR
  have HSS := Lib.hid hSS
  clear h4 hT hr hs ht h1 h2 h3 hSR hSS hbc hac
  go_enter Tryd.func5, Tryd.ntmps5
  go_wp2_with fail
  generalize ((w.alloc (.cells (bv r).toArray 23)).alloc (.cells (bv s).toArray 23)).alloc (.cells (bv t).toArray 23) = w1 at H3 ⊢
  refine (alive_any w1 (HT.out.below H3.out.hB HT.out.size)).mono ?_
  rintro e w2 ⟨rfl, hb2⟩
  have H32 := Lib.hid (H3.out.below hb2)
  clear hb2 H3
  have HA2 := Lib.hid (root_cells H32.out.a)
  have HBB2 := Lib.hid (root_cells H32.out.b)
  have HCC2 := Lib.hid (root_cells H32.out.c)
  go_wp2_with fail
  refine wp_region_class (C := fun w' => Below w2.heap.size w2 w') (by kernel_rfl) (by kernel_rfl) (Below.refl _ _).drew ?_
  refine BigFrame.wpQuiet_want rfl fun K hK => ?_
  refine quiet_load_cells 23 (.tmp 3) rfl w.heap.size 0 (bv r) rfl 32 5 HA2.out Tryd.underlying23 HZ1.out (hK _ ?_)
  clear hK K
  simp only [Act.put, List.setIfInBounds_toArray, List.set_cons_zero, List.set_cons_succ]
  refine BigFrame.wpQuiet_want rfl fun K hK => ?_
  refine quiet_load_cells 23 (.tmp 4) rfl (w.heap.size + 1) 0 (bv s) rfl 32 5 HBB2.out Tryd.underlying23 HZ2.out (hK _ ?_)
  clear hK K
  simp only [Act.put, List.setIfInBounds_toArray, List.set_cons_zero, List.set_cons_succ]
  go_big_quiet_step ((intro hw'; exact less_in hw' r s HHR.out HHS.out true HL1.out))
  go_big_quiet_step ((intro _; rfl))
  refine BigFrame.wpQuiet_want rfl fun K hK => ?_
  refine quiet_load_cells 23 (.tmp 4) rfl (w.heap.size + 1) 0 (bv s) rfl 32 5 HBB2.out Tryd.underlying23 HZ2.out (hK _ ?_)
  clear hK K
  simp only [Act.put, List.setIfInBounds_toArray, List.set_cons_zero, List.set_cons_succ]
  refine BigFrame.wpQuiet_want rfl fun K hK => ?_
  refine quiet_load_cells 23 (.tmp 3) rfl w.heap.size 0 (bv r) rfl 32 5 HA2.out Tryd.underlying23 HZ1.out (hK _ ?_)
  clear hK K
  simp only [Act.put, List.setIfInBounds_toArray, List.set_cons_zero, List.set_cons_succ]
  go_big_quiet_step ((intro hw'; exact less_in hw' s r HHS.out HHR.out false HL2.out))
  go_big_quiet_step ((intro _; rfl))
  go_big_quiet_step ((intro _; rfl))
  refine BigFrame.wpQuiet_want rfl fun K hK => ?_
  refine quiet_load_cells 23 (.tmp 3) rfl w.heap.size 0 (bv r) rfl 32 5 HA2.out Tryd.underlying23 HZ1.out (hK _ ?_)
  clear hK K
  simp only [Act.put, List.setIfInBounds_toArray, List.set_cons_zero, List.set_cons_succ]
  refine BigFrame.wpQuiet_want rfl fun K hK => ?_
  refine quiet_load_cells 23 (.tmp 4) rfl (w.heap.size + 1) 0 (bv s) rfl 32 5 HBB2.out Tryd.underlying23 HZ2.out (hK _ ?_)
  clear hK K
  simp only [Act.put, List.setIfInBounds_toArray, List.set_cons_zero, List.set_cons_succ]
  go_big_quiet_step ((intro hw'; exact less_in hw' r s HHR.out HHS.out true HL1.out))
  go_big_quiet_step ((intro _; rfl))
  go_big_quiet_step ((intro _; rfl))
  go_big_quiet_skip
  go_big_quiet_skip
  go_big_quiet_skip
  go_big_quiet_skip
  go_big_quiet_step ((intro _; rfl))
  refine BigFrame.wpQuiet_want rfl fun K hK => ?_
  refine quiet_load_cells 23 (.tmp 3) rfl w.heap.size 0 (bv r) rfl 32 5 HA2.out Tryd.underlying23 HZ1.out (hK _ ?_)
  clear hK K
  simp only [Act.put, List.setIfInBounds_toArray, List.set_cons_zero, List.set_cons_succ]
  refine BigFrame.wpQuiet_want rfl fun K hK => ?_
  refine quiet_load_cells 23 (.tmp 4) rfl (w.heap.size + 1) 0 (bv s) rfl 32 5 HBB2.out Tryd.underlying23 HZ2.out (hK _ ?_)
  clear hK K
  simp only [Act.put, List.setIfInBounds_toArray, List.set_cons_zero, List.set_cons_succ]
  go_big_quiet_step ((intro _; rfl))
  go_big_quiet_step ((intro _; rfl))
  go_big_quiet_step ((intro _; rfl))
  refine wpQuiet_nil ?_
  intro w3 hb3
  have H33 := Lib.hid (H32.out.below hb3)
  clear hb3 H32 HA2 HBB2 HCC2
  have NA3 := Lib.hid (root_cells H33.out.a w3 (Below.refl _ _))
  have NB3 := Lib.hid (root_cells H33.out.b w3 (Below.refl _ _))
  have NC3 := Lib.hid (root_cells H33.out.c w3 (Below.refl _ _))
  go_wp2_with (first
    | ((with_reducible refine wpList_load_wanted ?_ 23 (.tmp 3) ?_ _ 0 (bv r) ?_ 32 5 NA3.out Tryd.underlying23 HZ1.out ?_); rfl; rfl; rfl; simp only [Act.put, List.setIfInBounds_toArray, List.set_cons_zero, List.set_cons_succ])
    | ((with_reducible refine wpList_load_wanted ?_ 23 (.tmp 4) ?_ _ 0 (bv s) ?_ 32 5 NB3.out Tryd.underlying23 HZ2.out ?_); rfl; rfl; rfl; simp only [Act.put, List.setIfInBounds_toArray, List.set_cons_zero, List.set_cons_succ])
    | ((with_reducible refine wpList_load_wanted ?_ 23 (.tmp 5) ?_ _ 0 (bv t) ?_ 32 5 NC3.out Tryd.underlying23 HZ3.out ?_); rfl; rfl; rfl; simp only [Act.put, List.setIfInBounds_toArray, List.set_cons_zero, List.set_cons_succ]))
  refine (less_in (Below.refl w3.heap.size w3) r s HHR.out HHS.out true HL1.out).mono ?_
  rintro e w4 ⟨rfl, hb4⟩
  have H34 := Lib.hid (H33.out.below hb4)
  clear hb4 H33 NA3 NB3 NC3
  have NA4 := Lib.hid (root_cells H34.out.a w4 (Below.refl _ _))
  have NB4 := Lib.hid (root_cells H34.out.b w4 (Below.refl _ _))
  have NC4 := Lib.hid (root_cells H34.out.c w4 (Below.refl _ _))
  go_wp2_with (first
    | ((with_reducible refine wpList_load_wanted ?_ 23 (.tmp 3) ?_ _ 0 (bv r) ?_ 32 5 NA4.out Tryd.underlying23 HZ1.out ?_); rfl; rfl; rfl; simp only [Act.put, List.setIfInBounds_toArray, List.set_cons_zero, List.set_cons_succ])
    | ((with_reducible refine wpList_load_wanted ?_ 23 (.tmp 4) ?_ _ 0 (bv s) ?_ 32 5 NB4.out Tryd.underlying23 HZ2.out ?_); rfl; rfl; rfl; simp only [Act.put, List.setIfInBounds_toArray, List.set_cons_zero, List.set_cons_succ])
    | ((with_reducible refine wpList_load_wanted ?_ 23 (.tmp 5) ?_ _ 0 (bv t) ?_ 32 5 NC4.out Tryd.underlying23 HZ3.out ?_); rfl; rfl; rfl; simp only [Act.put, List.setIfInBounds_toArray, List.set_cons_zero, List.set_cons_succ]))
  refine (less_in (Below.refl w4.heap.size w4) s t HHS.out HHT.out true HLB.out).mono ?_
  rintro e w5 ⟨rfl, hb5⟩
  have H35 := Lib.hid (H34.out.below hb5)
  clear hb5 H34 NA4 NB4 NC4
  have NA5 := Lib.hid (root_cells H35.out.a w5 (Below.refl _ _))
  have NB5 := Lib.hid (root_cells H35.out.b w5 (Below.refl _ _))
  have NC5 := Lib.hid (root_cells H35.out.c w5 (Below.refl _ _))
  go_wp2_with (first
    | ((with_reducible refine wpList_load_wanted ?_ 23 (.tmp 3) ?_ _ 0 (bv r) ?_ 32 5 NA5.out Tryd.underlying23 HZ1.out ?_); rfl; rfl; rfl; simp only [Act.put, List.setIfInBounds_toArray, List.set_cons_zero, List.set_cons_succ])
    | ((with_reducible refine wpList_load_wanted ?_ 23 (.tmp 4) ?_ _ 0 (bv s) ?_ 32 5 NB5.out Tryd.underlying23 HZ2.out ?_); rfl; rfl; rfl; simp only [Act.put, List.setIfInBounds_toArray, List.set_cons_zero, List.set_cons_succ])
    | ((with_reducible refine wpList_load_wanted ?_ 23 (.tmp 5) ?_ _ 0 (bv t) ?_ 32 5 NC5.out Tryd.underlying23 HZ3.out ?_); rfl; rfl; rfl; simp only [Act.put, List.setIfInBounds_toArray, List.set_cons_zero, List.set_cons_succ]))
  refine (less_in (Below.refl w5.heap.size w5) r t HHR.out HHT.out true HLC.out).mono ?_
  rintro e w6 ⟨rfl, hb6⟩
  have H36 := Lib.hid (H35.out.below hb6)
  clear hb6 H35 NA5 NB5 NC5
  go_wp2_with fail
  have HA7 := Lib.hid (root_cells H36.out.a)
  have HBB7 := Lib.hid (root_cells H36.out.b)
  have HCC7 := Lib.hid (root_cells H36.out.c)
  refine wp_region_class (C := fun w' => Below w6.heap.size w6 w') (by kernel_rfl) (by kernel_rfl) (Below.refl _ _).drew ?_
  refine BigFrame.wpQuiet_want rfl fun K hK => ?_
  refine quiet_load_cells 23 (.tmp 3) rfl w.heap.size 0 (bv r) rfl 32 5 HA7.out Tryd.underlying23 HZ1.out (hK _ ?_)
  clear hK K
  simp only [Act.put, List.setIfInBounds_toArray, List.set_cons_zero, List.set_cons_succ]
  refine BigFrame.wpQuiet_want rfl fun K hK => ?_
  refine quiet_load_cells 23 (.tmp 4) rfl (w.heap.size + 1) 0 (bv s) rfl 32 5 HBB7.out Tryd.underlying23 HZ2.out (hK _ ?_)
  clear hK K
  simp only [Act.put, List.setIfInBounds_toArray, List.set_cons_zero, List.set_cons_succ]
  go_big_quiet_step ((intro hw'; exact less_in hw' r s HHR.out HHS.out true HL1.out))
  refine BigFrame.wpQuiet_want rfl fun K hK => ?_
  refine quiet_load_cells 23 (.tmp 3) rfl w.heap.size 0 (bv r) rfl 32 5 HA7.out Tryd.underlying23 HZ1.out (hK _ ?_)
  clear hK K
  simp only [Act.put, List.setIfInBounds_toArray, List.set_cons_zero, List.set_cons_succ]
  go_big_quiet_step ((intro hw'; exact show_in hw' r HHR.out SR HSR.out))
  refine BigFrame.wpQuiet_want rfl fun K hK => ?_
  refine quiet_load_cells 23 (.tmp 4) rfl (w.heap.size + 1) 0 (bv s) rfl 32 5 HBB7.out Tryd.underlying23 HZ2.out (hK _ ?_)
  clear hK K
  simp only [Act.put, List.setIfInBounds_toArray, List.set_cons_zero, List.set_cons_succ]
  go_big_quiet_step ((intro hw'; exact show_in hw' s HHS.out SS HSS.out))
  go_big_quiet_step ((intro _; rfl))
  go_big_quiet_step ((intro _; rfl))
  go_big_quiet_step ((intro _; rfl))
  refine BigFrame.wpQuiet_want rfl fun K hK => ?_
  refine quiet_load_cells 23 (.tmp 3) rfl w.heap.size 0 (bv r) rfl 32 5 HA7.out Tryd.underlying23 HZ1.out (hK _ ?_)
  clear hK K
  simp only [Act.put, List.setIfInBounds_toArray, List.set_cons_zero, List.set_cons_succ]
  go_big_quiet_step ((intro hw'; exact show_in hw' r HHR.out SR HSR.out))
  go_big_quiet_step ((intro _; rfl))
  go_big_quiet_step ((intro _; rfl))
  go_big_quiet_step ((intro _; rfl))
  go_big_quiet_step ((intro _; rfl))
  refine wpQuiet_nil ?_
  intro w8 hb8
  have HB8 := Lib.hid (H36.out.below hb8).hB
  clear hb8
  go_wp2_with fail
  go_ret
  exact ⟨rfl, HB8.out⟩

theorem order_all (w : World) (r s t : List UInt8) (hT : Tabs w) (hr : r.length = 32) (hs : s.length = 32) (ht : t.length = 32) :
    Calls Tryd.prog 5 #[.agg (bv r).toArray, .agg (bv s).toArray, .agg (bv t).toArray] w fun e w' => e = .returned (.bool true) ∧ Below w.heap.size w w' := by
  by_cases h : r = s
  · subst h
    exact order_same w r r t hT hr hs ht (less_self r) (less_self r) (by simp)
  · have hne : (r == s) = false := by simpa using h
    rcases less_tri r s (by omega) h with ⟨h1, h2⟩ | ⟨h1, h2⟩
    · cases hbc : lessB s t with
      | false => exact order_less0 w r s t hT hr hs ht h1 h2 hne hbc
      | true => exact order_less1 w r s t hT hr hs ht h1 h2 hne hbc (less_trans r s t (by omega) (by omega) h1 hbc)
    · exact order_more w r s t hT hr hs ht h1 h2 hne
end Go.Proofs.YtbjofbkncpedmaaDoor
