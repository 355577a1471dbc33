/-
  What Show answers.
-/
import Derived.Test.YtbjofbkncpedmaaDoorOf
namespace Go.Proofs.YtbjofbkncpedmaaDoor
open Go.RowKit
set_option linter.unusedSimpArgs false

theorem Tryd.info5 : (Tryd.prog.info? 5).map (fun i => (i.zero, i.size, i.bytes)) = some (some (.int .u8 0), 1, 1) := by kernel_rfl

theorem held_made (w : World) (m : Nat) (e : TypeId) (hm : m ≤ maxLen) : Held (w.alloc (.cells (madeCells (Value.int .u8 0).cells m) e)) w.heap.size (.slice (some ⟨w.heap.size, 0, none⟩) 0 m) [] := by
  have hs : (madeCells (Value.int .u8 0).cells m).size = m := size_madeCells _ _
  refine ⟨0, m, w.heap.size, 0, _, rfl, rfl, Nat.zero_le _, hm, fun _ => rfl, fun a ha => by cases ha; exact Nat.le_refl _, fun _ => by simp, fun j u hj => by simp at hj, fun j hj => ?_, fun j hj => ?_⟩
  · rw [Nat.zero_add, World.cell?_alloc_mark, Array.getElem?_eq_getElem (by omega)]; rfl
  · rw [Nat.zero_add]
    simp [World.frozen?_alloc_mark w (madeCells (Value.int .u8 0).cells m) e 0 0 j]

/-- Two cells that were just built, as append's source. -/
theorem src_two {P : Program} (w : World) (e t : TypeId) (ht : P.underlying t = some (.slice e)) (u v : Value) (h1 : u.oneCell' = true) (h2 : v.oneCell' = true) : Src P 1 t (.slice (some ⟨w.heap.size, 0, none⟩) 2 2) 2 [u, v] (w.alloc (.cells #[u, v] e)) := by
  refine Src.ofSlice _ ht _ 2 2 _ rfl ?_ ?_
  · intro i x hi
    match i, hi with
    | 0, hi => simp at hi; subst hi; simp [Addr.add]
    | 1, hi => simp at hi; subst hi; simp [Addr.add]
  · intro x hx
    simp at hx
    rcases hx with rfl | rfl
    · exact h1
    · exact h2

def digits : ByteArray := ⟨#[48, 49, 50, 51, 52, 53, 54, 55, 56, 57, 97, 98, 99, 100, 101, 102]⟩

theorem digit_at (w : World) (x : Nat) (hx : x < 16) : (Instr.index 9 (.string digits) (.int .u8 (x : Int))).run Tryd.prog w = .ok (.int .u8 ((hexd x).toNat : Int)) w := by
  rw [run_index_string w 9 digits .u8 (x : Int) Tryd.underlying9]
  have hd : (0 : Int) ≤ (x : Int) ∧ (x : Int) < (digits.size : Int) := ⟨by omega, by show (x : Int) < 16; omega⟩
  rw [dif_pos hd]
  have h : ∀ y : Nat, (hy : y < 16) → (digits[y]'hy).toNat = (hexd y).toNat := by decide +kernel
  have hx' := h x hx
  simp only [Int.toNat_natCast]
  rw [← hx']
  rfl

theorem and15 (b : Nat) (hb : b < 256) : bits .and .u8 (b : Int) 15 = ((b % 16 : Nat) : Int) := by
  have h : ∀ b : Nat, b < 256 → bits .and .u8 (b : Int) 15 = ((b % 16 : Nat) : Int) := by decide +kernel
  exact h b hb

structure ShowIn (w : World) (r : List UInt8) (i : Nat) (v : Value) (wr : World) : Prop where
  held : Held wr (w.heap.size + 1) v (bv (show_ (r.take i)))
  hB : Below w.heap.size w wr
  hs : w.heap.size + 1 ≤ wr.heap.size

def ShowRel (w : World) (r : List UInt8) (v x : Value) (wr : World) : Prop := ∃ i : Nat, x = .int .i64 (i : Int) ∧ i ≤ 32 ∧ ShowIn w r i v wr

theorem show_length (l : List UInt8) : (show_ l).length = 2 * l.length := by
  induction l with
  | nil => rfl
  | cons a t ih => rw [show_, List.flatMap_cons, List.length_append, ← show_, ih]; simp; omega

theorem show_snoc (r : List UInt8) (i : Nat) (b : UInt8) (hi : r[i]? = some b) : bv (show_ (r.take (i + 1))) = bv (show_ (r.take i)) ++ [.int .u8 ((hexd (b.toNat / 16)).toNat : Int), .int .u8 ((hexd (b.toNat % 16)).toNat : Int)] := by
  rw [List.take_add_one, hi]
  simp [show_, bv]

theorem show_round {w w2 w1 : World} {r : List UInt8} {i : Nat} {b : UInt8} {u0 v1 : Value} {o : Obj} (hlt : i < 32) (hb : r[i]? = some b) (hS : ShowIn w r i u0 w2)
    (hh1 : Held w1 (w.heap.size + 1) v1 (bv (show_ (r.take i)) ++ [.int .u8 ((hexd (b.toNat / 16)).toNat : Int), .int .u8 ((hexd (b.toNat % 16)).toNat : Int)])) (hg1 : Grew (w2.alloc o) u0 w1 v1) : ShowRel w r v1 (.int .i64 ((i : Int) + 1)) w1 := by
  have hs := hS.hs
  have hbel : Below (w.heap.size + 1) w2 w1 := ((Below.refl _ _).alloc hs o).trans (hg1.below (hS.held.alloc o) (by simp; omega))
  exact ⟨i + 1, by simp, by omega, by rw [show_snoc r i b hb]; exact hh1, hS.hB.trans (hbel.mono (by omega)), Nat.le_trans hs hbel.size⟩

set_option maxHeartbeats 4000000 in
theorem show_any (w : World) (r : List UInt8) (hr : r.length = 32) :
    Calls Tryd.prog 13 #[.agg (bv r).toArray] w fun e w' => e = .returned (.string ⟨(show_ r).toArray⟩) ∧ Below w.heap.size w w' := by
  obtain ⟨i0, hi0, hz0, hz1, hz2⟩ := info_parts Tryd.info5
  have hmk := fun W => run_makeSlice (P := Tryd.prog) W 44 5 i0 (.int .u8 0) Tryd.underlying44 hi0 hz0 .i64 .i64 0 64 (by omega) (by omega) (by rw [hz1]; decide) (by rw [hz2]; decide) (by omega)
  simp only [hz1, Nat.mul_one, show (0 : Int).toNat = 0 from rfl, show (64 : Int).toNat = 64 from rfl] at hmk
  have HRL := Lib.hid hr
  have HSZ := Lib.hid (show (Tryd.prog.info? 23).map (·.size) = some (bv r).length by rw [bv_length, hr]; exact Tryd.size23)
  have HC := Lib.hid (((Blk.new w 23 (bv r).toArray).alloc (.cells (madeCells (Value.int .u8 0).cells 64) 5)).cells)
  have hst : ShowIn w r 0 (.slice (some ⟨w.heap.size + 1, 0, none⟩) 0 64) ((w.alloc (.cells (bv r).toArray 23)).alloc (.cells (madeCells (Value.int .u8 0).cells 64) 5)) := by
    have h1 := held_made (w.alloc (.cells (bv r).toArray 23)) 64 5 (by decide)
    simp only [World.size_alloc] at h1
    exact ⟨h1, ((Below.refl _ _).alloc (Nat.le_refl _) _).alloc (by simp) _, by simp⟩
  have HST := Lib.hid hst
  clear hr hst
  go_enter Tryd.func13, Tryd.ntmps13
  go_wp2_with ((with_reducible refine wpList_load_cells ?_ 23 (.tmp 1) ?_ w.heap.size 0 (bv r) ?_ 32 5 ?_ Tryd.underlying23 HSZ.out ?_); rfl; rfl; rfl; exact HC.out)
  clear hmk HC
  go_loopw [3, 8] (fun v x wr => ShowRel w r v x wr) (fun _ x _ => 32 - intN x)
  case atStart => exact ⟨0, rfl, by omega, HST.out⟩
  case round =>
    clear HST HSZ
    obtain ⟨i, rfl, hi, hR⟩ := hrel
    by_cases hlt : i < 32
    · have d0 : (i : Int) < 32 := by omega
      obtain ⟨b, hb⟩ : ∃ b, r[i]? = some b := ⟨_, List.getElem?_eq_getElem (by rw [HRL.out]; exact hlt)⟩
      have hb8 := b.toNat_lt
      have hix : ∀ w', (Instr.index 23 (.agg (bv r).toArray) (.int .i64 (i : Int))).run Tryd.prog w' = .ok (.int .u8 (b.toNat : Int)) w' := fun w' =>
        run_index_agg w' 23 5 32 .u8 _ i _ Tryd.underlying23 Tryd.size5 Tryd.underlying5 hlt (by rw [List.getElem?_toArray]; simp [bv, hb])
      obtain ⟨x1, hx1⟩ : ∃ x, x = b.toNat / 16 := ⟨_, rfl⟩
      obtain ⟨x2, hx2⟩ : ∃ x, x = b.toNat % 16 := ⟨_, rfl⟩
      have e1 : (b.toNat : Int) / 16 = (x1 : Int) := by omega
      have e2 : bits .and .u8 (b.toNat : Int) 15 = (x2 : Int) := by rw [hx2]; exact and15 _ hb8
      obtain ⟨y1, hy1⟩ : ∃ y, y = (hexd x1).toNat := ⟨_, rfl⟩
      obtain ⟨y2, hy2⟩ : ∃ y, y = (hexd x2).toNat := ⟨_, rfl⟩
      have i1 : ∀ w', (Instr.index 9 (.string ⟨#[48, 49, 50, 51, 52, 53, 54, 55, 56, 57, 97, 98, 99, 100, 101, 102]⟩) (.int .u8 (x1 : Int))).run Tryd.prog w' = .ok (.int .u8 (y1 : Int)) w' := fun w' => by rw [hy1]; exact digit_at w' x1 (by omega)
      have i2 : ∀ w', (Instr.index 9 (.string ⟨#[48, 49, 50, 51, 52, 53, 54, 55, 56, 57, 97, 98, 99, 100, 101, 102]⟩) (.int .u8 (x2 : Int))).run Tryd.prog w' = .ok (.int .u8 (y2 : Int)) w' := fun w' => by rw [hy2]; exact digit_at w' x2 (by omega)
      have hbl : (bv (show_ (r.take i))).length ≤ 64 := by rw [bv_length, show_length, List.length_take]; omega
      have HX := Lib.hid hb
      have HY1 := Lib.hid (show y1 = (hexd (b.toNat / 16)).toNat by rw [hy1, hx1])
      have HY2 := Lib.hid (show y2 = (hexd (b.toNat % 16)).toNat by rw [hy2, hx2])
      have HR := Lib.hid hR
      clear hR hb hx1 hx2 hy1 hy2 hb8
      go_wp2_with fail
      refine wp_region_any (by kernel_rfl) ?_
      try (change wpAny _ _ _ _ _ _ _ (World.drew _))
      have hS2 : ShowIn w r i u3 wr.drew := ⟨HR.out.held.drew, HR.out.hB.drew, HR.out.hs⟩
      generalize wr.drew = w2 at hS2 ⊢
      have HS2 := Lib.hid hS2
      clear hS2 HR
      refine wpAny_take (i := 0) (v := ?_) rfl (by kernel_rfl) (by kernel_rfl) (by kernel_rfl) (fun _ _ _ h => h) (Or.inl ⟨by rfl, ?_⟩) ?_
      rotate_left
      · intro w
        go_simp
        try with_reducible rfl
      simp only [Act.put, List.getElem_toArray, List.getElem_cons_succ, List.getElem_cons_zero, List.setIfInBounds_toArray, List.set_cons_zero, List.set_cons_succ]
      refine wpAny_take (i := 1) (v := ?_) rfl (by kernel_rfl) (by kernel_rfl) (by kernel_rfl) (fun _ _ _ h => h) (Or.inl ⟨by rfl, ?_⟩) ?_
      rotate_left
      · intro w
        go_simp
        try with_reducible rfl
      simp only [Act.put, List.getElem_toArray, List.getElem_cons_succ, List.getElem_cons_zero, List.setIfInBounds_toArray, List.set_cons_zero, List.set_cons_succ]
      refine wpAny_take (i := 2) (v := ?_) rfl (by kernel_rfl) (by kernel_rfl) (by kernel_rfl) (fun _ _ _ h => h) (Or.inl ⟨by rfl, ?_⟩) ?_
      rotate_left
      · intro w
        go_simp
        try with_reducible rfl
      simp only [Act.put, List.getElem_toArray, List.getElem_cons_succ, List.getElem_cons_zero, List.setIfInBounds_toArray, List.set_cons_zero, List.set_cons_succ]
      refine wpAny_take (i := 3) (v := ?_) rfl (by kernel_rfl) (by kernel_rfl) (by kernel_rfl) (fun _ _ _ h => h) (Or.inl ⟨by rfl, ?_⟩) ?_
      rotate_left
      · intro w
        go_simp
        try with_reducible rfl
      simp only [Act.put, List.getElem_toArray, List.getElem_cons_succ, List.getElem_cons_zero, List.setIfInBounds_toArray, List.set_cons_zero, List.set_cons_succ]
      refine wpAny_take (i := 4) (v := ?_) rfl (by kernel_rfl) (by kernel_rfl) (by kernel_rfl) (fun _ _ _ h => h) (Or.inl ⟨by rfl, ?_⟩) ?_
      rotate_left
      · intro w
        go_simp
        try with_reducible rfl
      simp only [Act.put, List.getElem_toArray, List.getElem_cons_succ, List.getElem_cons_zero, List.setIfInBounds_toArray, List.set_cons_zero, List.set_cons_succ]
      refine wpAny_take (i := 5) (v := ?_) rfl (by kernel_rfl) (by kernel_rfl) (by kernel_rfl) (fun _ _ _ h => h) (Or.inl ⟨by rfl, ?_⟩) ?_
      rotate_left
      · intro w
        go_simp
        try with_reducible rfl
      simp only [Act.put, List.getElem_toArray, List.getElem_cons_succ, List.getElem_cons_zero, List.setIfInBounds_toArray, List.set_cons_zero, List.set_cons_succ]
      refine wpAny_take (i := 6) (v := ?_) rfl (by kernel_rfl) (by kernel_rfl) (by kernel_rfl) (fun _ _ _ h => h) (Or.inl ⟨by rfl, ?_⟩) ?_
      rotate_left
      · intro w
        go_simp
        try with_reducible rfl
      simp only [Act.put, List.getElem_toArray, List.getElem_cons_succ, List.getElem_cons_zero, List.setIfInBounds_toArray, List.set_cons_zero, List.set_cons_succ]
      refine wpAny_ready (rs := [7]) (by kernel_rfl) (by simp) ?_
      refine AllReady.cons rfl (fun K hK => ?_) ?_
      · go_simp
        refine hK _ _ ?_
        clear hK K
        try simp only [Act.put, List.getElem_toArray, List.getElem_cons_succ, List.getElem_cons_zero, List.setIfInBounds_toArray, List.set_cons_zero, List.set_cons_succ]
        refine wpAny_ready (rs := [8]) (by kernel_rfl) (by simp) ?_
        refine AllReady.cons rfl (fun K hK => ?_) AllReady.nil
        refine step_append_held rfl (.tmp 11) (.tmp 18) 44 44 rfl rfl (HS2.out.held.alloc _) 5 i0 (.int .u8 0) 1 Tryd.underlying44 hi0 hz0 hz1 hz2 rfl _ rfl 2 [.int .u8 (y1 : Int), .int .u8 (y2 : Int)] (src_two _ 5 44 Tryd.underlying44 _ _ rfl rfl) (by unfold maxLen; omega) (by omega) (by simp; have := HS2.out.hs; omega) ?_
        intro v1 w1 hh1 hg1
        refine hK _ _ ?_
        clear hK K
        simp only [Act.put, List.getElem_toArray, List.getElem_cons_succ, List.getElem_cons_zero, List.setIfInBounds_toArray, List.set_cons_zero, List.set_cons_succ]
        refine wpAny_take (i := 9) (v := ?_) rfl (by kernel_rfl) (by kernel_rfl) (by kernel_rfl) (fun _ _ _ h => h) (Or.inl ⟨by rfl, ?_⟩) ?_
        rotate_left
        · intro w
          go_simp
          try with_reducible rfl
        simp only [Act.put, List.getElem_toArray, List.getElem_cons_succ, List.getElem_cons_zero, List.setIfInBounds_toArray, List.set_cons_zero, List.set_cons_succ]
        refine wpAny_done (by kernel_rfl) ?_ _
        go_wp2_with fail
        rw [HY1.out, HY2.out] at hh1
        refine ⟨show_round hlt HX.out HS2.out hh1 hg1, ?_⟩
        simp only [intN]
        omega
      exact AllReady.nil
    · obtain rfl : i = 32 := by omega
      have hh := hR.held
      rw [List.take_of_length_le (by rw [HRL.out]; exact Nat.le_refl _)] at hh
      have hcv := hh.string (P := Tryd.prog) 44 9 5 Tryd.underlying44 Tryd.underlying5 Tryd.underlying9
      have HB := Lib.hid hR.hB
      clear hR hh
      go_wp2_with fail
      go_ret
      exact ⟨rfl, HB.out⟩
end Go.Proofs.YtbjofbkncpedmaaDoor
