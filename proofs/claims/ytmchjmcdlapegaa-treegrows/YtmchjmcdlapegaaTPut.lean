/-
  The program's put (a block laid behind all others), New and Add.
-/
import Derived.Test.YtmchjmcdlapegaaTre
import Derived.Test.YtmchjmcdlapegaaWideKeep
import Derived.Test.YtmchjmcdlapegaaQTail
namespace Go.Proofs.Ytmchjmcdlapegaa
open Go.RowKit
set_option maxRecDepth 10000

/-- What the store of the new slice leaves. -/
theorem TreM.stored {w w' : World} {F : List Nat} {b m : Nat} {v v' : Value} {t tm : List Nd} {most : Int} {n : Nd} (h : TreM w F b m v t tm most) (hk : Kept (ownL v) w w') (hw : Wide 34 w' 0 v' (nv t ++ ndv n)) (hl : n.1.length = 32)
    (ho : v'.ownBlock = v.ownBlock ∨ ∃ j, v'.ownBlock = some j ∧ w.heap.size ≤ j) :
    TreM (w'.setCell ⟨b, 0, none⟩ v') (ownL v' ++ F) b m v' (t ++ [n]) tm most ∧ Kept F w (w'.setCell ⟨b, 0, none⟩ v') ∧ NewF w F (ownL v' ++ F) := by
  have hF : ∀ x ∈ ownL v, x ∈ F := fun x hx => h.inv x (mem_ownL.1 hx)
  have hbv : b ∉ ownL v := fun hx => h.vb (mem_ownL.1 hx)
  have hmv : m ∉ ownL v := fun hx => h.vm (mem_ownL.1 hx)
  have hbl := h.low b h.inb
  have hml := h.low m h.inm
  have hb' : v'.ownBlock ≠ some b := fun e => by
    rcases ho with h1 | ⟨j, h1, h2⟩
    · exact h.vb (h1.symm.trans e)
    · rw [h1] at e; cases e; omega
  have hm' : v'.ownBlock ≠ some m := fun e => by
    rcases ho with h1 | ⟨j, h1, h2⟩
    · exact h.vm (h1.symm.trans e)
    · rw [h1] at e; cases e; omega
  have hk2 : Kept [b] w' (w'.setCell ⟨b, 0, none⟩ v') := (Kept.refl _ _).setCell _ _ (.inl (by simp))
  have hk1 : Kept F w w' := hk.mono hF
  have hnew : NewF w F (ownL v' ++ F) := fun x hx => by
    rcases List.mem_append.1 hx with hx | hx
    · rcases ho with h1 | ⟨j, h1, h2⟩
      · exact .inl (h.inv x (h1 ▸ mem_ownL.1 hx))
      · rw [mem_ownL, h1] at hx; cases hx; exact .inr h2
    · exact .inl hx
  have hx0 : 0 < (nv t ++ ndv n).length := by rw [List.length_append, ndv_length hl]; omega
  obtain ⟨D, hD, hS⟩ := h.map
  refine ⟨⟨fun x hx => ?_, ((h.blk.kept hk hbv).set 0 v'), ?_, ⟨D, ?_, hS⟩, hb', hm', h.bm, List.mem_append_right _ h.inb, List.mem_append_right _ h.inm, fun j hj => List.mem_append_left _ (mem_ownL.2 hj), fun x hx => ?_⟩,
    hk1.setCell _ _ (.inl h.inb), hnew⟩
  · rcases List.mem_append.1 hx with hx | hx
    · exact h.nds x hx
    · simp at hx; rw [hx]; exact hl
  · rw [nv_append, nv_sole]
    exact hw.kept hk2 (fun j hj hx => by simp at hx; subst hx; exact hb' hj)
  · have hkk : Kept [b] w (w'.setCell ⟨b, 0, none⟩ v') → True := fun _ => trivial
    obtain ⟨es, clock, hb, Fi, hs, hDD⟩ := hD
    exact ⟨es, clock, (hk2.block m (Nat.lt_of_lt_of_le hml hk.size) (by simp; exact fun e => h.bm e.symm)).trans ((hk.block m hml hmv).trans hb), Fi, hs, hDD⟩
  · rcases List.mem_append.1 hx with hx | hx
    · have := hw.ownLt hx0 x (mem_ownL.1 hx)
      simp [World.setCell]; exact this
    · have := h.low x hx
      have := hk.size
      simp [World.setCell]; omega

theorem TreM.mapped {w w' : World} {F : List Nat} {b m : Nat} {v : Value} {t : List Nd} {most : Int} {n : Nd} (h : TreR w F b m v t most) {D : DataW Unit} (hD : w'.ownsMap Try.prog 23 (plainElem Try.prog 3) m (t.length + 1) D) (hS : Says D (t ++ [n])) (hg : w.grownBy w' (some m)) :
    TreM w' F b m v t (t ++ [n]) most := by
  have hk : Kept [m] w w' := Kept.of_grown _ hg (fun k hk => by cases hk; simp)
  exact ⟨h.nds, h.blk.kept hk (by simp; exact h.bm), h.wide.kept hk (fun j hj hx => by simp at hx; subst hx; exact h.vm hj), ⟨D, by simpa using hD, hS⟩, h.vb, h.vm, h.bm, h.inb, h.inm, h.inv, h.low.keep hk.size⟩

set_option maxHeartbeats 4000000 in
theorem put_any (w : World) (F : List Nat) (b m : Nat) (v : Value) (t : List Nd) (most : Int) (n : Nd) (h : TreR w F b m v t most) (hn : n.1 ∉ rs t) (hl : n.1.length = 32) (ht : t.length ≤ 1000) :
    Calls Try.prog 27 #[.pointer (some ⟨b, 0, none⟩), .agg (ndv n).toArray] w fun e w' => e = .returned (.tuple #[]) ∧ ∃ F' v', TreR w' F' b m v' (t ++ [n]) most ∧ Kept F w w' ∧ NewF w F F' := by
  obtain ⟨i0, hi0, hz0, hz1, hz2⟩ := info_parts Try.infoNode
  have hzc : (Value.agg (ndv nd0).toArray).cells.size = 34 := by simp [Value.cells, ndv_length, nd0, zero32]
  have hb1 : Below w.heap.size w (w.alloc (.cells (ndv n).toArray 51)) := (Below.refl _ w).alloc (Nat.le_refl _) _
  have hx := Blk.new w 51 (ndv n).toArray
  obtain ⟨X, hX⟩ : ∃ X, X = w.heap.size := ⟨_, rfl⟩
  rw [List.toList_toArray, ← hX] at hx
  have HX := Lib.hid hx
  have H1 := Lib.hid (h.below hb1)
  have HB := Lib.hid hb1
  have HXe := Lib.hid hX
  have HLow := Lib.hid h.low
  have HN := Lib.hid hn
  have HL := Lib.hid hl
  clear h hx hn
  go_enter Try.func27, Try.ntmps27
  go_upto_region 1 with fail
  rw [← HXe.out]
  generalize w.alloc (.cells (ndv n).toArray 51) = w1 at H1 HX HB ⊢
  clear hX hb1
  obtain ⟨ao, n0, cap, bb, off, e0, hn0, hl0⟩ := H1.out.wide.lies
  subst e0
  rw [nv_length t H1.out.nds] at hn0
  obtain rfl : t.length = n0 := by omega
  have c0 := H1.out.blk.cell 0
  have c1 := H1.out.blk.cell 1
  have HLD := Lib.hid (show ∀ w', (∃ nq, w' = w1.drewN nq) → ∀ j v, (bv n.1)[j]? = some v → w'.cell? ⟨X, 0 + j, none⟩ = some v by
    rintro w' ⟨nq, rfl⟩
    exact (HX.out.drewN nq).nodeName)
  refine wp_region_draws_tail 11 (by kernel_rfl) (by kernel_rfl) ?_
  simp only [List.take_succ_cons, List.take_zero, List.drop_succ_cons, List.drop_zero]
  repeat (first | ((with_reducible refine wpQuiet_load_name (.tmp 8) ?_ ?_ X 0 n.1 ?_ hl HLD.out ?_); rfl; rfl; rfl; simp only [Act.put, List.setIfInBounds_toArray, List.set_cons_zero, List.set_cons_succ]) | go_big_quiet_step (fail))
  refine wpQuiet_nil ?_
  rintro _ ⟨nq, rfl⟩
  have H2 := Lib.hid (H1.out.below (below_dN (Below.refl _ _) nq))
  have HB2 := Lib.hid (below_dN HB.out nq)
  have HX2 := Lib.hid (HX.out.drewN nq)
  generalize w1.drewN nq = w2 at H2 HB2 HX2 ⊢
  clear c0 c1 HLD H1 HB HX hl0
  obtain ⟨D, hD, hS⟩ := H2.out.map
  have HD := Lib.hid hD
  have HS := Lib.hid hS
  clear hD hS
  refine wpList_mapUpdate_own _ rfl _ _ _ 60 rfl 23 3 Try.keyed Try.underlying60 _ m t.length D rfl HD.out (by unfold maxLen; omega) (.agg (bv n.1).toArray) (.int .i64 (t.length : Int)) _ rfl rfl (key_root hl) (.lit (.int .i64 (t.length : Int))) [] (plainElem_int Try.underlying3 (by simp [Lit.wf, IntKind.min, IntKind.max, IntKind.bits, IntKind.signed]; omega)) ?_
  intro w3 hown3 hg3
  have H3 := Lib.hid (TreM.mapped H2.out hown3 (HS.out.snoc HD.out.isMap HN.out hl) hg3)
  have HK3 := Lib.hid ((Kept.of_below F HB2.out).trans (Kept.of_grown F hg3 (fun k hk => by cases hk; exact H2.out.inm)) (NewF.refl _ _))
  have HX3 := Lib.hid (show Blk w3 X 51 (ndv n) from (hg3.block X HX2.out.lt (fun e => by
    have h1 := HLow.out m H2.out.inm
    have h2 := HXe.out
    cases e; omega)).trans HX2.out)
  clear hown3 hg3 H2 HB2 HX2 HD HS
  go_upto_region 2 with fail
  have HBLK := Lib.hid H3.out.blk
  have HCE := Lib.hid (show [Value.slice ao t.length cap, .map (some m), .int .i64 most][0]? = some (.slice ao t.length cap) from rfl)
  have HWD := Lib.hid H3.out.wide
  have HNB := Lib.hid (show b ∉ ownL (.slice ao t.length cap) from fun hx => H3.out.vb (mem_ownL.1 hx))
  have HXO := Lib.hid (show X ∉ ownL (.slice ao t.length cap) from fun hx => by
    have h1 := HLow.out X (H3.out.inv X (mem_ownL.1 hx))
    have h2 := HXe.out
    omega)
  refine wp_region_freeK (P := Try.prog) 10 (fun w' => Kept (ownL (.slice ao t.length cap)) w3 w' ∧ Wide 34 w' 0 (.slice ao t.length cap) (nv t)) (fun oq v w' => match oq with
      | 0 => v = .pointer (some ⟨b, 0, none⟩)
      | 1 => v = .pointer (some ⟨b, 0, none⟩)
      | 2 => v = .pointer (some ⟨b, 0, none⟩)
      | 3 => v = .pointer (some ⟨b, 0, none⟩)
      | 4 => v = .slice ao t.length cap
      | 5 => v = .agg (ndv n).toArray
      | 6 => ∃ g, v = .slice (some ⟨g, 0, none⟩) 1 1 ∧ Lies w' w'.heap.size (some ⟨g, 0, none⟩) g 0 (ndv n)
      | 7 => Wide 34 w' 0 v (nv t ++ ndv n) ∧ (v.ownBlock = Value.ownBlock (.slice ao t.length cap) ∨ ∃ j, v.ownBlock = some j ∧ w3.heap.size ≤ j)
      | 8 => v = .pointer (some ⟨b, 0, none⟩)
      | 9 => v = .pointer (some ⟨b, 0, none⟩)
      | _ => True) (fun hh oq => match oq with
      | 6 => hh 7
      | _ => false) [] (by kernel_rfl) (by kernel_rfl) (by kernel_rfl) ⟨(Kept.refl _ _).drew, HWD.out.below (Below.refl _ _).drew⟩ ?gb ?vb ?db ?steps ?fin
  case gb => exact fun a b h1 h2 => ⟨h1.1.then h2, h1.2.below h2⟩
  case vb =>
    intro oq v a b h hb
    match oq with
    | 0 => exact h
    | 1 => exact h
    | 2 => exact h
    | 3 => exact h
    | 4 => exact h
    | 5 => exact h
    | 6 => (obtain ⟨g, h1, h2⟩ := h; exact ⟨g, h1, h2.below hb⟩)
    | 7 => exact ⟨h.1.below hb, h.2⟩
    | 8 => exact h
    | 9 => exact h
    | _ + 10 => trivial
  case db =>
    intro hh i oq h
    split at h
    · exact turnOn_of h
    · cases h
  case steps =>
    intro vals
    simp only [List.take_succ_cons, List.take_zero, freeStepsK, Act.put, List.setIfInBounds_toArray, List.set_cons_zero, List.set_cons_succ, Nat.reduceAdd]
    refine ⟨fun hh w8 hi hK hG hW hV => ?_, fun hh w8 hi hK hG hW hV => ?_, fun hh w8 hi hK hG hW hV => ?_, fun hh w8 hi hK hG hW hV => ?_, fun hh w8 hi hK hG hW hV => ?_, fun hh w8 hi hK hG hW hV => ?_, fun hh w8 hi hK hG hW hV => ?_, fun hh w8 hi hK hG hW hV => ?_, fun hh w8 hi hK hG hW hV => ?_, fun hh w8 hi hK hG hW hV => ?_, trivial⟩
    · clear hW hV hK hi
      refine stepAt_value rfl rfl rfl (.pointer (some ⟨b, 0, none⟩)) w8 ?_ ⟨rfl, .inl (Below.refl _ _)⟩
      go_simp
    · clear hW hV hK hi
      refine stepAt_value rfl rfl rfl (.pointer (some ⟨b, 0, none⟩)) w8 ?_ ⟨rfl, .inl (Below.refl _ _)⟩
      go_simp
    · have q1 := hV 1 (hW 1 (by decide)) rfl
      simp only at q1
      rw [q1]
      clear hW hV hK hi
      refine stepAt_value rfl rfl rfl (.pointer (some ⟨b, 0, none⟩)) w8 ?_ ⟨rfl, .inl (Below.refl _ _)⟩
      go_simp
    · have q2 := hV 2 (hW 2 (by decide)) rfl
      simp only at q2
      rw [q2]
      clear hW hV hK hi
      refine stepAt_value rfl rfl rfl (.pointer (some ⟨b, 0, none⟩)) w8 ?_ ⟨rfl, .inl (Below.refl _ _)⟩
      go_simp
    · have q3 := hV 3 (hW 3 (by decide)) rfl
      simp only at q3
      rw [q3]
      clear hW hV hK hi
      have c := ((HBLK.out.kept hG.1 HNB.out).cell 0).trans HCE.out
      refine stepAt_value rfl rfl rfl (.slice ao t.length cap) w8 ?_ ⟨rfl, .inl (Below.refl _ _)⟩
      go_simp
    · clear hW hV hK hi
      refine stepAt_load_run rfl rfl rfl _ _ rfl _ _ rfl (run_load_node HL.out (HX3.out.kept hG.1 HXO.out).nodeAll) ⟨rfl, .inl (Below.refl _ _)⟩
    · have q5 := hV 5 (hW 5 (by decide)) rfl
      simp only at q5
      rw [q5]
      clear hW hV hK hi
      refine stepAt_build_rows rfl rfl rfl 59 51 1 _ rfl i0 (.agg (ndv nd0).toArray) (s := 34) (by omega) [ndv n] (fun rr hrr => by simp at hrr; rw [hrr]; exact (ndv_length HL.out)) Try.underlying59 hi0 hz0 hz1 rfl (by omega) (by omega) rfl ⟨⟨w8.heap.size, rfl, ?_⟩, .inl ((Below.refl _ _).alloc (Nat.le_refl _) _)⟩
      rw [show ([ndv n] : List (List Value)).flatten = ndv n by simp]
      exact ⟨fun _ => rfl, fun _ => by simp, fun j u hj => by rw [Nat.zero_add]; exact ((Blk.new w8 51 (ndv n).toArray).cell j).trans hj⟩
    · have q4 := hV 4 (hW 4 (by decide)) rfl
      simp only at q4
      obtain ⟨g, q6, hl6⟩ := hV 6 (hW 6 (by decide)) hi
      rw [q4, q6]
      refine stepAt_append_wide2 rfl rfl rfl _ _ 59 59 rfl rfl hG.2 (by omega) 51 i0 (.agg (ndv nd0).toArray) 48 Try.underlying59 hi0 hz0 hz1 hz2 hzc _ rfl 1 (ndv n) (hl6.src 1 59 51 Try.underlying59 ((ndv_length HL.out)) (ndv_one n) (by omega)) ?_ ?_ (Nat.zero_le _) fun v' w' h1 h2 h3 => ⟨⟨h1, ?_⟩, .inr ⟨⟨hG.1.trans (Kept.of_grown _ h2.grown (fun j hj => mem_ownL.2 hj)) (NewF.refl _ _), h3⟩, fun j hj hd => ?_⟩⟩
      · rw [nv_length t H3.out.nds]; unfold maxLen; omega
      · rw [nv_length t H3.out.nds]; omega
      · rcases h2.own with h | ⟨j, h, hj⟩
        · exact .inl h
        · exact .inr ⟨j, h, Nat.le_trans hG.1.size hj⟩
      · match j, hj, hd with
        | 0, hj, _ => exact hV 0 hj rfl
        | 1, hj, _ => exact hV 1 hj rfl
        | 2, hj, _ => exact hV 2 hj rfl
        | 3, hj, _ => exact hV 3 hj rfl
        | 4, hj, _ => exact hV 4 hj rfl
        | 5, hj, _ => exact hV 5 hj rfl
        | 6, _, hd => simp only [turnOn_self] at hd; cases hd
        | 7, hj, _ => rw [hi] at hj; cases hj
        | 8, hj, _ => exact hV 8 hj rfl
        | 9, hj, _ => exact hV 9 hj rfl
        | _ + 10, _, _ => trivial
    · have q0 := hV 0 (hW 0 (by decide)) rfl
      simp only at q0
      rw [q0]
      clear hW hV hK hi
      refine stepAt_value rfl rfl rfl (.pointer (some ⟨b, 0, none⟩)) w8 ?_ ⟨rfl, .inl (Below.refl _ _)⟩
      go_simp
    · have q8 := hV 8 (hW 8 (by decide)) rfl
      simp only at q8
      rw [q8]
      clear hW hV hK hi
      refine stepAt_value rfl rfl rfl (.pointer (some ⟨b, 0, none⟩)) w8 ?_ ⟨rfl, .inl (Below.refl _ _)⟩
      go_simp
  case fin =>
    intro hh vals w10 hall hG hV
    have q7 := hV 7 (hall 7 (by omega)) rfl
    have q9 := hV 9 (hall 9 (by omega)) rfl
    simp only at q7 q9
    simp only [List.take_succ_cons, List.take_zero, List.drop_succ_cons, List.drop_zero, putAll, Act.put, List.setIfInBounds_toArray, List.set_cons_zero, List.set_cons_succ, Nat.reduceAdd]
    rw [q9]
    have HG := Lib.hid hG.1
    have HW7 := Lib.hid q7.1
    have HO7 := Lib.hid q7.2
    clear hV q7 q9 hG hall
    generalize vals 0 = x0
    generalize vals 1 = x1
    generalize vals 2 = x2
    generalize vals 3 = x3
    generalize vals 4 = x4
    generalize vals 5 = x5
    generalize vals 6 = x6
    generalize vals 8 = x8
    obtain ⟨v7, hv7⟩ : ∃ v7, vals 7 = v7 := ⟨_, rfl⟩
    rw [hv7] at HW7 HO7 ⊢
    clear hv7
    obtain ⟨ao7, n7, cap7, b7, off7, e7, _, _⟩ := HW7.out.lies
    subst e7
    have c9 := (HBLK.out.kept HG.out HNB.out).cell 0
    have f9 := (HBLK.out.kept HG.out HNB.out).free 0
    go_wp2_with fail
    go_end0
    obtain ⟨r1, r2, r3⟩ := H3.out.stored HG.out HW7.out HL.out HO7.out
    exact ⟨rfl, _, ⟨_, r1⟩, HK3.out.trans r2 (NewF.refl _ _), fun x hx => (r3 x hx).imp id (Nat.le_trans HK3.out.size)⟩
end Go.Proofs.Ytmchjmcdlapegaa
