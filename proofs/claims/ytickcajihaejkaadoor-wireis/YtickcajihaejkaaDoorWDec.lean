/-
  What wire.Decode answers.
-/
import Derived.Test.YtickcajihaejkaaDoorDecMem
import Derived.Test.YtickcajihaejkaaDoorWGood
import Derived.Deep.DeepCutAuto
import Derived.IntWalk
namespace Go.Proofs.YtickcajihaejkaaDoor
open Go.RowKit
set_option maxRecDepth 10000
set_option linter.unusedSimpArgs false

def DecPost (w : World) (s : ByteArray) (e : Ending) (w' : World) : Prop := ∃ (o : Option Msg) (sl : Value), e = .returned (.tuple #[.agg (mc (o.getD zeroMsg) sl).toArray, .bool o.isSome]) ∧ Reads s.data.toList o ∧ BRow w' w'.heap.size sl (o.getD zeroMsg).l ∧ Below w.heap.size w w'

theorem left_size (s : ByteArray) (n : Int) (hs : s.size ≤ 900) : (rdLeft s n).size ≤ 900 := by
  unfold rdLeft
  split
  · simp; omega
  · simp

theorem ds_uint {w0 w : World} {A b g : Nat} {M : Msg} {sl : Value} {s : ByteArray} {sh : Bool} (h : DS w0 w A b g M sl) (hr : Rd w b s sh) (hs : s.size ≤ 900) (n : Nat) (hn : n ≤ 8) :
    Calls Tryd.prog 25 #[.pointer (some ⟨b, 0, none⟩), .int .i64 (n : Int)] w fun e w' => e = .returned (.int .u64 (leN (rdOut s n).data.toList)) ∧ Hid (DS w0 w' A b g M sl) ∧ Hid (Rd w' b (rdLeft s n) (rdShort s sh n)) :=
  (uint_loop w b s sh n hr (by unfold maxLen; omega) (by omega)).mono fun _ _ ⟨h1, h2, h3⟩ => ⟨h1, Lib.hid (h.read h3), Lib.hid h2⟩
theorem ds_bytes {w0 w : World} {A b g : Nat} {M : Msg} {sl : Value} {s : ByteArray} {sh : Bool} (h : DS w0 w A b g M sl) (hr : Rd w b s sh) (hs : s.size ≤ 900) (n : Int) :
    Calls Tryd.prog 26 #[.pointer (some ⟨b, 0, none⟩), .int .i64 n] w fun e w' => e = .returned (.string (rdOut s n)) ∧ Hid (DS w0 w' A b g M sl) ∧ Hid (Rd w' b (rdLeft s n) (rdShort s sh n)) :=
  (rbytes_any w b s sh n hr (by unfold maxLen; omega)).mono fun _ _ ⟨h1, h2, h3⟩ => ⟨h1, Lib.hid (h.read h3), Lib.hid h2⟩

theorem out_size (s : ByteArray) (n : Int) (hs : s.size ≤ 900) : (rdOut s n).size ≤ 1000 := by
  unfold rdOut
  split
  · simp; omega
  · simp

/-- The message is begun. -/
theorem ds_start {w w1 w2 w3 : World} {A b : Nat} {k s : Int} (hz : Blk w1 A 29 (mc zeroMsg (.slice none 0 0))) (hb : Below A w w1) (hA : A = w.heap.size) (hAb : A < b) (hbl : b < w3.heap.size) (g2 : w1.grownBy w2 (some b)) (g3 : w2.grownBy w3 (some b)) :
    DS w ((w3.alloc (.cells zcells 29)).setRow w3.heap.size (mc (startMsg k s) (.slice none 0 0)).toArray) A b w3.heap.size (startMsg k s) (.slice none 0 0) := by
  have hg := grown_trans g2 g3
  have hz3 : Blk w3 A 29 (mc zeroMsg (.slice none 0 0)) := (hg.block A hz.lt fun e => by cases e; omega).trans hz
  have hb3 : Below w.heap.size w w3 := by
    subst hA
    exact hb.trans (below_of_grown hg (Nat.le_of_lt hz.lt) (Nat.le_of_lt hAb))
  have h0 : DS w (w3.alloc (.cells zcells 29)) A b w3.heap.size zeroMsg (.slice none 0 0) := by
    refine ⟨hz3.alloc _, ?_, BRowN.nil _ _ _ _, hb3.alloc hb3.size _, by omega, by omega, hb3.size, by omega, by have := hz3.lt; omega, by omega, zeroMsg_fits⟩
    have := Blk.new w3 29 zcells
    rw [zcells_eq] at this
    rw [zcells_eq]
    exact this
  exact h0.part (startMsg k s) rfl (startMsg_fits k s)
theorem zero_new (w : World) : Blk (w.alloc (.cells zcells 29)) w.heap.size 29 (mc zeroMsg (.slice none 0 0)) := by
  have := Blk.new w 29 zcells
  rw [zcells_eq] at this
  rw [zcells_eq]
  exact this
theorem rd_alloc {w : World} {b : Nat} {s : ByteArray} {sh : Bool} (h : Rd w b s sh) (o : Obj) : Rd (w.alloc o) b s sh := h.below ((Below.refl _ _).alloc (Nat.le_refl _) o)
theorem Tryd.sizeU8 : (Tryd.prog.info? 5).map (·.size) = some 1 := by kernel_rfl

/-- What Get answers, of at most 16. -/
theorem get_16 {w : World} {A b g : Nat} (o : ByteArray) (ho : o.size ≤ 1000) (hA : A < w.heap.size) (hb : b < w.heap.size) (hg : g < w.heap.size) :
    Calls Tryd.prog 27 #[.string o, .int .i64 16] w fun e w' => ∃ (sl : Value) (ok : Bool) (l : List Bool), e = .returned (.tuple #[sl, .bool ok]) ∧ Hid (RowOf o l) ∧ Hid (BRowN w' A b g sl l) ∧ Hid (Below w.heap.size w w') := by
  rcases isLen_or o with hbad | ⟨m, hm, _⟩
  · exact (get_bad w o 16 ho hbad).mono fun e w' ⟨h1, h2⟩ => by
      subst h2
      exact ⟨_, false, [], h1, Lib.hid (.inl ⟨hbad, rfl⟩), Lib.hid (BRowN.nil _ _ _ _), Lib.hid (Below.refl _ _)⟩
  · by_cases h16 : 16 < m
    · exact (get_over w o 16 m ho hm (by omega)).mono fun e w' ⟨h1, h2⟩ => by
        subst h2
        exact ⟨_, false, [], h1, Lib.hid (.inr ⟨m, hm, .inl ⟨h16, rfl⟩⟩), Lib.hid (BRowN.nil _ _ _ _), Lib.hid (Below.refl _ _)⟩
    · refine (get_yes w o 16 m ho hm (by omega)).mono fun e w' ⟨h1, h2, h3⟩ => ?_
      refine ⟨_, true, decR (leN o.data.toList) m, h1, Lib.hid (.inr ⟨m, hm, .inr ⟨by omega, rfl⟩⟩), Lib.hid ?_, Lib.hid h3⟩
      have := BRowN.new (A := A) (b := b) (g := g) h2 (by rw [dec_length]; omega) ⟨by omega, by omega, by omega⟩
      rw [dec_length] at this
      exact this

/-- The end of a reading. -/
theorem dec_no {w w' : World} {s : ByteArray} {A b g : Nat} {M : Msg} {sl : Value} (h : DS w w' A b g M sl) (hr : Reads s.data.toList none) : DecPost w s (.returned (.tuple #[.agg (mc zeroMsg (.slice none 0 0)).toArray, .bool false])) (w'.setRow A (mc zeroMsg (.slice none 0 0)).toArray) :=
  ⟨none, .slice none 0 0, rfl, hr, BRow.nil _ _, below_setRow h.bel h.lA _⟩
theorem dec_yes {w w' : World} {s : ByteArray} {A b g : Nat} {M : Msg} {sl : Value} (h : DS w w' A b g M sl) (hr : Reads s.data.toList (some M)) : DecPost w s (.returned (.tuple #[.agg (mc M sl).toArray, .bool true])) (w'.setRow A (mc M sl).toArray) :=
  ⟨some M, sl, rfl, hr, (h.row.keep (w' := w'.setRow A (mc M sl).toArray) (by simp [World.setRow]) fun k _ hk _ _ => Go.setRow_other w' A k _ hk).row, below_setRow h.bel h.lA _⟩

set_option maxHeartbeats 8000000 in
theorem decode_any (w : World) (s : ByteArray) (hs : s.size ≤ 900) : Calls Tryd.prog 14 #[.string s] w (DecPost w s) := by
  go_enter Tryd.func14, Tryd.ntmps14
  go_wp2_with fail
  refine (from_new (w.alloc (.cells zcells 29)) s).mono ?_
  rintro e w1 ⟨b, rfl, hb, hr1, hbel1⟩
  have hz1 : Blk w1 w.heap.size 29 (mc zeroMsg (.slice none 0 0)) := (show Blk _ w.heap.size 29 (mc zeroMsg (.slice none 0 0)) from Blk.new w 29 zcells).below hbel1 (by simp)
  have HBW1 := Lib.hid (((Below.refl w.heap.size w).alloc (Nat.le_refl _) (.cells zcells 29)).trans (hbel1.mono (by simp)))
  have hbA : w.heap.size < b := by simp at hb; omega
  have HZ1 := Lib.hid hz1
  have HR1 := Lib.hid hr1
  obtain ⟨A, hA⟩ : ∃ A, A = w.heap.size := ⟨_, rfl⟩
  rw [← hA] at HZ1 hbA HBW1 ⊢
  have HA := Lib.hid hA
  clear hA hz1 hr1 hb hbel1
  go_wp2_with fail
  refine (uint_loop w1 b s false (1 : Nat) HR1.out (by unfold maxLen; omega) (by omega)).mono ?_
  rintro e w2 ⟨rfl, hr2, hg2⟩
  have q1 := leN_b (rdOut_le s 1)
  obtain ⟨K, hK⟩ : ∃ K, K = leN (rdOut s (1 : Nat)).data.toList := ⟨_, rfl⟩
  obtain ⟨s1, hs1⟩ : ∃ x, rdLeft s (1 : Nat) = x := ⟨_, rfl⟩
  obtain ⟨h1, hh1⟩ : ∃ x, rdShort s false (1 : Nat) = x := ⟨_, rfl⟩
  have hz1 : s1.size ≤ 900 := by rw [← hs1]; exact left_size _ _ hs
  rw [← hK] at q1 ⊢
  rw [hs1, hh1] at hr2
  have HR2 := Lib.hid hr2
  have HG2 := Lib.hid hg2
  have HK := Lib.hid hK
  have HS1 := Lib.hid hs1
  have HH1 := Lib.hid hh1
  have i1 : IntKind.i64.wrap (K : Int) = (K : Int) := IntWalk.i64_in _ (by omega)
  clear hr2 hg2 hK hs1 hh1
  go_wp2_with fail
  refine (uint_loop w2 b s1 h1 (4 : Nat) HR2.out (by unfold maxLen; omega) (by omega)).mono ?_
  rintro e w3 ⟨rfl, hr3, hg3⟩
  have q2 := leN_b (rdOut_le s1 4)
  obtain ⟨S, hS⟩ : ∃ K, K = leN (rdOut s1 (4 : Nat)).data.toList := ⟨_, rfl⟩
  obtain ⟨s2, hs2⟩ : ∃ x, rdLeft s1 (4 : Nat) = x := ⟨_, rfl⟩
  obtain ⟨h2, hh2⟩ : ∃ x, rdShort s1 h1 (4 : Nat) = x := ⟨_, rfl⟩
  have hz2 : s2.size ≤ 900 := by rw [← hs2]; exact left_size _ _ hz1
  rw [← hS] at q2 ⊢
  rw [hs2, hh2] at hr3
  have HR3 := Lib.hid hr3
  have HG3 := Lib.hid hg3
  have HS := Lib.hid hS
  have HS2 := Lib.hid hs2
  have HH2 := Lib.hid hh2
  have i2 : IntKind.i64.wrap (S : Int) = (S : Int) := IntWalk.i64_in _ (by omega)
  clear hr3 hg3 hS hs2 hh2
  have HDS := Lib.hid (ds_start (k := (K : Int)) (s := (S : Int)) HZ1.out HBW1.out HA.out hbA HR3.out.lt HG2.out HG3.out)
  have HRD := Lib.hid (show Rd ((w3.alloc (.cells zcells 29)).setRow w3.heap.size (mc (startMsg (K : Int) (S : Int)) (.slice none 0 0)).toArray) b s2 h2 from (rd_alloc HR3.out (.cells zcells 29)).keep (Go.setRow_other _ _ _ _ (Nat.ne_of_lt HR3.out.lt)))
  have HZB := Lib.hid (zero_new w3)
  have HBD := Lib.hid (msg_built (K : Int) (S : Int))
  obtain ⟨M0, hM0⟩ : ∃ M0, M0 = startMsg (K : Int) (S : Int) := ⟨_, rfl⟩
  rw [← hM0] at HDS HRD HBD
  have HF0 := Lib.hid (show M0.Fits by rw [hM0]; exact startMsg_fits _ _)
  have HM0 := Lib.hid hM0
  clear hM0
  go_wp2_with (first
    | ((with_reducible refine wpList_build_msg ?_ 29 #[(0, .tmp 10), (1, .tmp 13)] ?_ (mc M0 (.slice none 0 0)).toArray ?_ ?_); rfl; rfl; (simp only [List.map_toArray, List.map_cons, List.map_nil]; exact HBD.out))
    | ((with_reducible refine wpList_store_msg (.tmp 5) (.tmp 14) ?_ ?_ w3.heap.size zeroMsg M0 (.slice none 0 0) (.slice none 0 0) ?_ ?_ ?_ zeroMsg_fits HF0.out ?_ ?_); rfl; rfl; rfl; rfl; exact HZB.out; rfl))
  rw [zcells_lit]
  generalize hg0 : w3.heap.size = g at *
  have HG0 := Lib.hid hg0
  generalize hw4 : (w3.alloc (.cells zcells 29)).setRow g (mc M0 (.slice none 0 0)).toArray = w4 at *
  clear hg0 hw4 HR3 HR2 HR1 HG2 HG3 HZ1 HBW1 HZB HBD HF0
  generalize Value.agg (mc M0 (.slice none 0 0)).toArray = ag
  obtain ⟨sl, hsl⟩ : ∃ sl : Value, sl = .slice none 0 0 := ⟨_, rfl⟩
  rw [← hsl, HM0.out, startMsg] at HDS
  have HSL := Lib.hid hsl
  clear hsl HM0
  refine wp_region_any (by kernel_rfl) ?_
  try (change wpAny _ _ _ _ _ _ _ (World.drew _))
  have HDSd := Lib.hid (HDS.out.below (Below.refl _ _).drew)
  have HRDd := Lib.hid (HRD.out.below (Below.refl _ _).drew)
  clear HDS HRD
  generalize World.drew w4 = wdt at HDSd HRDd ⊢
  refine wpAny_take (i := 0) (v := ?_) rfl (by kernel_rfl) (by kernel_rfl) (by kernel_rfl) (fun _ _ _ h => h) (Or.inl ⟨by rfl, ?_⟩) ?_
  rotate_left
  · intro w
    go_simp
    try with_reducible rfl
  simp only [Act.put, List.getElem_toArray, List.getElem_cons_succ, List.getElem_cons_zero, List.setIfInBounds_toArray, List.set_cons_zero, List.set_cons_succ]
  refine wpAny_take (i := 1) (v := ?_) rfl (by kernel_rfl) (by kernel_rfl) (by kernel_rfl) (fun _ _ _ h => h) (Or.inl ⟨by rfl, ?_⟩) ?_
  rotate_left
  · intro w
    go_simp
    try with_reducible rfl
  simp only [Act.put, List.getElem_toArray, List.getElem_cons_succ, List.getElem_cons_zero, List.setIfInBounds_toArray, List.set_cons_zero, List.set_cons_succ]
  refine wpAny_take (i := 2) (v := ?_) rfl (by kernel_rfl) (by kernel_rfl) (by kernel_rfl) (fun _ _ _ h => h) (Or.inl ⟨by rfl, ?_⟩) ?_
  rotate_left
  · intro w
    go_simp
    try with_reducible rfl
  simp only [Act.put, List.getElem_toArray, List.getElem_cons_succ, List.getElem_cons_zero, List.setIfInBounds_toArray, List.set_cons_zero, List.set_cons_succ]
  refine wpAny_ready (rs := [3]) (by kernel_rfl) (by simp) ?_
  refine AllReady.cons rfl (fun K hK => ?_) ?_
  · go_simp
    refine (ds_bytes HDSd.out HRDd.out hz2 (32 : Nat)).mono ?_
    rintro e wbt ⟨rfl, HDSb, HRDb⟩
    refine hK _ _ ?_
    clear hK K HDSd HRDd
    try simp only [Act.put, List.getElem_toArray, List.getElem_cons_succ, List.getElem_cons_zero, List.setIfInBounds_toArray, List.set_cons_zero, List.set_cons_succ]
    refine wpAny_ready (rs := [4]) (by kernel_rfl) (by simp) ?_
    refine AllReady.cons rfl (fun K hK => ?_) AllReady.nil
    refine step_copy_str rfl (.tmp 16) (.tmp 18) 40 9 rfl 5 Tryd.underlying40 Tryd.sizeU8 g 2 32 32 (rdOut s2 (32 : Nat)) (rdOut_le _ _) rfl rfl _ 29 HDSb.out.m (by rw [mc_length HDSb.out.fit]; have := rdOut_le s2 32; omega) ?_
    refine hK _ _ ?_
    clear hK K
    simp only [Act.put, List.getElem_toArray, List.getElem_cons_succ, List.getElem_cons_zero, List.setIfInBounds_toArray, List.set_cons_zero, List.set_cons_succ]
    refine wpAny_done (by kernel_rfl) ?_ _
    rw [mc_copyT0 HDSb.out.fit sl _ (rdOut_le _ _)]
    have HRD := Lib.hid (HDSb.out.rd_row HRDb.out (mc ⟨(K : Int), (S : Int), padTo 32 (rdOut s2 (32 : Nat)).data.toList, 0, 0, [], List.replicate 16 0⟩ sl).toArray)
    have HDS := Lib.hid (HDSb.out.part ⟨(K : Int), (S : Int), padTo 32 (rdOut s2 (32 : Nat)).data.toList, 0, 0, [], List.replicate 16 0⟩ rfl ⟨padTo_length (rdOut_le _ _), HDSb.out.fit.G, HDSb.out.fit.b⟩)
    clear HDSb HRDb
    obtain ⟨s3, hsx⟩ : ∃ x, rdLeft s2 (32 : Nat) = x := ⟨_, rfl⟩
    obtain ⟨h3, hhx⟩ : ∃ x, rdShort s2 h2 (32 : Nat) = x := ⟨_, rfl⟩
    have hz3 : s3.size ≤ 900 := by rw [← hsx]; exact left_size _ _ hz2
    rw [hsx, hhx] at HRD
    have HS3 := Lib.hid hsx
    have HH3 := Lib.hid hhx
    clear hsx hhx
    generalize World.setRow _ g _ = w6 at HRD HDS ⊢
    generalize goInt _ = gi0
    have c0 := (HDS.out.m.msg HDS.out.fit).1
    simp only at c0
    by_cases k1 : K = 1
    · have HKK := Lib.hid k1
      have c0' : w6.cell? ⟨g, 0, none⟩ = some (.int .i64 1) := by rw [c0, k1]; rfl
      clear c0 k1
      go_wp2_with fail
      refine (ds_uint HDS.out HRD.out hz3 2 (by omega)).mono ?_
      rintro e w7 ⟨rfl, HDS', HRD'⟩
      have qmo := leN_b (rdOut_le s3 2)
      obtain ⟨mo, hvmo⟩ : ∃ x, x = leN (rdOut s3 (2 : Nat)).data.toList := ⟨_, rfl⟩
      obtain ⟨s4, hsx⟩ : ∃ x, rdLeft s3 (2 : Nat) = x := ⟨_, rfl⟩
      obtain ⟨h4, hhx⟩ : ∃ x, rdShort s3 h3 (2 : Nat) = x := ⟨_, rfl⟩
      have hz4 : s4.size ≤ 900 := by rw [← hsx]; exact left_size _ _ hz3
      rw [← hvmo] at qmo ⊢
      rw [hsx, hhx] at HRD'
      have HVmo := Lib.hid hvmo
      have HS4 := Lib.hid hsx
      have HH4 := Lib.hid hhx
      clear hsx hhx hvmo HDS HRD
      have i3 : IntKind.i64.wrap (mo : Int) = (mo : Int) := IntWalk.i64_in _ (by omega)
      clear c0'
      have c34 := (HDS'.out.m.cell 34).trans (mc_34 HDS'.out.fit sl)
      have f34 := HDS'.out.m.free 34
      have HRD := Lib.hid (HDS'.out.rd_set HRD'.out 34 (.int .i64 (mo : Int)))
      have HDS := Lib.hid (HDS'.out.set 34 (.int .i64 (mo : Int)) ⟨(K : Int), (S : Int), padTo 32 (rdOut s2 (32 : Nat)).data.toList, (mo : Int), 0, [], List.replicate 16 0⟩ (mc_set34 HDS'.out.fit sl _) rfl ⟨HDS'.out.fit.T, HDS'.out.fit.G, HDS'.out.fit.b⟩)
      clear HDS' HRD'
      go_wp2_with fail
      refine (ds_uint HDS.out HRD.out hz4 8 (by omega)).mono ?_
      rintro e w8 ⟨rfl, HDS', HRD'⟩
      have qbo := leN_b (rdOut_le s4 8)
      obtain ⟨bo, hvbo⟩ : ∃ x, x = leN (rdOut s4 (8 : Nat)).data.toList := ⟨_, rfl⟩
      obtain ⟨s5, hsx⟩ : ∃ x, rdLeft s4 (8 : Nat) = x := ⟨_, rfl⟩
      obtain ⟨h5, hhx⟩ : ∃ x, rdShort s4 h4 (8 : Nat) = x := ⟨_, rfl⟩
      have hz5 : s5.size ≤ 900 := by rw [← hsx]; exact left_size _ _ hz4
      rw [← hvbo] at qbo ⊢
      rw [hsx, hhx] at HRD'
      have HVbo := Lib.hid hvbo
      have HS5 := Lib.hid hsx
      have HH5 := Lib.hid hhx
      clear hsx hhx hvbo HDS HRD
      clear c34 f34
      have c35 := (HDS'.out.m.cell 35).trans (mc_35 HDS'.out.fit sl)
      have f35 := HDS'.out.m.free 35
      have HRD := Lib.hid (HDS'.out.rd_set HRD'.out 35 (.int .u64 (bo : Int)))
      have HDS := Lib.hid (HDS'.out.set 35 (.int .u64 (bo : Int)) ⟨(K : Int), (S : Int), padTo 32 (rdOut s2 (32 : Nat)).data.toList, (mo : Int), bo, [], List.replicate 16 0⟩ (mc_set35 HDS'.out.fit sl _) rfl ⟨HDS'.out.fit.T, HDS'.out.fit.G, Nat.lt_of_lt_of_le qbo (by decide)⟩)
      clear HDS' HRD'
      go_wp2_with fail
      clear c35 f35
      generalize World.setCell _ _ _ = w9 at HRD HDS ⊢
      refine wp_region_any (by kernel_rfl) ?_
      try (change wpAny _ _ _ _ _ _ _ (World.drew _))
      have HDSd := Lib.hid (HDS.out.below (Below.refl _ _).drew)
      have HRDd := Lib.hid (HRD.out.below (Below.refl _ _).drew)
      clear HDS HRD
      generalize World.drew w9 = wdg at HDSd HRDd ⊢
      refine wpAny_take (i := 0) (v := ?_) rfl (by kernel_rfl) (by kernel_rfl) (by kernel_rfl) (fun _ _ _ h => h) (Or.inl ⟨by rfl, ?_⟩) ?_
      rotate_left
      · intro w
        go_simp
        try with_reducible rfl
      simp only [Act.put, List.getElem_toArray, List.getElem_cons_succ, List.getElem_cons_zero, List.setIfInBounds_toArray, List.set_cons_zero, List.set_cons_succ]
      refine wpAny_take (i := 1) (v := ?_) rfl (by kernel_rfl) (by kernel_rfl) (by kernel_rfl) (fun _ _ _ h => h) (Or.inl ⟨by rfl, ?_⟩) ?_
      rotate_left
      · intro w
        go_simp
        try with_reducible rfl
      simp only [Act.put, List.getElem_toArray, List.getElem_cons_succ, List.getElem_cons_zero, List.setIfInBounds_toArray, List.set_cons_zero, List.set_cons_succ]
      refine wpAny_take (i := 2) (v := ?_) rfl (by kernel_rfl) (by kernel_rfl) (by kernel_rfl) (fun _ _ _ h => h) (Or.inl ⟨by rfl, ?_⟩) ?_
      rotate_left
      · intro w
        go_simp
        try with_reducible rfl
      simp only [Act.put, List.getElem_toArray, List.getElem_cons_succ, List.getElem_cons_zero, List.setIfInBounds_toArray, List.set_cons_zero, List.set_cons_succ]
      refine wpAny_ready (rs := [3]) (by kernel_rfl) (by simp) ?_
      refine AllReady.cons rfl (fun K hK => ?_) ?_
      · go_simp
        refine (ds_bytes HDSd.out HRDd.out hz5 (16 : Nat)).mono ?_
        rintro e wbg ⟨rfl, HDSb, HRDb⟩
        refine hK _ _ ?_
        clear hK K HDSd HRDd
        try simp only [Act.put, List.getElem_toArray, List.getElem_cons_succ, List.getElem_cons_zero, List.setIfInBounds_toArray, List.set_cons_zero, List.set_cons_succ]
        refine wpAny_ready (rs := [4]) (by kernel_rfl) (by simp) ?_
        refine AllReady.cons rfl (fun K hK => ?_) AllReady.nil
        refine step_copy_str rfl (.tmp 50) (.tmp 52) 40 9 rfl 5 Tryd.underlying40 Tryd.sizeU8 g 37 16 16 (rdOut s5 (16 : Nat)) (rdOut_le _ _) rfl rfl _ 29 HDSb.out.m (by rw [mc_length HDSb.out.fit]; have := rdOut_le s5 16; omega) ?_
        refine hK _ _ ?_
        clear hK K
        simp only [Act.put, List.getElem_toArray, List.getElem_cons_succ, List.getElem_cons_zero, List.setIfInBounds_toArray, List.set_cons_zero, List.set_cons_succ]
        refine wpAny_done (by kernel_rfl) ?_ _
        rw [mc_copyG0 HDSb.out.fit sl _ (rdOut_le _ _)]
        have HRDc := Lib.hid (HDSb.out.rd_row HRDb.out (mc ⟨(K : Int), (S : Int), padTo 32 (rdOut s2 (32 : Nat)).data.toList, (mo : Int), bo, [], padTo 16 (rdOut s5 (16 : Nat)).data.toList⟩ sl).toArray)
        have HDSc := Lib.hid (HDSb.out.part ⟨(K : Int), (S : Int), padTo 32 (rdOut s2 (32 : Nat)).data.toList, (mo : Int), bo, [], padTo 16 (rdOut s5 (16 : Nat)).data.toList⟩ rfl ⟨HDSb.out.fit.T, padTo_length (rdOut_le _ _), HDSb.out.fit.b⟩)
        clear HDSb HRDb
        generalize World.setRow _ g _ = wz at HRDc HDSc ⊢
        obtain ⟨sz, hsz⟩ : ∃ x, rdLeft s5 (16 : Nat) = x := ⟨_, rfl⟩
        obtain ⟨hq, hhq⟩ : ∃ x, rdShort s5 h5 (16 : Nat) = x := ⟨_, rfl⟩
        have HFIN := Lib.hid (dec_one s s1 s2 s3 s4 s5 sz h1 h2 h3 h4 h5 hq K S mo bo HS1.out HS2.out HS3.out HS4.out HS5.out hsz HH1.out HH2.out HH3.out HH4.out HH5.out hhq HK.out HS.out HVmo.out HVbo.out HKK.out)
        rw [hsz, hhq] at HRDc
        have HSZ := Lib.hid hsz
        have HHQ := Lib.hid hhq
        clear hsz hhq
        obtain ⟨M, hM⟩ : ∃ M : Msg, M = ⟨(K : Int), (S : Int), padTo 32 (rdOut s2 (32 : Nat)).data.toList, (mo : Int), bo, [], padTo 16 (rdOut s5 (16 : Nat)).data.toList⟩ := ⟨_, rfl⟩
        rw [← hM] at HFIN HDSc
        clear hM
        generalize goInt _ = gi1
        go_wp2_with fail
        refine (end_any wz b sz hq HRDc.out).mono ?_
        rintro e wz' ⟨rfl, rfl⟩
        generalize (!hq && sz.toList.isEmpty) = E at HFIN ⊢
        cases E with
        | false =>
          have HN := Lib.hid (HFIN.out.2 rfl)
          clear HFIN
          go_wp2_with (first
            | ((with_reducible refine wpList_build_msg ?_ 29 #[] ?_ (mc zeroMsg (.slice none 0 0)).toArray ?_ ?_); rfl; rfl; (simp only [List.map_toArray, List.map_nil]; exact msg_built0))
            | ((with_reducible refine wpList_store_msg (.tmp 2) (.tmp 62) ?_ ?_ A zeroMsg zeroMsg (.slice none 0 0) (.slice none 0 0) ?_ ?_ HDSc.out.z zeroMsg_fits zeroMsg_fits ?_ ?_); rfl; rfl; rfl; rfl; rfl))
          refine ret_msg (p := 2) (u := 3) rfl rfl (HDSc.out.z.setRow _) zeroMsg_fits rfl ?_
          exact dec_no HDSc.out HN.out
        | true =>
          rw [Bool.true_and] at HFIN
          go_wp2_with ((with_reducible refine wpList_load_msgG (.tmp 5) ?_ ?_ g M sl ?_ HDSc.out.m HDSc.out.fit ?_); rfl; rfl; rfl)
          refine (wgood_any wz M sl HDSc.out.fit HDSc.out.row.row).mono ?_
          rintro e wy ⟨rfl, hby⟩
          have HDSy := Lib.hid (HDSc.out.below hby)
          clear hby HDSc HRDc
          generalize msgGood M = GD at HFIN ⊢
          cases GD with
          | false =>
            have HN := Lib.hid (HFIN.out.2 rfl)
            clear HFIN
            go_wp2_with (first
              | ((with_reducible refine wpList_build_msg ?_ 29 #[] ?_ (mc zeroMsg (.slice none 0 0)).toArray ?_ ?_); rfl; rfl; (simp only [List.map_toArray, List.map_nil]; exact msg_built0))
              | ((with_reducible refine wpList_store_msg (.tmp 2) (.tmp 62) ?_ ?_ A zeroMsg zeroMsg (.slice none 0 0) (.slice none 0 0) ?_ ?_ HDSy.out.z zeroMsg_fits zeroMsg_fits ?_ ?_); rfl; rfl; rfl; rfl; rfl))
            refine ret_msg (p := 2) (u := 3) rfl rfl (HDSy.out.z.setRow _) zeroMsg_fits rfl ?_
            exact dec_no HDSy.out HN.out
          | true =>
            have HN := Lib.hid (HFIN.out.1 rfl)
            clear HFIN
            go_wp2_with (first
              | ((with_reducible refine wpList_load_msg (.tmp 5) ?_ ?_ g M sl ?_ HDSy.out.m HDSy.out.fit ?_); rfl; rfl; rfl)
              | ((with_reducible refine wpList_store_msg (.tmp 2) (.tmp 63) ?_ ?_ A zeroMsg M (.slice none 0 0) sl ?_ ?_ HDSy.out.z zeroMsg_fits HDSy.out.fit ?_ ?_); rfl; rfl; rfl; rfl; exact HDSy.out.row.row.one))
            refine ret_msg (p := 2) (u := 3) rfl rfl (HDSy.out.z.setRow _) HDSy.out.fit rfl ?_
            exact dec_yes HDSy.out HN.out
      exact AllReady.nil
    · by_cases k2 : K = 2
      · have HKK := Lib.hid k2
        have c0' : w6.cell? ⟨g, 0, none⟩ = some (.int .i64 2) := by rw [c0, k2]; rfl
        clear c0 k1 k2
        go_wp2_with fail
        refine (ds_uint HDS.out HRD.out hz3 2 (by omega)).mono ?_
        rintro e w7 ⟨rfl, HDS', HRD'⟩
        have qmo := leN_b (rdOut_le s3 2)
        obtain ⟨mo, hvmo⟩ : ∃ x, x = leN (rdOut s3 (2 : Nat)).data.toList := ⟨_, rfl⟩
        obtain ⟨s4, hsx⟩ : ∃ x, rdLeft s3 (2 : Nat) = x := ⟨_, rfl⟩
        obtain ⟨h4, hhx⟩ : ∃ x, rdShort s3 h3 (2 : Nat) = x := ⟨_, rfl⟩
        have hz4 : s4.size ≤ 900 := by rw [← hsx]; exact left_size _ _ hz3
        rw [← hvmo] at qmo ⊢
        rw [hsx, hhx] at HRD'
        have HVmo := Lib.hid hvmo
        have HS4 := Lib.hid hsx
        have HH4 := Lib.hid hhx
        clear hsx hhx hvmo HDS HRD
        have i3 : IntKind.i64.wrap (mo : Int) = (mo : Int) := IntWalk.i64_in _ (by omega)
        clear c0'
        have c34 := (HDS'.out.m.cell 34).trans (mc_34 HDS'.out.fit sl)
        have f34 := HDS'.out.m.free 34
        have HRD := Lib.hid (HDS'.out.rd_set HRD'.out 34 (.int .i64 (mo : Int)))
        have HDS := Lib.hid (HDS'.out.set 34 (.int .i64 (mo : Int)) ⟨(K : Int), (S : Int), padTo 32 (rdOut s2 (32 : Nat)).data.toList, (mo : Int), 0, [], List.replicate 16 0⟩ (mc_set34 HDS'.out.fit sl _) rfl ⟨HDS'.out.fit.T, HDS'.out.fit.G, HDS'.out.fit.b⟩)
        clear HDS' HRD'
        go_wp2_with fail
        clear c34 f34
        generalize World.setCell _ _ _ = w9 at HRD HDS ⊢
        refine wp_region_any (by kernel_rfl) ?_
        try (change wpAny _ _ _ _ _ _ _ (World.drew _))
        have HDSd := Lib.hid (HDS.out.below (Below.refl _ _).drew)
        have HRDd := Lib.hid (HRD.out.below (Below.refl _ _).drew)
        clear HDS HRD
        generalize World.drew w9 = wdg at HDSd HRDd ⊢
        refine wpAny_take (i := 0) (v := ?_) rfl (by kernel_rfl) (by kernel_rfl) (by kernel_rfl) (fun _ _ _ h => h) (Or.inl ⟨by rfl, ?_⟩) ?_
        rotate_left
        · intro w
          go_simp
          try with_reducible rfl
        simp only [Act.put, List.getElem_toArray, List.getElem_cons_succ, List.getElem_cons_zero, List.setIfInBounds_toArray, List.set_cons_zero, List.set_cons_succ]
        refine wpAny_take (i := 1) (v := ?_) rfl (by kernel_rfl) (by kernel_rfl) (by kernel_rfl) (fun _ _ _ h => h) (Or.inl ⟨by rfl, ?_⟩) ?_
        rotate_left
        · intro w
          go_simp
          try with_reducible rfl
        simp only [Act.put, List.getElem_toArray, List.getElem_cons_succ, List.getElem_cons_zero, List.setIfInBounds_toArray, List.set_cons_zero, List.set_cons_succ]
        refine wpAny_take (i := 2) (v := ?_) rfl (by kernel_rfl) (by kernel_rfl) (by kernel_rfl) (fun _ _ _ h => h) (Or.inl ⟨by rfl, ?_⟩) ?_
        rotate_left
        · intro w
          go_simp
          try with_reducible rfl
        simp only [Act.put, List.getElem_toArray, List.getElem_cons_succ, List.getElem_cons_zero, List.setIfInBounds_toArray, List.set_cons_zero, List.set_cons_succ]
        refine wpAny_ready (rs := [3]) (by kernel_rfl) (by simp) ?_
        refine AllReady.cons rfl (fun K hK => ?_) ?_
        · go_simp
          refine (ds_bytes HDSd.out HRDd.out hz4 (16 : Nat)).mono ?_
          rintro e wbg ⟨rfl, HDSb, HRDb⟩
          refine hK _ _ ?_
          clear hK K HDSd HRDd
          try simp only [Act.put, List.getElem_toArray, List.getElem_cons_succ, List.getElem_cons_zero, List.setIfInBounds_toArray, List.set_cons_zero, List.set_cons_succ]
          refine wpAny_ready (rs := [4]) (by kernel_rfl) (by simp) ?_
          refine AllReady.cons rfl (fun K hK => ?_) AllReady.nil
          refine step_copy_str rfl (.tmp 50) (.tmp 52) 40 9 rfl 5 Tryd.underlying40 Tryd.sizeU8 g 37 16 16 (rdOut s4 (16 : Nat)) (rdOut_le _ _) rfl rfl _ 29 HDSb.out.m (by rw [mc_length HDSb.out.fit]; have := rdOut_le s4 16; omega) ?_
          refine hK _ _ ?_
          clear hK K
          simp only [Act.put, List.getElem_toArray, List.getElem_cons_succ, List.getElem_cons_zero, List.setIfInBounds_toArray, List.set_cons_zero, List.set_cons_succ]
          refine wpAny_done (by kernel_rfl) ?_ _
          rw [mc_copyG0 HDSb.out.fit sl _ (rdOut_le _ _)]
          have HRDc := Lib.hid (HDSb.out.rd_row HRDb.out (mc ⟨(K : Int), (S : Int), padTo 32 (rdOut s2 (32 : Nat)).data.toList, (mo : Int), 0, [], padTo 16 (rdOut s4 (16 : Nat)).data.toList⟩ sl).toArray)
          have HDSc := Lib.hid (HDSb.out.part ⟨(K : Int), (S : Int), padTo 32 (rdOut s2 (32 : Nat)).data.toList, (mo : Int), 0, [], padTo 16 (rdOut s4 (16 : Nat)).data.toList⟩ rfl ⟨HDSb.out.fit.T, padTo_length (rdOut_le _ _), HDSb.out.fit.b⟩)
          clear HDSb HRDb
          generalize World.setRow _ g _ = wz at HRDc HDSc ⊢
          obtain ⟨sz, hsz⟩ : ∃ x, rdLeft s4 (16 : Nat) = x := ⟨_, rfl⟩
          obtain ⟨hq, hhq⟩ : ∃ x, rdShort s4 h4 (16 : Nat) = x := ⟨_, rfl⟩
          have HFIN := Lib.hid (dec_two s s1 s2 s3 s4 sz h1 h2 h3 h4 hq K S mo HS1.out HS2.out HS3.out HS4.out hsz HH1.out HH2.out HH3.out HH4.out hhq HK.out HS.out HVmo.out HKK.out)
          rw [hsz, hhq] at HRDc
          have HSZ := Lib.hid hsz
          have HHQ := Lib.hid hhq
          clear hsz hhq
          obtain ⟨M, hM⟩ : ∃ M : Msg, M = ⟨(K : Int), (S : Int), padTo 32 (rdOut s2 (32 : Nat)).data.toList, (mo : Int), 0, [], padTo 16 (rdOut s4 (16 : Nat)).data.toList⟩ := ⟨_, rfl⟩
          rw [← hM] at HFIN HDSc
          clear hM
          generalize goInt _ = gi1
          go_wp2_with fail
          refine (end_any wz b sz hq HRDc.out).mono ?_
          rintro e wz' ⟨rfl, rfl⟩
          generalize (!hq && sz.toList.isEmpty) = E at HFIN ⊢
          cases E with
          | false =>
            have HN := Lib.hid (HFIN.out.2 rfl)
            clear HFIN
            go_wp2_with (first
              | ((with_reducible refine wpList_build_msg ?_ 29 #[] ?_ (mc zeroMsg (.slice none 0 0)).toArray ?_ ?_); rfl; rfl; (simp only [List.map_toArray, List.map_nil]; exact msg_built0))
              | ((with_reducible refine wpList_store_msg (.tmp 2) (.tmp 62) ?_ ?_ A zeroMsg zeroMsg (.slice none 0 0) (.slice none 0 0) ?_ ?_ HDSc.out.z zeroMsg_fits zeroMsg_fits ?_ ?_); rfl; rfl; rfl; rfl; rfl))
            refine ret_msg (p := 2) (u := 3) rfl rfl (HDSc.out.z.setRow _) zeroMsg_fits rfl ?_
            exact dec_no HDSc.out HN.out
          | true =>
            rw [Bool.true_and] at HFIN
            go_wp2_with ((with_reducible refine wpList_load_msgG (.tmp 5) ?_ ?_ g M sl ?_ HDSc.out.m HDSc.out.fit ?_); rfl; rfl; rfl)
            refine (wgood_any wz M sl HDSc.out.fit HDSc.out.row.row).mono ?_
            rintro e wy ⟨rfl, hby⟩
            have HDSy := Lib.hid (HDSc.out.below hby)
            clear hby HDSc HRDc
            generalize msgGood M = GD at HFIN ⊢
            cases GD with
            | false =>
              have HN := Lib.hid (HFIN.out.2 rfl)
              clear HFIN
              go_wp2_with (first
                | ((with_reducible refine wpList_build_msg ?_ 29 #[] ?_ (mc zeroMsg (.slice none 0 0)).toArray ?_ ?_); rfl; rfl; (simp only [List.map_toArray, List.map_nil]; exact msg_built0))
                | ((with_reducible refine wpList_store_msg (.tmp 2) (.tmp 62) ?_ ?_ A zeroMsg zeroMsg (.slice none 0 0) (.slice none 0 0) ?_ ?_ HDSy.out.z zeroMsg_fits zeroMsg_fits ?_ ?_); rfl; rfl; rfl; rfl; rfl))
              refine ret_msg (p := 2) (u := 3) rfl rfl (HDSy.out.z.setRow _) zeroMsg_fits rfl ?_
              exact dec_no HDSy.out HN.out
            | true =>
              have HN := Lib.hid (HFIN.out.1 rfl)
              clear HFIN
              go_wp2_with (first
                | ((with_reducible refine wpList_load_msg (.tmp 5) ?_ ?_ g M sl ?_ HDSy.out.m HDSy.out.fit ?_); rfl; rfl; rfl)
                | ((with_reducible refine wpList_store_msg (.tmp 2) (.tmp 63) ?_ ?_ A zeroMsg M (.slice none 0 0) sl ?_ ?_ HDSy.out.z zeroMsg_fits HDSy.out.fit ?_ ?_); rfl; rfl; rfl; rfl; exact HDSy.out.row.row.one))
              refine ret_msg (p := 2) (u := 3) rfl rfl (HDSy.out.z.setRow _) HDSy.out.fit rfl ?_
              exact dec_yes HDSy.out HN.out
        exact AllReady.nil
      · by_cases k3 : K = 3
        · have HKK := Lib.hid k3
          have c0' : w6.cell? ⟨g, 0, none⟩ = some (.int .i64 3) := by rw [c0, k3]; rfl
          clear c0 k1 k2 k3
          have i3 : IntKind.i64.wrap ((s3.size : Int) - 16) = (s3.size : Int) - 16 := IntWalk.i64_in _ (by omega)
          go_wp2_with fail
          refine (left_any w6 b s3 h3 HRD.out).mono ?_
          rintro e w6' ⟨rfl, rfl⟩
          go_wp2_with fail
          refine (ds_bytes HDS.out HRD.out hz3 ((s3.size : Int) - 16)).mono ?_
          rintro e w7 ⟨rfl, HDS', HRD'⟩
          obtain ⟨o, hxo⟩ : ∃ x, rdOut s3 ((s3.size : Int) - 16) = x := ⟨_, rfl⟩
          obtain ⟨s4, hsx⟩ : ∃ x, rdLeft s3 ((s3.size : Int) - 16) = x := ⟨_, rfl⟩
          obtain ⟨h4, hhx⟩ : ∃ x, rdShort s3 h3 ((s3.size : Int) - 16) = x := ⟨_, rfl⟩
          have hz4 : s4.size ≤ 900 := by rw [← hsx]; exact left_size _ _ hz3
          have hzo : o.size ≤ 1000 := by rw [← hxo]; exact out_size _ _ hz3
          rw [hsx, hhx] at HRD'
          rw [hxo]
          have HO := Lib.hid hxo
          have HS4 := Lib.hid hsx
          have HH4 := Lib.hid hhx
          clear hxo hsx hhx HDS HRD c0'
          go_wp2_with fail
          refine (get_16 (A := A) (b := b) (g := g) o hzo HDS'.out.z.lt HRD'.out.lt HDS'.out.m.lt).mono ?_
          rintro e w8 ⟨sl', ok, l, rfl, HRO, HRN, HB8⟩
          have HDSg := Lib.hid (HDS'.out.below HB8.out)
          have HRDg := Lib.hid (HRD'.out.below HB8.out)
          have c36 := (HDSg.out.m.cell 36).trans (mc_36 HDSg.out.fit sl)
          have f36 := HDSg.out.m.free 36
          have HRD := Lib.hid (HDSg.out.rd_set HRDg.out 36 sl')
          have HDS := Lib.hid (HDSg.out.bits sl' l HRN.out)
          simp only at HDS
          obtain ⟨ao2, cap2, hform⟩ := HRN.out.row.form
          obtain ⟨L, hL⟩ : ∃ L, L = l.length := ⟨_, rfl⟩
          rw [← hL] at hform
          clear hL
          subst hform
          clear HDS' HRD' HDSg HRDg HRN HB8
          go_wp2_with fail
          clear c36 f36 HSL
          generalize World.setCell _ _ _ = w9 at HRD HDS ⊢
          generalize Value.slice ao2 L cap2 = sl' at HDS ⊢
          have hfin : ∀ (sz : ByteArray) (hq : Bool), rdLeft s4 (16 : Nat) = sz → rdShort s4 h4 (16 : Nat) = hq → (((!hq && sz.toList.isEmpty) && msgGood ⟨(K : Int), (S : Int), padTo 32 (rdOut s2 (32 : Nat)).data.toList, 0, 0, l, padTo 16 (rdOut s4 (16 : Nat)).data.toList⟩) = true → Reads s.data.toList (some ⟨(K : Int), (S : Int), padTo 32 (rdOut s2 (32 : Nat)).data.toList, 0, 0, l, padTo 16 (rdOut s4 (16 : Nat)).data.toList⟩)) ∧ (((!hq && sz.toList.isEmpty) && msgGood ⟨(K : Int), (S : Int), padTo 32 (rdOut s2 (32 : Nat)).data.toList, 0, 0, l, padTo 16 (rdOut s4 (16 : Nat)).data.toList⟩) = false → Reads s.data.toList none) := by
            intro sz hq hsz hhq
            by_cases h16 : s3.size < 16
            · have hn := dec_short s s1 s2 s3 h1 h2 h3 K HS1.out HS2.out HS3.out HH1.out HH2.out HH3.out HK.out HKK.out h16
              have hsh : h4 = true := by rw [← HH4.out]; exact (rd_no (.inl (by omega)) h3).2.2
              have hsq : hq = true := by rw [← hhq, hsh]; unfold rdShort; split <;> rfl
              rw [hsq]
              exact ⟨fun h => (by cases h), fun _ => hn⟩
            · obtain ⟨n, hn⟩ : ∃ n : Nat, (s3.size : Int) - 16 = n := ⟨s3.size - 16, by omega⟩
              have e4 := HS4.out
              have f4 := HH4.out
              have eo := HO.out
              rw [hn] at e4 f4 eo
              exact dec_three s s1 s2 s3 s4 sz o h1 h2 h3 h4 hq K S n l HS1.out HS2.out HS3.out e4 hsz HH1.out HH2.out HH3.out f4 hhq HK.out HS.out eo HRO.out HKK.out (by omega)
          have HFI := Lib.hid hfin
          clear hfin
          refine wp_region_any (by kernel_rfl) ?_
          try (change wpAny _ _ _ _ _ _ _ (World.drew _))
          have HDSd := Lib.hid (HDS.out.below (Below.refl _ _).drew)
          have HRDd := Lib.hid (HRD.out.below (Below.refl _ _).drew)
          clear HDS HRD
          generalize World.drew w9 = wdg at HDSd HRDd ⊢
          refine wpAny_take (i := 0) (v := ?_) rfl (by kernel_rfl) (by kernel_rfl) (by kernel_rfl) (fun _ _ _ h => h) (Or.inl ⟨by rfl, ?_⟩) ?_
          rotate_left
          · intro w
            go_simp
            try with_reducible rfl
          simp only [Act.put, List.getElem_toArray, List.getElem_cons_succ, List.getElem_cons_zero, List.setIfInBounds_toArray, List.set_cons_zero, List.set_cons_succ]
          refine wpAny_take (i := 1) (v := ?_) rfl (by kernel_rfl) (by kernel_rfl) (by kernel_rfl) (fun _ _ _ h => h) (Or.inl ⟨by rfl, ?_⟩) ?_
          rotate_left
          · intro w
            go_simp
            try with_reducible rfl
          simp only [Act.put, List.getElem_toArray, List.getElem_cons_succ, List.getElem_cons_zero, List.setIfInBounds_toArray, List.set_cons_zero, List.set_cons_succ]
          refine wpAny_take (i := 2) (v := ?_) rfl (by kernel_rfl) (by kernel_rfl) (by kernel_rfl) (fun _ _ _ h => h) (Or.inl ⟨by rfl, ?_⟩) ?_
          rotate_left
          · intro w
            go_simp
            try with_reducible rfl
          simp only [Act.put, List.getElem_toArray, List.getElem_cons_succ, List.getElem_cons_zero, List.setIfInBounds_toArray, List.set_cons_zero, List.set_cons_succ]
          refine wpAny_ready (rs := [3]) (by kernel_rfl) (by simp) ?_
          refine AllReady.cons rfl (fun K hK => ?_) ?_
          · go_simp
            refine (ds_bytes HDSd.out HRDd.out hz4 (16 : Nat)).mono ?_
            rintro e wbg ⟨rfl, HDSb, HRDb⟩
            refine hK _ _ ?_
            clear hK K HDSd HRDd
            try simp only [Act.put, List.getElem_toArray, List.getElem_cons_succ, List.getElem_cons_zero, List.setIfInBounds_toArray, List.set_cons_zero, List.set_cons_succ]
            refine wpAny_ready (rs := [4]) (by kernel_rfl) (by simp) ?_
            refine AllReady.cons rfl (fun K hK => ?_) AllReady.nil
            refine step_copy_str rfl (.tmp 50) (.tmp 52) 40 9 rfl 5 Tryd.underlying40 Tryd.sizeU8 g 37 16 16 (rdOut s4 (16 : Nat)) (rdOut_le _ _) rfl rfl _ 29 HDSb.out.m (by rw [mc_length HDSb.out.fit]; have := rdOut_le s4 16; omega) ?_
            refine hK _ _ ?_
            clear hK K
            simp only [Act.put, List.getElem_toArray, List.getElem_cons_succ, List.getElem_cons_zero, List.setIfInBounds_toArray, List.set_cons_zero, List.set_cons_succ]
            refine wpAny_done (by kernel_rfl) ?_ _
            rw [mc_copyG0 HDSb.out.fit sl' _ (rdOut_le _ _)]
            have HRDc := Lib.hid (HDSb.out.rd_row HRDb.out (mc ⟨(K : Int), (S : Int), padTo 32 (rdOut s2 (32 : Nat)).data.toList, 0, 0, l, padTo 16 (rdOut s4 (16 : Nat)).data.toList⟩ sl').toArray)
            have HDSc := Lib.hid (HDSb.out.part ⟨(K : Int), (S : Int), padTo 32 (rdOut s2 (32 : Nat)).data.toList, 0, 0, l, padTo 16 (rdOut s4 (16 : Nat)).data.toList⟩ rfl ⟨HDSb.out.fit.T, padTo_length (rdOut_le _ _), HDSb.out.fit.b⟩)
            clear HDSb HRDb
            generalize World.setRow _ g _ = wz at HRDc HDSc ⊢
            obtain ⟨sz, hsz⟩ : ∃ x, rdLeft s4 (16 : Nat) = x := ⟨_, rfl⟩
            obtain ⟨hq, hhq⟩ : ∃ x, rdShort s4 h4 (16 : Nat) = x := ⟨_, rfl⟩
            have HFIN := Lib.hid (HFI.out sz hq hsz hhq)
            rw [hsz, hhq] at HRDc
            have HSZ := Lib.hid hsz
            have HHQ := Lib.hid hhq
            clear hsz hhq
            obtain ⟨M, hM⟩ : ∃ M : Msg, M = ⟨(K : Int), (S : Int), padTo 32 (rdOut s2 (32 : Nat)).data.toList, 0, 0, l, padTo 16 (rdOut s4 (16 : Nat)).data.toList⟩ := ⟨_, rfl⟩
            rw [← hM] at HFIN HDSc
            clear hM
            generalize goInt _ = gi1
            go_wp2_with fail
            refine (end_any wz b sz hq HRDc.out).mono ?_
            rintro e wz' ⟨rfl, rfl⟩
            generalize (!hq && sz.toList.isEmpty) = E at HFIN ⊢
            cases E with
            | false =>
              have HN := Lib.hid (HFIN.out.2 rfl)
              clear HFIN
              go_wp2_with (first
                | ((with_reducible refine wpList_build_msg ?_ 29 #[] ?_ (mc zeroMsg (.slice none 0 0)).toArray ?_ ?_); rfl; rfl; (simp only [List.map_toArray, List.map_nil]; exact msg_built0))
                | ((with_reducible refine wpList_store_msg (.tmp 2) (.tmp 62) ?_ ?_ A zeroMsg zeroMsg (.slice none 0 0) (.slice none 0 0) ?_ ?_ HDSc.out.z zeroMsg_fits zeroMsg_fits ?_ ?_); rfl; rfl; rfl; rfl; rfl))
              refine ret_msg (p := 2) (u := 3) rfl rfl (HDSc.out.z.setRow _) zeroMsg_fits rfl ?_
              exact dec_no HDSc.out HN.out
            | true =>
              rw [Bool.true_and] at HFIN
              go_wp2_with ((with_reducible refine wpList_load_msgG (.tmp 5) ?_ ?_ g M sl' ?_ HDSc.out.m HDSc.out.fit ?_); rfl; rfl; rfl)
              refine (wgood_any wz M sl' HDSc.out.fit HDSc.out.row.row).mono ?_
              rintro e wy ⟨rfl, hby⟩
              have HDSy := Lib.hid (HDSc.out.below hby)
              clear hby HDSc HRDc
              generalize msgGood M = GD at HFIN ⊢
              cases GD with
              | false =>
                have HN := Lib.hid (HFIN.out.2 rfl)
                clear HFIN
                go_wp2_with (first
                  | ((with_reducible refine wpList_build_msg ?_ 29 #[] ?_ (mc zeroMsg (.slice none 0 0)).toArray ?_ ?_); rfl; rfl; (simp only [List.map_toArray, List.map_nil]; exact msg_built0))
                  | ((with_reducible refine wpList_store_msg (.tmp 2) (.tmp 62) ?_ ?_ A zeroMsg zeroMsg (.slice none 0 0) (.slice none 0 0) ?_ ?_ HDSy.out.z zeroMsg_fits zeroMsg_fits ?_ ?_); rfl; rfl; rfl; rfl; rfl))
                refine ret_msg (p := 2) (u := 3) rfl rfl (HDSy.out.z.setRow _) zeroMsg_fits rfl ?_
                exact dec_no HDSy.out HN.out
              | true =>
                have HN := Lib.hid (HFIN.out.1 rfl)
                clear HFIN
                go_wp2_with (first
                  | ((with_reducible refine wpList_load_msg (.tmp 5) ?_ ?_ g M sl' ?_ HDSy.out.m HDSy.out.fit ?_); rfl; rfl; rfl)
                  | ((with_reducible refine wpList_store_msg (.tmp 2) (.tmp 63) ?_ ?_ A zeroMsg M (.slice none 0 0) sl' ?_ ?_ HDSy.out.z zeroMsg_fits HDSy.out.fit ?_ ?_); rfl; rfl; rfl; rfl; exact HDSy.out.row.row.one))
                refine ret_msg (p := 2) (u := 3) rfl rfl (HDSy.out.z.setRow _) HDSy.out.fit rfl ?_
                exact dec_yes HDSy.out HN.out
          exact AllReady.nil
        · have d1 : ((K : Int) == 1) = false := by simp; omega
          have d2 : ((K : Int) == 2) = false := by simp; omega
          have d3 : ((K : Int) == 3) = false := by simp; omega
          have HOT := Lib.hid (dec_other s K HK.out ⟨k1, k2, k3⟩)
          have HNG := Lib.hid (show ∀ (T G : List UInt8), msgGood ⟨(K : Int), (S : Int), T, 0, 0, [], G⟩ = false from fun T G => by simp only [msgGood]; rw [if_neg (by omega), if_neg (by omega), if_neg (by omega), Bool.and_false])
          clear k1 k2 k3
          go_wp2_with fail
          clear c0 d1 d2 d3
          refine wp_region_any (by kernel_rfl) ?_
          try (change wpAny _ _ _ _ _ _ _ (World.drew _))
          have HDSd := Lib.hid (HDS.out.below (Below.refl _ _).drew)
          have HRDd := Lib.hid (HRD.out.below (Below.refl _ _).drew)
          clear HDS HRD
          generalize World.drew w6 = wdg at HDSd HRDd ⊢
          refine wpAny_take (i := 0) (v := ?_) rfl (by kernel_rfl) (by kernel_rfl) (by kernel_rfl) (fun _ _ _ h => h) (Or.inl ⟨by rfl, ?_⟩) ?_
          rotate_left
          · intro w
            go_simp
            try with_reducible rfl
          simp only [Act.put, List.getElem_toArray, List.getElem_cons_succ, List.getElem_cons_zero, List.setIfInBounds_toArray, List.set_cons_zero, List.set_cons_succ]
          refine wpAny_take (i := 1) (v := ?_) rfl (by kernel_rfl) (by kernel_rfl) (by kernel_rfl) (fun _ _ _ h => h) (Or.inl ⟨by rfl, ?_⟩) ?_
          rotate_left
          · intro w
            go_simp
            try with_reducible rfl
          simp only [Act.put, List.getElem_toArray, List.getElem_cons_succ, List.getElem_cons_zero, List.setIfInBounds_toArray, List.set_cons_zero, List.set_cons_succ]
          refine wpAny_take (i := 2) (v := ?_) rfl (by kernel_rfl) (by kernel_rfl) (by kernel_rfl) (fun _ _ _ h => h) (Or.inl ⟨by rfl, ?_⟩) ?_
          rotate_left
          · intro w
            go_simp
            try with_reducible rfl
          simp only [Act.put, List.getElem_toArray, List.getElem_cons_succ, List.getElem_cons_zero, List.setIfInBounds_toArray, List.set_cons_zero, List.set_cons_succ]
          refine wpAny_ready (rs := [3]) (by kernel_rfl) (by simp) ?_
          refine AllReady.cons rfl (fun K hK => ?_) ?_
          · go_simp
            refine (ds_bytes HDSd.out HRDd.out hz3 (16 : Nat)).mono ?_
            rintro e wbg ⟨rfl, HDSb, HRDb⟩
            refine hK _ _ ?_
            clear hK K HDSd HRDd
            try simp only [Act.put, List.getElem_toArray, List.getElem_cons_succ, List.getElem_cons_zero, List.setIfInBounds_toArray, List.set_cons_zero, List.set_cons_succ]
            refine wpAny_ready (rs := [4]) (by kernel_rfl) (by simp) ?_
            refine AllReady.cons rfl (fun K hK => ?_) AllReady.nil
            refine step_copy_str rfl (.tmp 50) (.tmp 52) 40 9 rfl 5 Tryd.underlying40 Tryd.sizeU8 g 37 16 16 (rdOut s3 (16 : Nat)) (rdOut_le _ _) rfl rfl _ 29 HDSb.out.m (by rw [mc_length HDSb.out.fit]; have := rdOut_le s3 16; omega) ?_
            refine hK _ _ ?_
            clear hK K
            simp only [Act.put, List.getElem_toArray, List.getElem_cons_succ, List.getElem_cons_zero, List.setIfInBounds_toArray, List.set_cons_zero, List.set_cons_succ]
            refine wpAny_done (by kernel_rfl) ?_ _
            rw [mc_copyG0 HDSb.out.fit sl _ (rdOut_le _ _)]
            have HRDc := Lib.hid (HDSb.out.rd_row HRDb.out (mc ⟨(K : Int), (S : Int), padTo 32 (rdOut s2 (32 : Nat)).data.toList, 0, 0, [], padTo 16 (rdOut s3 (16 : Nat)).data.toList⟩ sl).toArray)
            have HDSc := Lib.hid (HDSb.out.part ⟨(K : Int), (S : Int), padTo 32 (rdOut s2 (32 : Nat)).data.toList, 0, 0, [], padTo 16 (rdOut s3 (16 : Nat)).data.toList⟩ rfl ⟨HDSb.out.fit.T, padTo_length (rdOut_le _ _), HDSb.out.fit.b⟩)
            clear HDSb HRDb
            generalize World.setRow _ g _ = wz at HRDc HDSc ⊢
            obtain ⟨sz, hsz⟩ : ∃ x, rdLeft s3 (16 : Nat) = x := ⟨_, rfl⟩
            obtain ⟨hq, hhq⟩ : ∃ x, rdShort s3 h3 (16 : Nat) = x := ⟨_, rfl⟩
            have HFIN := Lib.hid (show _ from (⟨fun h => (by rw [HNG.out, Bool.and_false] at h; cases h), fun _ => HOT.out⟩ : (((!hq && sz.toList.isEmpty) && msgGood ⟨(K : Int), (S : Int), padTo 32 (rdOut s2 (32 : Nat)).data.toList, 0, 0, [], padTo 16 (rdOut s3 (16 : Nat)).data.toList⟩) = true → Reads s.data.toList (some ⟨(K : Int), (S : Int), padTo 32 (rdOut s2 (32 : Nat)).data.toList, 0, 0, [], padTo 16 (rdOut s3 (16 : Nat)).data.toList⟩)) ∧ (((!hq && sz.toList.isEmpty) && msgGood ⟨(K : Int), (S : Int), padTo 32 (rdOut s2 (32 : Nat)).data.toList, 0, 0, [], padTo 16 (rdOut s3 (16 : Nat)).data.toList⟩) = false → Reads s.data.toList none)))
            rw [hsz, hhq] at HRDc
            have HSZ := Lib.hid hsz
            have HHQ := Lib.hid hhq
            clear hsz hhq
            obtain ⟨M, hM⟩ : ∃ M : Msg, M = ⟨(K : Int), (S : Int), padTo 32 (rdOut s2 (32 : Nat)).data.toList, 0, 0, [], padTo 16 (rdOut s3 (16 : Nat)).data.toList⟩ := ⟨_, rfl⟩
            rw [← hM] at HFIN HDSc
            clear hM
            generalize goInt _ = gi1
            go_wp2_with fail
            refine (end_any wz b sz hq HRDc.out).mono ?_
            rintro e wz' ⟨rfl, rfl⟩
            generalize (!hq && sz.toList.isEmpty) = E at HFIN ⊢
            cases E with
            | false =>
              have HN := Lib.hid (HFIN.out.2 rfl)
              clear HFIN
              go_wp2_with (first
                | ((with_reducible refine wpList_build_msg ?_ 29 #[] ?_ (mc zeroMsg (.slice none 0 0)).toArray ?_ ?_); rfl; rfl; (simp only [List.map_toArray, List.map_nil]; exact msg_built0))
                | ((with_reducible refine wpList_store_msg (.tmp 2) (.tmp 62) ?_ ?_ A zeroMsg zeroMsg (.slice none 0 0) (.slice none 0 0) ?_ ?_ HDSc.out.z zeroMsg_fits zeroMsg_fits ?_ ?_); rfl; rfl; rfl; rfl; rfl))
              refine ret_msg (p := 2) (u := 3) rfl rfl (HDSc.out.z.setRow _) zeroMsg_fits rfl ?_
              exact dec_no HDSc.out HN.out
            | true =>
              rw [Bool.true_and] at HFIN
              go_wp2_with ((with_reducible refine wpList_load_msgG (.tmp 5) ?_ ?_ g M sl ?_ HDSc.out.m HDSc.out.fit ?_); rfl; rfl; rfl)
              refine (wgood_any wz M sl HDSc.out.fit HDSc.out.row.row).mono ?_
              rintro e wy ⟨rfl, hby⟩
              have HDSy := Lib.hid (HDSc.out.below hby)
              clear hby HDSc HRDc
              generalize msgGood M = GD at HFIN ⊢
              cases GD with
              | false =>
                have HN := Lib.hid (HFIN.out.2 rfl)
                clear HFIN
                go_wp2_with (first
                  | ((with_reducible refine wpList_build_msg ?_ 29 #[] ?_ (mc zeroMsg (.slice none 0 0)).toArray ?_ ?_); rfl; rfl; (simp only [List.map_toArray, List.map_nil]; exact msg_built0))
                  | ((with_reducible refine wpList_store_msg (.tmp 2) (.tmp 62) ?_ ?_ A zeroMsg zeroMsg (.slice none 0 0) (.slice none 0 0) ?_ ?_ HDSy.out.z zeroMsg_fits zeroMsg_fits ?_ ?_); rfl; rfl; rfl; rfl; rfl))
                refine ret_msg (p := 2) (u := 3) rfl rfl (HDSy.out.z.setRow _) zeroMsg_fits rfl ?_
                exact dec_no HDSy.out HN.out
              | true =>
                have HN := Lib.hid (HFIN.out.1 rfl)
                clear HFIN
                go_wp2_with (first
                  | ((with_reducible refine wpList_load_msg (.tmp 5) ?_ ?_ g M sl ?_ HDSy.out.m HDSy.out.fit ?_); rfl; rfl; rfl)
                  | ((with_reducible refine wpList_store_msg (.tmp 2) (.tmp 63) ?_ ?_ A zeroMsg M (.slice none 0 0) sl ?_ ?_ HDSy.out.z zeroMsg_fits HDSy.out.fit ?_ ?_); rfl; rfl; rfl; rfl; exact HDSy.out.row.row.one))
                refine ret_msg (p := 2) (u := 3) rfl rfl (HDSy.out.z.setRow _) HDSy.out.fit rfl ?_
                exact dec_yes HDSy.out HN.out
          exact AllReady.nil
  exact AllReady.nil
end Go.Proofs.YtickcajihaejkaaDoor
