/-
  What bitlist.Put does.
-/
import Derived.Test.YtickcajihaejkaaDoorBPack
import Derived.Deep.RegionWith
namespace Go.Proofs.YtickcajihaejkaaDoor
open Go.RowKit
set_option maxRecDepth 10000
set_option linter.unusedSimpArgs false

theorem Tryd.infoU8 : (Tryd.prog.info? 5).map (fun i => (i.zero, i.size, i.bytes)) = some (some (.int .u8 0), 1, 1) := by kernel_rfl

theorem turned_call {P : Program} {f : Nat} {args : Array Value} {w : World} {v : Value} (h : Calls P f args w fun e w' => e = .returned v ∧ w = w') : Calls P f args w fun e w' => e = .returned v ∧ w' = w :=
  h.mono fun _ _ ⟨a, b⟩ => ⟨a, b.symm⟩

/-- One cell that was just built, as append's source. -/
theorem src_one {P : Program} (w : World) (e t : TypeId) (ht : P.underlying t = some (.slice e)) (u : Value) (h1 : u.oneCell' = true) : Src P 1 t (.slice (some ⟨w.heap.size, 0, none⟩) 1 1) 1 [u] (w.alloc (.cells #[u] e)) := by
  refine Src.ofSlice _ ht _ 1 1 _ rfl ?_ ?_
  · intro i x hi
    match i, hi with
    | 0, hi => simp at hi; subst hi; simp [Addr.add]
  · intro x hx; simp at hx; subst hx; exact h1

theorem bv_byte (c : Nat) (h : c < 256) : bv [UInt8.ofNat c] = [.int .u8 (c : Int)] := by simp [bv, Nat.mod_eq_of_lt h]

/-- Put's relation: j bytes are put, and so many times eight of the row are cut off. -/
def BPutRel (w : World) (base : Nat) (v : Value) (bs : List UInt8) (l : List Bool) (b off : Nat) (c x : Value) (wr : World) : Prop :=
  ∃ (j : Nat) (ao : Option Addr) (n cap : Nat), 8 * j + n = l.length ∧ n ≤ cap ∧ x = .slice ao n cap ∧ BRowAt wr base ao b (off + 8 * j) (l.drop (8 * j)) ∧ Held wr base c (bv (bs ++ leB (rowN l) j)) ∧ Grew w v wr c

def lenOfS : Value → Nat
  | .slice _ n _ => n
  | _ => 0

theorem or_wrap (p k : Nat) (hk : k < 8) (hp : p < 2 ^ k) : bits BinOp.or IntKind.u8 (p : Int) (IntKind.u8.wrap ((2 : Int) ^ k)) = ((p + 2 ^ k : Nat) : Int) := by
  rw [IntKind.wrap_u8]; exact or_step p k hk hp

theorem bput_round {w : World} {base : Nat} {v : Value} {bs : List UInt8} {l : List Bool} {b off j p n cap : Nat} {wr w1 : World} {u0 v1 : Value} {a0 a1 : Option Addr} {o : Obj} (hn : 8 * j + n = l.length) (hlt : 8 ≤ n) (hc : n ≤ cap) (hp : p < 256) (hP : rowN l / 256 ^ j % 256 = p)
    (ha : 8 < n → a1 = some ⟨b, off + 8 * j + 8, none⟩) (hbase : base ≤ wr.heap.size) (hrow : BRowAt wr base a0 b (off + 8 * j) (l.drop (8 * j))) (hh : Held wr base u0 (bv (bs ++ leB (rowN l) j))) (hg : Grew w v wr u0)
    (hh1 : Held w1 base v1 (bv (bs ++ leB (rowN l) j) ++ [.int .u8 (p : Int)])) (hg1 : Grew (wr.alloc o) u0 w1 v1) : BPutRel w base v bs l b off v1 (.slice a1 (n - 8) (cap - 8)) w1 := by
  refine ⟨j + 1, a1, n - 8, cap - 8, by omega, by omega, rfl, ?_, ?_, ?_⟩
  · have hb : Below base wr w1 := ((Below.refl _ _).alloc hbase o).trans (hg1.below (hh.alloc o) (by simp; omega))
    have h := (hrow.keep hb).drop 8 (ao' := a1) (fun h => ha (by rw [List.length_drop] at h; omega))
    rw [List.drop_drop] at h
    rw [show off + 8 * (j + 1) = off + 8 * j + 8 by omega, show 8 * (j + 1) = 8 * j + 8 by omega]
    exact h
  · rw [leB_snoc, ← List.append_assoc, bv_append, hP, bv_byte p hp]
    exact hh1
  · exact hg.trans (hg1.before ((Below.refl _ _).alloc (Nat.le_refl _) _))

set_option maxHeartbeats 1000000 in
theorem bput_any (w : World) (base : Nat) (v : Value) (bs : List UInt8) (u : Value) (l : List Bool) (hv : Held w base v (bv bs)) (hbase : base ≤ w.heap.size) (hu : BRow w base u l) (hlen : bs.length ≤ 1000) (hl : l.length ≤ 1000) :
    Calls Tryd.prog 19 #[v, u] w fun e w' => ∃ v', e = .returned v' ∧ Held w' base v' (bv (bs ++ encR l)) ∧ Grew w v w' v' := by
  obtain ⟨i0, hi, hz0, hz1, hz2⟩ := info_parts Tryd.infoU8
  obtain ⟨ao, cap, b, off, rfl, hcap, hmax, hr⟩ := hu
  have HS := Lib.hid (show BPutRel w base v bs l b off v (.slice ao l.length cap) w from ⟨0, ao, l.length, cap, by omega, hcap, rfl, by simpa using hr, by simpa [leB] using hv, Grew.refl _ _⟩)
  obtain ⟨L, hL⟩ : ∃ L, L = l.length := ⟨_, rfl⟩
  rw [← hL] at hl hcap HS
  rw [← hL]
  have HL := Lib.hid hL
  clear hL hmax hr
  go_enter Tryd.func19, Tryd.ntmps19
  go_wp2_with fail
  go_loopw [0, 1] (fun c x wr => BPutRel w base v bs l b off c x wr) (fun _ x _ => lenOfS x)
  case atStart => exact HS.out
  case round =>
    clear HS hcap
    obtain ⟨j, ao', n', cap', hn, hc', rfl, hrow, hh, hg⟩ := hrel
    rw [← HL.out] at hn
    have hsz := hg.grown.size
    have hbl : (bv (bs ++ leB (rowN l) j)).length ≤ 2000 := by rw [bv_length, List.length_append, leB_length]; omega
    by_cases hlt : 8 ≤ n'
    · obtain rfl : ao' = some ⟨b, off + 8 * j, none⟩ := hrow.addr (by rw [List.length_drop, ← HL.out]; omega)
      have hblt := hrow.lt (by rw [List.length_drop, ← HL.out]; omega)
      have d1 : (8 : Int) ≤ (n' : Int) := by omega
      have HN := Lib.hid hn
      have HP := Lib.hid (rowN_step l j (by rw [← HL.out]; omega))
      obtain ⟨p, hp⟩ : ∃ p, p = packN ((l.drop (8 * j)).take 8) := ⟨_, rfl⟩
      have hpack := fun c => pack_any wr base (some ⟨b, off + 8 * j, none⟩) 8 b (off + 8 * j) c _ (by rw [List.length_take, List.length_drop, ← HL.out]; omega) (by rw [List.length_take]; omega) (hrow.take 8)
      rw [← hp] at hpack HP
      have hp256 : p < 256 := by rw [← HP.out]; exact Nat.mod_lt _ (by omega)
      have HK := Lib.hid hpack
      clear hpack hp hn
      by_cases h8 : cap' = 8
      · subst h8
        go_wp2_with fail
        refine (HK.out 8).mono ?_
        rintro e w' ⟨rfl, rfl⟩
        go_wp2_with (at_builtin; refine wpList_append_held rfl _ _ 40 40 rfl rfl (hh.alloc _) 5 i0 (.int .u8 0) 1 Tryd.underlying40 hi hz0 hz1 hz2 rfl _ rfl 1 [.int .u8 (p : Int)] (src_one _ 5 40 Tryd.underlying40 _ rfl) ?c2 ?c3 ?c4 ?_)
        case c2 => unfold maxLen; omega
        case c3 => omega
        case c4 => simp; omega
        intro v1 w1 hh1 hg1
        have HE := Lib.hid (bput_round (n := n') (cap := 8) (a1 := some ⟨b, off + 8 * j, none⟩) (by rw [← HL.out]; exact HN.out) hlt hc' hp256 HP.out (fun h => by omega) (by omega) hrow hh hg hh1 hg1)
        clear hh1 hg1 hh hg hrow
        go_wp2
        go_roundw
        case rel => have h := HE.out; rw [show n' - 8 = 0 by omega] at h; exact h
        case measure => simp [lenOfS]; omega
      · have h8' : ¬ (cap' = 0) := by omega
        go_wp2_with fail
        refine (HK.out cap').mono ?_
        rintro e w' ⟨rfl, rfl⟩
        go_wp2_with (at_builtin; refine wpList_append_held rfl _ _ 40 40 rfl rfl (hh.alloc _) 5 i0 (.int .u8 0) 1 Tryd.underlying40 hi hz0 hz1 hz2 rfl _ rfl 1 [.int .u8 (p : Int)] (src_one _ 5 40 Tryd.underlying40 _ rfl) ?d2 ?d3 ?d4 ?_)
        case d2 => unfold maxLen; omega
        case d3 => omega
        case d4 => simp; omega
        intro v1 w1 hh1 hg1
        have HE := Lib.hid (bput_round (n := n') (cap := cap') (a1 := some ⟨b, off + 8 * j + 8, none⟩) (by rw [← HL.out]; exact HN.out) hlt hc' hp256 HP.out (fun h => rfl) (by omega) hrow hh hg hh1 hg1)
        clear HK hh1 hg1 hh hg hrow
        go_wp2
        go_roundw
        case rel => exact HE.out
        case measure => simp [lenOfS]; omega
    · have d1 : ¬ (8 : Int) ≤ (n' : Int) := by omega
      have hq := packN_lt (l.drop (8 * j))
      have hP := rowN_last l j (by rw [← HL.out]; omega) (by rw [← HL.out]; omega)
      have hpack := turned_call (pack_any wr.drew base ao' n' b (off + 8 * j) cap' _ (by rw [List.length_drop, ← HL.out]; omega) (by rw [List.length_drop, ← HL.out]; omega) (hrow.keep (Below.refl _ _).drew))
      obtain ⟨q, hqe⟩ : ∃ q, q = packN (l.drop (8 * j)) := ⟨_, rfl⟩
      rw [← hqe] at hpack hq hP
      rw [List.length_drop, ← HL.out, show L - 8 * j = n' by omega] at hq
      rw [← HL.out, show L - 8 * j = n' by omega] at hP
      have HO := Lib.hid (or_wrap q n' (by omega) hq)
      obtain ⟨p, hp⟩ : ∃ p, p = q + 2 ^ n' := ⟨_, rfl⟩
      rw [← hp] at HO hP
      have hp256 : p < 256 := by rw [← hP]; exact Nat.mod_lt _ (by omega)
      have HP := Lib.hid hP
      have HJ := Lib.hid (show L / 8 = j by omega)
      have HK := Lib.hid hpack
      clear hpack hq hqe hp hP hn
      go_wp2_with fail
      refine wp_region_any (by kernel_rfl) ?_
      try (change wpAny _ _ _ _ _ _ _ (World.drew _))
      have hh2 := hh.drew
      have hb2 : Below wr.heap.size wr wr.drew := (Below.refl _ _).drew
      have HK2 := HK
      generalize wr.drew = w2 at hh2 hb2 HK2 ⊢
      have hs2 := hb2.size
      refine wpAny_take (i := 0) (v := ?_) rfl (by kernel_rfl) (by kernel_rfl) (by kernel_rfl) (fun _ _ _ h => h) (Or.inl ⟨by rfl, ?_⟩) ?_
      rotate_left
      · intro w
        go_simp
        try with_reducible rfl
      simp only [Act.put, List.getElem_toArray, List.getElem_cons_succ, List.getElem_cons_zero, List.setIfInBounds_toArray, List.set_cons_zero, List.set_cons_succ]
      refine wpAny_take (i := 1) (v := ?_) rfl (by kernel_rfl) (by kernel_rfl) (by kernel_rfl) (fun _ _ _ h => h) (Or.inl ⟨by rfl, ?_⟩) ?_
      rotate_left
      · intro w
        go_simp
        try with_reducible rfl
      simp only [Act.put, List.getElem_toArray, List.getElem_cons_succ, List.getElem_cons_zero, List.setIfInBounds_toArray, List.set_cons_zero, List.set_cons_succ]
      refine wpAny_take (i := 3) (v := ?_) rfl (by kernel_rfl) (by kernel_rfl) (by kernel_rfl) (fun _ _ _ h => h) (Or.inl ⟨by rfl, ?_⟩) ?_
      rotate_left
      · intro w
        go_simp
        try with_reducible rfl
      simp only [Act.put, List.getElem_toArray, List.getElem_cons_succ, List.getElem_cons_zero, List.setIfInBounds_toArray, List.set_cons_zero, List.set_cons_succ]
      refine wpAny_take (i := 4) (v := ?_) rfl (by kernel_rfl) (by kernel_rfl) (by kernel_rfl) (fun _ _ _ h => h) (Or.inl ⟨by rfl, ?_⟩) ?_
      rotate_left
      · intro w
        go_simp
        try with_reducible rfl
      simp only [Act.put, List.getElem_toArray, List.getElem_cons_succ, List.getElem_cons_zero, List.setIfInBounds_toArray, List.set_cons_zero, List.set_cons_succ]
      refine wpAny_take (i := 5) (v := ?_) rfl (by kernel_rfl) (by kernel_rfl) (by kernel_rfl) (fun _ _ _ h => h) (Or.inl ⟨by rfl, ?_⟩) ?_
      rotate_left
      · intro w
        go_simp
        try with_reducible rfl
      simp only [Act.put, List.getElem_toArray, List.getElem_cons_succ, List.getElem_cons_zero, List.setIfInBounds_toArray, List.set_cons_zero, List.set_cons_succ]
      refine wpAny_ready (rs := [2]) (by kernel_rfl) (by simp) ?_
      refine AllReady.cons rfl (fun K hK => ?_) ?_
      · go_simp
        refine HK2.out.mono ?_
        rintro e w' ⟨rfl, rfl⟩
        refine hK _ _ ?_
        clear hK K
        try simp only [Act.put, List.getElem_toArray, List.getElem_cons_succ, List.getElem_cons_zero, List.setIfInBounds_toArray, List.set_cons_zero, List.set_cons_succ]
        refine wpAny_take (i := 6) (v := ?_) rfl (by kernel_rfl) (by kernel_rfl) (by kernel_rfl) (fun _ _ _ h => h) (Or.inl ⟨by rfl, ?_⟩) ?_
        rotate_left
        · intro w
          go_simp
          try with_reducible rfl
        simp only [Act.put, List.getElem_toArray, List.getElem_cons_succ, List.getElem_cons_zero, List.setIfInBounds_toArray, List.set_cons_zero, List.set_cons_succ]
        refine wpAny_ready (rs := [7]) (by kernel_rfl) (by simp) ?_
        refine AllReady.cons rfl (fun K hK => ?_) ?_
        · go_simp
          refine hK _ _ ?_
          clear hK K
          try simp only [Act.put, List.getElem_toArray, List.getElem_cons_succ, List.getElem_cons_zero, List.setIfInBounds_toArray, List.set_cons_zero, List.set_cons_succ]
          rw [HO.out]
          refine wpAny_ready (rs := [8]) (by kernel_rfl) (by simp) ?_
          refine AllReady.cons rfl (fun K hK => ?_) AllReady.nil
          refine step_append_held rfl (.tmp 16) (.tmp 23) 40 40 rfl rfl (hh2.alloc _) 5 i0 (.int .u8 0) 1 Tryd.underlying40 hi hz0 hz1 hz2 rfl _ rfl 1 [.int .u8 (p : Int)] (src_one _ 5 40 Tryd.underlying40 _ rfl) (by unfold maxLen; omega) (by omega) (by simp; omega) ?_
          intro v1 w1 hh1 hg1
          refine hK _ _ ?_
          clear hK K
          simp only [Act.put, List.getElem_toArray, List.getElem_cons_succ, List.getElem_cons_zero, List.setIfInBounds_toArray, List.set_cons_zero, List.set_cons_succ]
          refine wpAny_take (i := 9) (v := ?_) rfl (by kernel_rfl) (by kernel_rfl) (by kernel_rfl) (fun _ _ _ h => h) (Or.inl ⟨by rfl, ?_⟩) ?_
          rotate_left
          · intro w
            go_simp
            try with_reducible rfl
          simp only [Act.put, List.getElem_toArray, List.getElem_cons_succ, List.getElem_cons_zero, List.setIfInBounds_toArray, List.set_cons_zero, List.set_cons_succ]
          refine wpAny_done (by kernel_rfl) ?_ _
          go_wp2
          go_ret
          refine ⟨_, rfl, ?_, hg.trans (hg1.before (hb2.alloc hs2 _))⟩
          unfold encR
          rw [← HL.out, HJ.out, leB_snoc, ← List.append_assoc, bv_append, HP.out, bv_byte p hp256]
          exact hh1
        exact AllReady.nil
      exact AllReady.nil

end Go.Proofs.YtickcajihaejkaaDoor
