/-
  The texts BPut, BMore, MsgMem, MsgSet, MsgBuild, one behind the other.
-/
import Derived.Test.YtnbdpalbompjlaaDoorBPack
import Derived.Deep.RegionWith
import Derived.Test.YtnbdpalbompjlaaDoorM1
import Derived.Test.YtnbdpalbompjlaaDoorM7
import Derived.Test.YtnbdpalbompjlaaDoorM2
import Derived.Laws.ResultCell
import Derived.Test.YtnbdpalbompjlaaDoorM4
/-
  What bitlist.Put does.
-/
namespace Go.Proofs.YtnbdpalbompjlaaDoor
open Go.RowKit
set_option maxRecDepth 10000
set_option linter.unusedSimpArgs false

theorem Tryd.infoU8 : (Tryd.prog.info? 5).map (fun i => (i.zero, i.size, i.bytes)) = some (some (.int .u8 0), 1, 1) := by kernel_rfl

theorem turned_call {P : Program} {f : Nat} {args : Array Value} {w : World} {v : Value} (h : Calls P f args w fun e w' => e = .returned v ∧ w = w') : Calls P f args w fun e w' => e = .returned v ∧ w' = w :=
  h.mono fun _ _ ⟨a, b⟩ => ⟨a, b.symm⟩

/-- One cell that was just built, as append's source. -/
theorem src_one {P : Program} (w : World) (e t : TypeId) (ht : P.underlying t = some (.slice e)) (u : Value) (h1 : u.oneCell' = true) : Src P 1 t (.slice (some ⟨w.heap.size, 0, none⟩) 1 1) 1 [u] (w.alloc (.cells #[u] e)) := by
  refine Src.ofSlice _ ht _ 1 1 _ rfl ?_ ?_
  · intro i x hi
    match i, hi with
    | 0, hi => simp at hi; subst hi; simp [Addr.add]
  · intro x hx; simp at hx; subst hx; exact h1

theorem bv_byte (c : Nat) (h : c < 256) : bv [UInt8.ofNat c] = [.int .u8 (c : Int)] := by simp [bv, Nat.mod_eq_of_lt h]

/-- Put's relation: j bytes are put, and so many times eight of the row are cut off. -/
def BPutRel (w : World) (base : Nat) (v : Value) (bs : List UInt8) (l : List Bool) (b off : Nat) (c x : Value) (wr : World) : Prop :=
  ∃ (j : Nat) (ao : Option Addr) (n cap : Nat), 8 * j + n = l.length ∧ n ≤ cap ∧ x = .slice ao n cap ∧ BRowAt wr base ao b (off + 8 * j) (l.drop (8 * j)) ∧ Held wr base c (bv (bs ++ leB (rowN l) j)) ∧ Grew w v wr c

def lenOfS : Value → Nat
  | .slice _ n _ => n
  | _ => 0

theorem or_wrap (p k : Nat) (hk : k < 8) (hp : p < 2 ^ k) : bits BinOp.or IntKind.u8 (p : Int) (IntKind.u8.wrap ((2 : Int) ^ k)) = ((p + 2 ^ k : Nat) : Int) := by
  rw [IntKind.wrap_u8]; exact or_step p k hk hp

theorem bput_round {w : World} {base : Nat} {v : Value} {bs : List UInt8} {l : List Bool} {b off j p n cap : Nat} {wr w1 : World} {u0 v1 : Value} {a0 a1 : Option Addr} {o : Obj} (hn : 8 * j + n = l.length) (hlt : 8 ≤ n) (hc : n ≤ cap) (hp : p < 256) (hP : rowN l / 256 ^ j % 256 = p)
    (ha : 8 < n → a1 = some ⟨b, off + 8 * j + 8, none⟩) (hbase : base ≤ wr.heap.size) (hrow : BRowAt wr base a0 b (off + 8 * j) (l.drop (8 * j))) (hh : Held wr base u0 (bv (bs ++ leB (rowN l) j))) (hg : Grew w v wr u0)
    (hh1 : Held w1 base v1 (bv (bs ++ leB (rowN l) j) ++ [.int .u8 (p : Int)])) (hg1 : Grew (wr.alloc o) u0 w1 v1) : BPutRel w base v bs l b off v1 (.slice a1 (n - 8) (cap - 8)) w1 := by
  refine ⟨j + 1, a1, n - 8, cap - 8, by omega, by omega, rfl, ?_, ?_, ?_⟩
  · have hb : Below base wr w1 := ((Below.refl _ _).alloc hbase o).trans (hg1.below (hh.alloc o) (by simp; omega))
    have h := (hrow.keep hb).drop 8 (ao' := a1) (fun h => ha (by rw [List.length_drop] at h; omega))
    rw [List.drop_drop] at h
    rw [show off + 8 * (j + 1) = off + 8 * j + 8 by omega, show 8 * (j + 1) = 8 * j + 8 by omega]
    exact h
  · rw [leB_snoc, ← List.append_assoc, bv_append, hP, bv_byte p hp]
    exact hh1
  · exact hg.trans (hg1.before ((Below.refl _ _).alloc (Nat.le_refl _) _))

set_option maxHeartbeats 1000000 in
theorem bput_any (w : World) (base : Nat) (v : Value) (bs : List UInt8) (u : Value) (l : List Bool) (hv : Held w base v (bv bs)) (hbase : base ≤ w.heap.size) (hu : BRow w base u l) (hlen : bs.length ≤ 1000) (hl : l.length ≤ 1000) :
    Calls Tryd.prog 54 #[v, u] w fun e w' => ∃ v', e = .returned v' ∧ Held w' base v' (bv (bs ++ encR l)) ∧ Grew w v w' v' := by
  obtain ⟨i0, hi, hz0, hz1, hz2⟩ := info_parts Tryd.infoU8
  obtain ⟨ao, cap, b, off, rfl, hcap, hmax, hr⟩ := hu
  have HS := Lib.hid (show BPutRel w base v bs l b off v (.slice ao l.length cap) w from ⟨0, ao, l.length, cap, by omega, hcap, rfl, by simpa using hr, by simpa [leB] using hv, Grew.refl _ _⟩)
  obtain ⟨L, hL⟩ : ∃ L, L = l.length := ⟨_, rfl⟩
  rw [← hL] at hl hcap HS
  rw [← hL]
  have HL := Lib.hid hL
  clear hL hmax hr
  go_enter Tryd.func54, Tryd.ntmps54
  go_wp2_with fail
  go_loopw [0, 1] (fun c x wr => BPutRel w base v bs l b off c x wr) (fun _ x _ => lenOfS x)
  case atStart => exact HS.out
  case round =>
    clear HS hcap
    obtain ⟨j, ao', n', cap', hn, hc', rfl, hrow, hh, hg⟩ := hrel
    rw [← HL.out] at hn
    have hsz := hg.grown.size
    have hbl : (bv (bs ++ leB (rowN l) j)).length ≤ 2000 := by rw [bv_length, List.length_append, leB_length]; omega
    by_cases hlt : 8 ≤ n'
    · obtain rfl : ao' = some ⟨b, off + 8 * j, none⟩ := hrow.addr (by rw [List.length_drop, ← HL.out]; omega)
      have hblt := hrow.lt (by rw [List.length_drop, ← HL.out]; omega)
      have d1 : (8 : Int) ≤ (n' : Int) := by omega
      have HN := Lib.hid hn
      have HP := Lib.hid (rowN_step l j (by rw [← HL.out]; omega))
      obtain ⟨p, hp⟩ : ∃ p, p = packN ((l.drop (8 * j)).take 8) := ⟨_, rfl⟩
      have hpack := fun c => pack_any wr base (some ⟨b, off + 8 * j, none⟩) 8 b (off + 8 * j) c _ (by rw [List.length_take, List.length_drop, ← HL.out]; omega) (by rw [List.length_take]; omega) (hrow.take 8)
      rw [← hp] at hpack HP
      have hp256 : p < 256 := by rw [← HP.out]; exact Nat.mod_lt _ (by omega)
      have HK := Lib.hid hpack
      clear hpack hp hn
      by_cases h8 : cap' = 8
      · subst h8
        go_wp2_with fail
        refine (HK.out 8).mono ?_
        rintro e w' ⟨rfl, rfl⟩
        go_wp2_with (at_builtin; refine wpList_append_held rfl _ _ 86 86 rfl rfl (hh.alloc _) 5 i0 (.int .u8 0) 1 Tryd.underlying86 hi hz0 hz1 hz2 rfl _ rfl 1 [.int .u8 (p : Int)] (src_one _ 5 86 Tryd.underlying86 _ rfl) ?c2 ?c3 ?c4 ?_)
        case c2 => unfold maxLen; omega
        case c3 => omega
        case c4 => simp; omega
        intro v1 w1 hh1 hg1
        have HE := Lib.hid (bput_round (n := n') (cap := 8) (a1 := some ⟨b, off + 8 * j, none⟩) (by rw [← HL.out]; exact HN.out) hlt hc' hp256 HP.out (fun h => by omega) (by omega) hrow hh hg hh1 hg1)
        clear hh1 hg1 hh hg hrow
        go_wp2
        go_roundw
        case rel => have h := HE.out; rw [show n' - 8 = 0 by omega] at h; exact h
        case measure => simp [lenOfS]; omega
      · have h8' : ¬ (cap' = 0) := by omega
        go_wp2_with fail
        refine (HK.out cap').mono ?_
        rintro e w' ⟨rfl, rfl⟩
        go_wp2_with (at_builtin; refine wpList_append_held rfl _ _ 86 86 rfl rfl (hh.alloc _) 5 i0 (.int .u8 0) 1 Tryd.underlying86 hi hz0 hz1 hz2 rfl _ rfl 1 [.int .u8 (p : Int)] (src_one _ 5 86 Tryd.underlying86 _ rfl) ?d2 ?d3 ?d4 ?_)
        case d2 => unfold maxLen; omega
        case d3 => omega
        case d4 => simp; omega
        intro v1 w1 hh1 hg1
        have HE := Lib.hid (bput_round (n := n') (cap := cap') (a1 := some ⟨b, off + 8 * j + 8, none⟩) (by rw [← HL.out]; exact HN.out) hlt hc' hp256 HP.out (fun h => rfl) (by omega) hrow hh hg hh1 hg1)
        clear HK hh1 hg1 hh hg hrow
        go_wp2
        go_roundw
        case rel => exact HE.out
        case measure => simp [lenOfS]; omega
    · have d1 : ¬ (8 : Int) ≤ (n' : Int) := by omega
      have hq := packN_lt (l.drop (8 * j))
      have hP := rowN_last l j (by rw [← HL.out]; omega) (by rw [← HL.out]; omega)
      have hpack := turned_call (pack_any wr.drew base ao' n' b (off + 8 * j) cap' _ (by rw [List.length_drop, ← HL.out]; omega) (by rw [List.length_drop, ← HL.out]; omega) (hrow.keep (Below.refl _ _).drew))
      obtain ⟨q, hqe⟩ : ∃ q, q = packN (l.drop (8 * j)) := ⟨_, rfl⟩
      rw [← hqe] at hpack hq hP
      rw [List.length_drop, ← HL.out, show L - 8 * j = n' by omega] at hq
      rw [← HL.out, show L - 8 * j = n' by omega] at hP
      have HO := Lib.hid (or_wrap q n' (by omega) hq)
      obtain ⟨p, hp⟩ : ∃ p, p = q + 2 ^ n' := ⟨_, rfl⟩
      rw [← hp] at HO hP
      have hp256 : p < 256 := by rw [← hP]; exact Nat.mod_lt _ (by omega)
      have HP := Lib.hid hP
      have HJ := Lib.hid (show L / 8 = j by omega)
      have HK := Lib.hid hpack
      clear hpack hq hqe hp hP hn
      go_wp2_with fail
      refine wp_region_any (by kernel_rfl) ?_
      try (change wpAny _ _ _ _ _ _ _ (World.drew _))
      have hh2 := hh.drew
      have hb2 : Below wr.heap.size wr wr.drew := (Below.refl _ _).drew
      have HK2 := HK
      generalize wr.drew = w2 at hh2 hb2 HK2 ⊢
      have hs2 := hb2.size
      refine wpAny_take (i := 0) (v := ?_) rfl (by kernel_rfl) (by kernel_rfl) (by kernel_rfl) (fun _ _ _ h => h) (Or.inl ⟨by rfl, ?_⟩) ?_
      rotate_left
      · intro w
        go_simp
        try with_reducible rfl
      simp only [Act.put, List.getElem_toArray, List.getElem_cons_succ, List.getElem_cons_zero, List.setIfInBounds_toArray, List.set_cons_zero, List.set_cons_succ]
      refine wpAny_take (i := 1) (v := ?_) rfl (by kernel_rfl) (by kernel_rfl) (by kernel_rfl) (fun _ _ _ h => h) (Or.inl ⟨by rfl, ?_⟩) ?_
      rotate_left
      · intro w
        go_simp
        try with_reducible rfl
      simp only [Act.put, List.getElem_toArray, List.getElem_cons_succ, List.getElem_cons_zero, List.setIfInBounds_toArray, List.set_cons_zero, List.set_cons_succ]
      refine wpAny_take (i := 3) (v := ?_) rfl (by kernel_rfl) (by kernel_rfl) (by kernel_rfl) (fun _ _ _ h => h) (Or.inl ⟨by rfl, ?_⟩) ?_
      rotate_left
      · intro w
        go_simp
        try with_reducible rfl
      simp only [Act.put, List.getElem_toArray, List.getElem_cons_succ, List.getElem_cons_zero, List.setIfInBounds_toArray, List.set_cons_zero, List.set_cons_succ]
      refine wpAny_take (i := 4) (v := ?_) rfl (by kernel_rfl) (by kernel_rfl) (by kernel_rfl) (fun _ _ _ h => h) (Or.inl ⟨by rfl, ?_⟩) ?_
      rotate_left
      · intro w
        go_simp
        try with_reducible rfl
      simp only [Act.put, List.getElem_toArray, List.getElem_cons_succ, List.getElem_cons_zero, List.setIfInBounds_toArray, List.set_cons_zero, List.set_cons_succ]
      refine wpAny_take (i := 5) (v := ?_) rfl (by kernel_rfl) (by kernel_rfl) (by kernel_rfl) (fun _ _ _ h => h) (Or.inl ⟨by rfl, ?_⟩) ?_
      rotate_left
      · intro w
        go_simp
        try with_reducible rfl
      simp only [Act.put, List.getElem_toArray, List.getElem_cons_succ, List.getElem_cons_zero, List.setIfInBounds_toArray, List.set_cons_zero, List.set_cons_succ]
      refine wpAny_ready (rs := [2]) (by kernel_rfl) (by simp) ?_
      refine AllReady.cons rfl (fun K hK => ?_) ?_
      · go_simp
        refine HK2.out.mono ?_
        rintro e w' ⟨rfl, rfl⟩
        refine hK _ _ ?_
        clear hK K
        try simp only [Act.put, List.getElem_toArray, List.getElem_cons_succ, List.getElem_cons_zero, List.setIfInBounds_toArray, List.set_cons_zero, List.set_cons_succ]
        refine wpAny_take (i := 6) (v := ?_) rfl (by kernel_rfl) (by kernel_rfl) (by kernel_rfl) (fun _ _ _ h => h) (Or.inl ⟨by rfl, ?_⟩) ?_
        rotate_left
        · intro w
          go_simp
          try with_reducible rfl
        simp only [Act.put, List.getElem_toArray, List.getElem_cons_succ, List.getElem_cons_zero, List.setIfInBounds_toArray, List.set_cons_zero, List.set_cons_succ]
        refine wpAny_ready (rs := [7]) (by kernel_rfl) (by simp) ?_
        refine AllReady.cons rfl (fun K hK => ?_) ?_
        · go_simp
          refine hK _ _ ?_
          clear hK K
          try simp only [Act.put, List.getElem_toArray, List.getElem_cons_succ, List.getElem_cons_zero, List.setIfInBounds_toArray, List.set_cons_zero, List.set_cons_succ]
          rw [HO.out]
          refine wpAny_ready (rs := [8]) (by kernel_rfl) (by simp) ?_
          refine AllReady.cons rfl (fun K hK => ?_) AllReady.nil
          refine step_append_held rfl (.tmp 16) (.tmp 23) 86 86 rfl rfl (hh2.alloc _) 5 i0 (.int .u8 0) 1 Tryd.underlying86 hi hz0 hz1 hz2 rfl _ rfl 1 [.int .u8 (p : Int)] (src_one _ 5 86 Tryd.underlying86 _ rfl) (by unfold maxLen; omega) (by omega) (by simp; omega) ?_
          intro v1 w1 hh1 hg1
          refine hK _ _ ?_
          clear hK K
          simp only [Act.put, List.getElem_toArray, List.getElem_cons_succ, List.getElem_cons_zero, List.setIfInBounds_toArray, List.set_cons_zero, List.set_cons_succ]
          refine wpAny_take (i := 9) (v := ?_) rfl (by kernel_rfl) (by kernel_rfl) (by kernel_rfl) (fun _ _ _ h => h) (Or.inl ⟨by rfl, ?_⟩) ?_
          rotate_left
          · intro w
            go_simp
            try with_reducible rfl
          simp only [Act.put, List.getElem_toArray, List.getElem_cons_succ, List.getElem_cons_zero, List.setIfInBounds_toArray, List.set_cons_zero, List.set_cons_succ]
          refine wpAny_done (by kernel_rfl) ?_ _
          go_wp2
          go_ret
          refine ⟨_, rfl, ?_, hg.trans (hg1.before (hb2.alloc hs2 _))⟩
          unfold encR
          rw [← HL.out, HJ.out, leB_snoc, ← List.append_assoc, bv_append, HP.out, bv_byte p hp256]
          exact hh1
        exact AllReady.nil
      exact AllReady.nil

end Go.Proofs.YtnbdpalbompjlaaDoor

/-
  Rows of yes and no: what append reads of them, rows that were made, bytes as a text.
-/
namespace Go.Proofs.YtnbdpalbompjlaaDoor
open Go.RowKit
set_option maxRecDepth 10000

def bstr (l : List UInt8) : ByteArray := ⟨l.toArray⟩
theorem bstr_size (l : List UInt8) : (bstr l).size = l.length := by simp [bstr, ByteArray.size]
theorem bstr_toList (l : List UInt8) : (bstr l).data.toList = l := by simp [bstr]
theorem bstr_self (s : ByteArray) : bstr s.data.toList = s := by apply ByteArray.ext; simp [bstr]

theorem BMade.row {w : World} {g : Nat} {l : List Bool} (h : BMade w g l) (hl : l.length ≤ 1000) : BRow w w.heap.size (.slice (some ⟨g, 0, none⟩) l.length l.length) l :=
  (h.held (base := g) (Nat.le_refl _) (by unfold maxLen; omega)).brow

theorem BMade.keep {w w' : World} {g : Nat} {l : List Bool} (h : BMade w g l) (hb : Below w.heap.size w w') : BMade w' g l :=
  ⟨Nat.lt_of_lt_of_le h.lt hb.size, fun j x hj => (hb.cell (p := ⟨g, j, none⟩) h.lt).trans (h.cells j x hj), fun j hj => (hb.frozen (p := ⟨g, j, none⟩) h.lt).trans (h.free j hj)⟩

theorem ov_one (l : List Bool) : ∀ u ∈ ov l, u.oneCell' = true := by
  intro u hu
  rw [ov, List.mem_map] at hu
  obtain ⟨x, _, rfl⟩ := hu
  rfl

/-- A row as append's source. -/
theorem BRow.src {P : Program} {w : World} {B : Nat} {ao : Option Addr} {n cap : Nat} {l : List Bool} (h : BRow w B (.slice ao n cap) l) (t e : TypeId) (ht : P.underlying t = some (.slice e)) : Src P 1 t (.slice ao n cap) n (ov l) w := by
  obtain ⟨ao', cap', b, off, he, hc, hm, h⟩ := h
  cases he
  by_cases h0 : l.length = 0
  · obtain rfl : l = [] := List.eq_nil_of_length_eq_zero h0
    cases ao with
    | none => exact Src.ofNil w ht cap
    | some a => exact Src.ofSlice w ht a 0 cap [] rfl (fun j u hj => by simp at hj) (fun u hu => by simp at hu)
  · have ha := h.addr (by omega)
    subst ha
    refine Src.ofSlice w ht ⟨b, off, none⟩ _ cap (ov l) (by rw [ov_length, Nat.mul_one]) (fun j u hj => ?_) (ov_one l)
    rw [ov, List.getElem?_map] at hj
    cases hx : l[j]? with
    | none => rw [hx] at hj; cases hj
    | some x => rw [hx] at hj; cases hj; rw [Addr.add_lit]; exact h.cells j x hx

theorem HeldAt.set {w : World} {base n cap g off : Nat} {ao : Option Addr} {xs : List Value} (h : HeldAt w base n cap g off ao xs) (j : Nat) (hj : j < n) (u : Value) : HeldAt (w.setCell ⟨g, off + j, none⟩ u) base n cap g off ao (xs.set j u) := by
  have hlen := h.len
  obtain ⟨y, hy⟩ : ∃ y, xs[j]? = some y := ⟨_, List.getElem?_eq_getElem (by omega)⟩
  refine ⟨by rw [List.length_set]; exact hlen, h.le, h.max, h.addr, h.own, fun hc => by simpa using h.lt hc, fun i z hi => ?_, fun i hi => ?_, fun i hi => ?_⟩
  · by_cases e : i = j
    · subst e
      rw [List.getElem?_set_self (by omega)] at hi
      cases hi
      exact World.cell?_setCell_same _ _ _ (h.cells i y hy)
    · rw [List.getElem?_set_ne (by omega)] at hi
      rw [World.cell?_setCell_other _ _ _ _ (by intro e'; injection e' with _ e'; omega)]
      exact h.cells i z hi
  · by_cases e : i = j
    · subst e
      rw [World.cell?_setCell_same _ _ _ (h.cells i y hy)]; rfl
    · rw [World.cell?_setCell_other _ _ _ _ (by intro e'; injection e' with _ e'; omega)]
      exact h.room i hi
  · rw [World.frozen?_setCell]; exact h.free i hi

theorem ov_append (l r : List Bool) : ov (l ++ r) = ov l ++ ov r := by simp [ov]
theorem ov_set (l : List Bool) (j : Nat) (x : Bool) : (ov l).set j (.bool x) = ov (l.set j x) := by simp [ov, List.map_set]
theorem toList_ne {a b : ByteArray} (h : a ≠ b) : ¬ (a.toList = b.toList) := fun e => h (by apply ByteArray.ext; apply Array.ext'; rw [← ByteArray.toList_eq, ← ByteArray.toList_eq, e])
end Go.Proofs.YtnbdpalbompjlaaDoor

/-
  Messages as cells.
-/
namespace Go.Proofs.YtnbdpalbompjlaaDoor
open Go.RowKit
set_option maxRecDepth 10000

/-- A message's cells; sl: its Bits. -/
def mc (M : Msg) (sl : Value) : List Value := .int .i64 M.k :: .int .i64 M.s :: (bv M.T ++ (.int .i64 M.m :: .int .u64 M.b :: sl :: bv M.G))

theorem mc_length {M : Msg} (h : M.Fits) (sl : Value) : (mc M sl).length = 53 := by simp [mc, bv_length, h.T, h.G]
theorem mc_tail {M : Msg} (h : M.Fits) (sl : Value) (j : Nat) : (mc M sl)[34 + j]? = (Value.int .i64 M.m :: .int .u64 M.b :: sl :: bv M.G)[j]? := by
  rw [show 34 + j = (32 + j) + 1 + 1 by omega]
  simp only [mc, List.getElem?_cons_succ]
  rw [List.getElem?_append_right (by rw [bv_length, h.T]; omega), bv_length, h.T, show 32 + j - 32 = j by omega]
theorem mc_0 (M : Msg) (sl : Value) : (mc M sl)[0]? = some (.int .i64 M.k) := rfl
theorem mc_1 (M : Msg) (sl : Value) : (mc M sl)[1]? = some (.int .i64 M.s) := rfl
theorem mc_34 {M : Msg} (h : M.Fits) (sl : Value) : (mc M sl)[34]? = some (.int .i64 M.m) := mc_tail h sl 0
theorem mc_35 {M : Msg} (h : M.Fits) (sl : Value) : (mc M sl)[35]? = some (.int .u64 M.b) := mc_tail h sl 1
theorem mc_36 {M : Msg} (h : M.Fits) (sl : Value) : (mc M sl)[36]? = some sl := mc_tail h sl 2
theorem mc_T {M : Msg} (sl : Value) (j : Nat) (v : Value) (hj : (bv M.T)[j]? = some v) : (mc M sl)[2 + j]? = some v := by
  rw [show 2 + j = j + 1 + 1 by omega]
  simp only [mc, List.getElem?_cons_succ]
  rw [List.getElem?_append_left (List.getElem?_eq_some_iff.1 hj).1]
  exact hj
theorem mc_G {M : Msg} (h : M.Fits) (sl : Value) (j : Nat) (v : Value) (hj : (bv M.G)[j]? = some v) : (mc M sl)[37 + j]? = some v := by
  rw [show 37 + j = 34 + (j + 3) by omega, mc_tail h sl (j + 3)]
  exact hj
theorem mc_one {M : Msg} {sl : Value} (hs : sl.oneCell' = true) : ∀ v ∈ mc M sl, v.oneCell' = true := by
  intro v hv
  simp only [mc, List.mem_cons, List.mem_append] at hv
  rcases hv with rfl | rfl | h | rfl | rfl | rfl | h
  · rfl
  · rfl
  · exact bv_one _ v h
  · rfl
  · rfl
  · exact hs
  · exact bv_one _ v h

/-- A message that lies in block g. -/
def MsgAt (w : World) (g : Nat) (M : Msg) (sl : Value) : Prop := Blk w g 32 (mc M sl)

/-- Its one-cell parts. -/
theorem Blk.msg {w : World} {g : Nat} {M : Msg} {sl : Value} (h : Blk w g 32 (mc M sl)) (hf : M.Fits) :
    w.cell? ⟨g, 0, none⟩ = some (.int .i64 M.k) ∧ w.cell? ⟨g, 1, none⟩ = some (.int .i64 M.s) ∧ w.cell? ⟨g, 34, none⟩ = some (.int .i64 M.m) ∧ w.cell? ⟨g, 35, none⟩ = some (.int .u64 M.b) ∧ w.cell? ⟨g, 36, none⟩ = some sl :=
  ⟨(h.cell 0).trans (mc_0 M sl), (h.cell 1).trans (mc_1 M sl), (h.cell 34).trans (mc_34 hf sl), (h.cell 35).trans (mc_35 hf sl), (h.cell 36).trans (mc_36 hf sl)⟩

theorem Blk.msgAll {w : World} {g : Nat} {t : TypeId} {cs : List Value} (h : Blk w g t cs) : ∀ j v, cs[j]? = some v → w.cell? ⟨g, 0 + j, none⟩ = some v := fun j v hj => by rw [Nat.zero_add]; exact (h.cell j).trans hj

theorem Tryd.sizeMsg : (Tryd.prog.info? 32).map (·.size) = some 53 := by kernel_rfl
theorem Tryd.aggMsg (w : World) : (isAgg 32).run Tryd.prog w = .ok true w := by
  unfold isAgg
  rw [Sem.run_bind, run_underlying Tryd.underlying32 w]
  rfl
theorem msg_size {M : Msg} (h : M.Fits) (sl : Value) : (Tryd.prog.info? 32).map (·.size) = some (mc M sl).length := by rw [mc_length h]; exact Tryd.sizeMsg

/-- A message out of memory. -/
theorem run_load_msg {w : World} {g : Nat} {M : Msg} {sl : Value} (h : Blk w g 32 (mc M sl)) (hf : M.Fits) :
    (Instr.loadAt 32 (.pointer (some ⟨g, 0, none⟩))).run Tryd.prog w = .ok (.agg (mc M sl).toArray) w :=
  run_loadAt_agg h.msgAll 32 Tryd.aggMsg (msg_size hf sl)

theorem wpList_load_msg {ops : Array Oper} {rest : List Oper} {o : Oper} {a : Act} {w : World} {Q : Exit → Act → World → Prop} (x : Operand) (ho : o.op = .load 32 x) (hgd : o.guard = none)
    (g : Nat) (M : Msg) (sl : Value) (hx : a.eval x = .pointer (some ⟨g, 0, none⟩)) (hg : Blk w g 32 (mc M sl)) (hf : M.Fits)
    (h : wpList Tryd.prog ops Q rest (a.put o.dst (.agg (mc M sl).toArray)) w) : wpList Tryd.prog ops Q (o :: rest) a w :=
  wpList_load_agg hgd 32 x ho g 0 (mc M sl) hx hg.msgAll Tryd.aggMsg (msg_size hf sl) h

/-- What a message's Bits read. -/
theorem BRow.bits {w w' : World} {sl : Value} {l : List Bool} (h : BRow w w.heap.size sl l) (hb : Below w.heap.size w w') : BRow w' w'.heap.size sl l := (h.keep hb).more hb.size
theorem BRow.form {w : World} {B : Nat} {sl : Value} {l : List Bool} (h : BRow w B sl l) : ∃ ao cap, sl = .slice ao l.length cap := by
  obtain ⟨ao, cap, b, off, rfl, _⟩ := h
  exact ⟨ao, cap, rfl⟩
theorem BRow.one {w : World} {B : Nat} {sl : Value} {l : List Bool} (h : BRow w B sl l) : sl.oneCell' = true := by
  obtain ⟨ao, cap, b, off, rfl, _⟩ := h
  rfl
end Go.Proofs.YtnbdpalbompjlaaDoor

/-
  Stores into messages that lie in memory.
-/
namespace Go.Proofs.YtnbdpalbompjlaaDoor
open Go.RowKit
set_option maxRecDepth 10000

theorem set_app {α : Type} (A R : List α) (j : Nat) (v : α) : (A ++ R).set (A.length + j) v = A ++ R.set j v := by
  rw [List.set_append_right _ _ (by omega), Nat.add_sub_cancel_left]
theorem mc_set0 (M : Msg) (sl : Value) (x : Int) : (mc M sl).set 0 (.int .i64 x) = mc { M with k := x } sl := rfl
theorem mc_set1 (M : Msg) (sl : Value) (x : Int) : (mc M sl).set 1 (.int .i64 x) = mc { M with s := x } sl := rfl
theorem mc_form (M : Msg) (sl : Value) : mc M sl = ([.int .i64 M.k, .int .i64 M.s] ++ bv M.T) ++ ([.int .i64 M.m, .int .u64 M.b, sl] ++ bv M.G) := by simp [mc]
theorem mc_len34 {M : Msg} (h : M.Fits) : ([Value.int .i64 M.k, .int .i64 M.s] ++ bv M.T).length = 34 := by simp [bv_length, h.T]
theorem mc_set34 {M : Msg} (h : M.Fits) (sl : Value) (x : Int) : (mc M sl).set 34 (.int .i64 x) = mc { M with m := x } sl := by
  rw [mc_form, mc_form]
  have := set_app ([Value.int .i64 M.k, .int .i64 M.s] ++ bv M.T) ([.int .i64 M.m, .int .u64 M.b, sl] ++ bv M.G) 0 (.int .i64 x)
  rw [mc_len34 h] at this
  exact this
theorem mc_set35 {M : Msg} (h : M.Fits) (sl : Value) (x : Nat) : (mc M sl).set 35 (.int .u64 x) = mc { M with b := x } sl := by
  rw [mc_form, mc_form]
  have := set_app ([Value.int .i64 M.k, .int .i64 M.s] ++ bv M.T) ([.int .i64 M.m, .int .u64 M.b, sl] ++ bv M.G) 1 (.int .u64 x)
  rw [mc_len34 h] at this
  exact this
theorem mc_set36 {M : Msg} (h : M.Fits) (sl sl' : Value) (l : List Bool) : (mc M sl).set 36 sl' = mc { M with l := l } sl' := by
  rw [mc_form, mc_form]
  have := set_app ([Value.int .i64 M.k, .int .i64 M.s] ++ bv M.T) ([.int .i64 M.m, .int .u64 M.b, sl] ++ bv M.G) 2 sl'
  rw [mc_len34 h] at this
  exact this
theorem bv_setM (l : List UInt8) (j : Nat) (c : UInt8) : (bv l).set j (.int .u8 (c.toNat : Int)) = bv (l.set j c) := by simp [bv, List.map_set]
theorem mc_setT {M : Msg} (h : M.Fits) (sl : Value) (j : Nat) (hj : j < 32) (c : UInt8) : (mc M sl).set (2 + j) (.int .u8 (c.toNat : Int)) = mc { M with T := M.T.set j c } sl := by
  unfold mc
  rw [show 2 + j = j + 1 + 1 by omega, List.set_cons_succ, List.set_cons_succ, List.set_append_left _ _ (by rw [bv_length, h.T]; exact hj), bv_setM]
theorem mc_setG {M : Msg} (h : M.Fits) (sl : Value) (j : Nat) (c : UInt8) : (mc M sl).set (37 + j) (.int .u8 (c.toNat : Int)) = mc { M with G := M.G.set j c } sl := by
  rw [mc_form, mc_form]
  have := set_app ([Value.int .i64 M.k, .int .i64 M.s] ++ bv M.T) ([.int .i64 M.m, .int .u64 M.b, sl] ++ bv M.G) (3 + j) (.int .u8 (c.toNat : Int))
  rw [mc_len34 h, show 34 + (3 + j) = 37 + j by omega] at this
  rw [this]
  have h2 := set_app [Value.int .i64 M.m, .int .u64 M.b, sl] (bv M.G) j (.int .u8 (c.toNat : Int))
  rw [show [Value.int .i64 M.m, .int .u64 M.b, sl].length = 3 from rfl, bv_setM] at h2
  rw [h2]

theorem splice_mid (A Z R cs : List Value) (h : cs.length ≤ Z.length) : splice (A ++ (Z ++ R)) A.length cs = A ++ ((cs ++ Z.drop cs.length) ++ R) := by
  simp only [splice]
  simp [List.drop_append, h]
theorem bv_drop (l : List UInt8) (j : Nat) : (bv l).drop j = bv (l.drop j) := by simp [bv]
theorem mc_copyT {M : Msg} (h : M.Fits) (sl : Value) (o : List UInt8) (ho : o.length ≤ 32) : splice (mc M sl) 2 (bv o) = mc { M with T := o ++ M.T.drop o.length } sl := by
  have := splice_mid [.int .i64 M.k, .int .i64 M.s] (bv M.T) (.int .i64 M.m :: .int .u64 M.b :: sl :: bv M.G) (bv o) (by rw [bv_length, bv_length, h.T]; exact ho)
  rw [bv_drop, ← bv_append, bv_length] at this
  exact this
theorem mc_copyG {M : Msg} (h : M.Fits) (sl : Value) (o : List UInt8) (ho : o.length ≤ 16) : splice (mc M sl) 37 (bv o) = mc { M with G := o ++ M.G.drop o.length } sl := by
  have := splice_mid ([.int .i64 M.k, .int .i64 M.s] ++ bv M.T ++ [.int .i64 M.m, .int .u64 M.b, sl]) (bv M.G) [] (bv o) (by rw [bv_length, bv_length, h.G]; exact ho)
  rw [bv_drop, ← bv_append, bv_length, show ([Value.int .i64 M.k, .int .i64 M.s] ++ bv M.T ++ [.int .i64 M.m, .int .u64 M.b, sl]).length = 37 by simp [bv_length, h.T]] at this
  simpa [mc] using this


/-- An empty message's cells, written out -/
def zcells : Array Value := #[.int .i64 0, .int .i64 0, .int .u8 0, .int .u8 0, .int .u8 0, .int .u8 0, .int .u8 0, .int .u8 0, .int .u8 0, .int .u8 0, .int .u8 0, .int .u8 0, .int .u8 0, .int .u8 0, .int .u8 0, .int .u8 0, .int .u8 0, .int .u8 0, .int .u8 0, .int .u8 0, .int .u8 0, .int .u8 0, .int .u8 0, .int .u8 0, .int .u8 0, .int .u8 0, .int .u8 0, .int .u8 0, .int .u8 0, .int .u8 0, .int .u8 0, .int .u8 0, .int .u8 0, .int .u8 0, .int .i64 0, .int .u64 0, .slice none 0 0, .int .u8 0, .int .u8 0, .int .u8 0, .int .u8 0, .int .u8 0, .int .u8 0, .int .u8 0, .int .u8 0, .int .u8 0, .int .u8 0, .int .u8 0, .int .u8 0, .int .u8 0, .int .u8 0, .int .u8 0, .int .u8 0]
theorem zcells_eq : zcells = (mc zeroMsg (.slice none 0 0)).toArray := rfl
/-- A message that has a kind and a slot. -/
def startMsg (k s : Int) : Msg := ⟨k, s, List.replicate 32 0, 0, 0, [], List.replicate 16 0⟩
theorem startMsg_fits (k s : Int) : (startMsg k s).Fits := ⟨zeroMsg_fits.T, zeroMsg_fits.G, zeroMsg_fits.b⟩
theorem zcells_lit : (#[.int .i64 0, .int .i64 0, .int .u8 0, .int .u8 0, .int .u8 0, .int .u8 0, .int .u8 0, .int .u8 0, .int .u8 0, .int .u8 0, .int .u8 0, .int .u8 0, .int .u8 0, .int .u8 0, .int .u8 0, .int .u8 0, .int .u8 0, .int .u8 0, .int .u8 0, .int .u8 0, .int .u8 0, .int .u8 0, .int .u8 0, .int .u8 0, .int .u8 0, .int .u8 0, .int .u8 0, .int .u8 0, .int .u8 0, .int .u8 0, .int .u8 0, .int .u8 0, .int .u8 0, .int .u8 0, .int .i64 0, .int .u64 0, .slice none 0 0, .int .u8 0, .int .u8 0, .int .u8 0, .int .u8 0, .int .u8 0, .int .u8 0, .int .u8 0, .int .u8 0, .int .u8 0, .int .u8 0, .int .u8 0, .int .u8 0, .int .u8 0, .int .u8 0, .int .u8 0, .int .u8 0] : Array Value) = zcells := rfl

theorem msg_built (k s : Int) : Tryd.prog.built 32 [(0, .int .i64 k), (1, .int .i64 s)] = some (mc (startMsg k s) (.slice none 0 0)).toArray := by kernel_rfl
theorem msg_built0 : Tryd.prog.built 32 [] = some (mc zeroMsg (.slice none 0 0)).toArray := by kernel_rfl
theorem wpList_build_msg {P : Program} {ops : Array Oper} {rest : List Oper} {o : Oper} {a : Act} {w : World} {Q : Exit → Act → World → Prop} (hgd : o.guard = none) (t : TypeId) (parts : Array (Nat × Operand)) (ho : o.op = .build t parts)
    (cells : Array Value) (hb : P.built t (parts.map fun (i, x) => (i, a.eval x)).toList = some cells) (h : wpList P ops Q rest (a.put o.dst (.agg cells)) w) : wpList P ops Q (o :: rest) a w :=
  wpList_build hgd t parts ho (by rw [hb]; rfl) (by rw [hb]; exact h)

/-- A message out of memory, at a guarded operation. -/
theorem wpList_load_msgG {ops : Array Oper} {rest : List Oper} {o : Oper} {a : Act} {w : World} {Q : Exit → Act → World → Prop} (x : Operand) (ho : o.op = .load 32 x) (hgd : Region.wanted o (yielded ops a.tmps) = true)
    (g : Nat) (M : Msg) (sl : Value) (hx : a.eval x = .pointer (some ⟨g, 0, none⟩)) (hg : Blk w g 32 (mc M sl)) (hf : M.Fits)
    (h : wpList Tryd.prog ops Q rest (a.put o.dst (.agg (mc M sl).toArray)) w) : wpList Tryd.prog ops Q (o :: rest) a w := by
  refine wpList_step fun K hK => ?_
  rw [if_pos hgd]
  unfold Oper.wp execOp
  simp only [ho, hx, Sem.run_bind, run_load_msg hg hf, Result.andThen_ok]
  exact hK _ _ h

/-- A message into a block that holds one. -/
theorem wpList_store_msg {ops : Array Oper} {rest : List Oper} {o : Oper} {a : Act} {w : World} {Q : Exit → Act → World → Prop} (x y : Operand) (ho : o.op = .store 32 x y) (hgd : o.guard = none)
    (g : Nat) (M M' : Msg) (sl sl' : Value) (hx : a.eval x = .pointer (some ⟨g, 0, none⟩)) (hy : a.eval y = .agg (mc M' sl').toArray) (hg : Blk w g 32 (mc M sl)) (hf : M.Fits) (hf' : M'.Fits) (h1 : sl'.oneCell' = true)
    (h : wpList Tryd.prog ops Q rest (a.put o.dst undef) (w.setRow g (mc M' sl').toArray)) : wpList Tryd.prog ops Q (o :: rest) a w := by
  refine wpList_store_part hgd 32 x y ho g 0 (mc M' sl') hx hy 32 (mc M sl) hg (msg_size hf' sl') (by rw [mc_length hf, mc_length hf']; omega) (mc_one h1) ?_
  rw [splice_all _ _ (by rw [mc_length hf, mc_length hf'])]
  exact h

/-- An answer that lies in a block. -/
theorem ret_msg {fn : Func} {p u : Tmp} (h : fn.results = #[.cell p 32, .tmp u]) {a : Act} {w : World} {g : Nat} {M : Msg} {sl : Value} (hp : a.tmps.getD p undef = .pointer (some ⟨g, 0, none⟩)) (hg : Blk w g 32 (mc M sl)) (hf : M.Fits) (hd : a.defers = [])
    {R : Ending → World → Prop} (hR : R (.returned (.tuple #[.agg (mc M sl).toArray, a.tmps.getD u undef])) w) : bodyPost Tryd.prog fn R .ret a w := by
  refine bodyPost_ret ?_ hd hR
  rw [results_cell_tmp h, hp]
  have hl := run_load_msg hg hf
  simp only [Instr.loadAt, Instr.sureAddr, Sem.run_bind, Sem.run_pure, Result.andThen] at hl
  simp only [asAddr, Sem.run_pure, Result.andThen_ok]
  rw [hl]
  rfl

end Go.Proofs.YtnbdpalbompjlaaDoor

/-
  Messages, votes and tags that the program writes out ('T{..}'), and tags in memory.
-/
namespace Go.Proofs.YtnbdpalbompjlaaDoor
open Go.RowKit
set_option maxRecDepth 10000

/-- Where a message's parts lie: from where on, how many cells. -/
def mplace : Array (Nat × Nat) := #[(0, 1), (1, 1), (2, 32), (34, 1), (35, 1), (36, 1), (37, 16)]
theorem msg_parts0 : Tryd.prog.built 32 = fun parts => Go.Instr.fill (fun x => mplace[x]?) zcells parts := by kernel_rfl
theorem msg_parts (parts : List (Nat × Value)) : Tryd.prog.built 32 parts = Go.Instr.fill (fun x => mplace[x]?) (mc zeroMsg (.slice none 0 0)).toArray parts := congrFun msg_parts0 parts

theorem fold_splice : ∀ (cs z : List Value) (off i : Nat), off + i + cs.length ≤ z.length →
    (cs.zipIdx i).foldl (fun (a : Array Value) (x : Value × Nat) => a.setIfInBounds (off + x.2) x.1) z.toArray = (splice z (off + i) cs).toArray
  | [], z, off, i, h => by simp [splice]
  | c :: cs, z, off, i, h => by
    rw [List.zipIdx_cons, List.foldl_cons, List.setIfInBounds_toArray, fold_splice cs _ off (i + 1) (by rw [List.length_set]; simp at h; omega)]
    congr 1
    simp only [List.length_cons] at h
    obtain ⟨n, hn⟩ : ∃ n, n = off + i := ⟨_, rfl⟩
    rw [show off + (i + 1) = n + 1 by omega, ← hn]
    have hA : (z.take n).length = n := by rw [List.length_take]; omega
    have e0 : z.set n c = z.take n ++ c :: z.drop (n + 1) := by rw [List.set_eq_take_append_cons_drop, if_pos (by omega)]
    have e1 : (z.set n c).take (n + 1) = z.take n ++ [c] := by
      rw [e0, List.take_append, hA, List.take_of_length_le (by omega), show n + 1 - n = 1 by omega]; rfl
    have e2 : (z.set n c).drop (n + 1 + cs.length) = z.drop (n + (cs.length + 1)) := by
      rw [e0, List.drop_append, hA, List.drop_of_length_le (by omega), List.nil_append, show n + 1 + cs.length - n = cs.length + 1 by omega, List.drop_succ_cons, List.drop_drop, show n + 1 + cs.length = n + (cs.length + 1) by omega]
    rw [splice, splice, e1, e2, List.length_cons, List.append_assoc]
    rfl

theorem fill_step {place : Nat → Option (Nat × Nat)} {z : List Value} {j off size : Nat} {v : Value} {rest : List (Nat × Value)} (hp : place j = some (off, size)) (hs : v.cells.size = size) (hz : off + size ≤ z.length) :
    Go.Instr.fill place z.toArray ((j, v) :: rest) = Go.Instr.fill place (splice z off v.cells.toList).toArray rest := by
  rw [Go.Instr.fill, hp]
  simp only
  rw [if_neg (by simp [hs]; omega)]
  congr 1
  have := fold_splice v.cells.toList z off 0 (by rw [Array.length_toList, hs]; omega)
  rw [Nat.add_zero] at this
  rw [← this, ← Array.foldl_toList, Array.toList_zipIdx]

theorem splice_one (z : List Value) (off : Nat) (v : Value) (h : off < z.length) : splice z off [v] = z.set off v := by
  simp only [splice, List.length_singleton]
  rw [List.set_eq_take_append_cons_drop, if_pos h]
  rfl
theorem mfill_k {M : Msg} (h : M.Fits) (sl : Value) (x : Int) (rest : List (Nat × Value)) : Go.Instr.fill (fun x => mplace[x]?) (mc M sl).toArray ((0, .int .i64 x) :: rest) = Go.Instr.fill (fun x => mplace[x]?) (mc { M with k := x } sl).toArray rest := by
  rw [fill_step (off := 0) (size := 1) rfl rfl (by rw [mc_length h]; omega), show (Value.int .i64 x).cells.toList = [.int .i64 x] from rfl, splice_one _ _ _ (by rw [mc_length h]; omega), mc_set0]
theorem mfill_s {M : Msg} (h : M.Fits) (sl : Value) (x : Int) (rest : List (Nat × Value)) : Go.Instr.fill (fun x => mplace[x]?) (mc M sl).toArray ((1, .int .i64 x) :: rest) = Go.Instr.fill (fun x => mplace[x]?) (mc { M with s := x } sl).toArray rest := by
  rw [fill_step (off := 1) (size := 1) rfl rfl (by rw [mc_length h]; omega), show (Value.int .i64 x).cells.toList = [.int .i64 x] from rfl, splice_one _ _ _ (by rw [mc_length h]; omega), mc_set1]
theorem mfill_m {M : Msg} (h : M.Fits) (sl : Value) (x : Int) (rest : List (Nat × Value)) : Go.Instr.fill (fun x => mplace[x]?) (mc M sl).toArray ((3, .int .i64 x) :: rest) = Go.Instr.fill (fun x => mplace[x]?) (mc { M with m := x } sl).toArray rest := by
  rw [fill_step (off := 34) (size := 1) rfl rfl (by rw [mc_length h]; omega), show (Value.int .i64 x).cells.toList = [.int .i64 x] from rfl, splice_one _ _ _ (by rw [mc_length h]; omega), mc_set34 h]
theorem mfill_T {M : Msg} (h : M.Fits) (sl : Value) (T : List UInt8) (hT : T.length = 32) (rest : List (Nat × Value)) : Go.Instr.fill (fun x => mplace[x]?) (mc M sl).toArray ((2, .agg (bv T).toArray) :: rest) = Go.Instr.fill (fun x => mplace[x]?) (mc { M with T := T } sl).toArray rest := by
  rw [fill_step (off := 2) (size := 32) rfl (by simp [Value.cells, bv_length, hT]) (by rw [mc_length h]; omega), show (Value.agg (bv T).toArray).cells.toList = bv T by simp [Value.cells], mc_copyT h sl T (by omega), hT, List.drop_of_length_le (by rw [h.T]; omega), List.append_nil]
theorem mfill_l {M : Msg} (h : M.Fits) (sl : Value) (ao : Option Addr) (n cap : Nat) (l : List Bool) (rest : List (Nat × Value)) : Go.Instr.fill (fun x => mplace[x]?) (mc M sl).toArray ((5, .slice ao n cap) :: rest) = Go.Instr.fill (fun x => mplace[x]?) (mc { M with l := l } (.slice ao n cap)).toArray rest := by
  rw [fill_step (off := 36) (size := 1) rfl rfl (by rw [mc_length h]; omega), show (Value.slice ao n cap).cells.toList = [.slice ao n cap] from rfl, splice_one _ _ _ (by rw [mc_length h]; omega), mc_set36 h sl _ l]

/-- 'api.Message{Kind: k, Slot: s, Target: T, Member: m}' -/
theorem built_vote (k s m : Int) (T : List UInt8) (hT : T.length = 32) : Tryd.prog.built 32 [(0, .int .i64 k), (1, .int .i64 s), (2, .agg (bv T).toArray), (3, .int .i64 m)] = some (mc ⟨k, s, T, m, 0, [], List.replicate 16 0⟩ (.slice none 0 0)).toArray := by
  rw [msg_parts]
  exact (mfill_k zeroMsg_fits _ k _).trans ((mfill_s (M := ⟨k, 0, (List.replicate 32 0), 0, 0, [], List.replicate 16 0⟩) ⟨by simp, by simp, by simp⟩ _ s _).trans ((mfill_T (M := ⟨k, s, (List.replicate 32 0), 0, 0, [], List.replicate 16 0⟩) ⟨by simp, by simp, by simp⟩ _ T hT _).trans ((mfill_m (M := ⟨k, s, T, 0, 0, [], List.replicate 16 0⟩) ⟨hT, by simp, by simp⟩ _ m _).trans rfl)))
/-- 'api.Message{Kind: k, Slot: s, Target: T, Bits: l}' -/
theorem built_sum (k s : Int) (T : List UInt8) (hT : T.length = 32) (ao : Option Addr) (n cap : Nat) (l : List Bool) : Tryd.prog.built 32 [(0, .int .i64 k), (1, .int .i64 s), (2, .agg (bv T).toArray), (5, .slice ao n cap)] = some (mc ⟨k, s, T, 0, 0, l, List.replicate 16 0⟩ (.slice ao n cap)).toArray := by
  rw [msg_parts]
  exact (mfill_k zeroMsg_fits _ k _).trans ((mfill_s (M := ⟨k, 0, (List.replicate 32 0), 0, 0, [], List.replicate 16 0⟩) ⟨by simp, by simp, by simp⟩ _ s _).trans ((mfill_T (M := ⟨k, s, (List.replicate 32 0), 0, 0, [], List.replicate 16 0⟩) ⟨by simp, by simp, by simp⟩ _ T hT _).trans ((mfill_l (M := ⟨k, s, T, 0, 0, [], List.replicate 16 0⟩) ⟨hT, by simp, by simp⟩ _ ao n cap l _).trans rfl)))
/-- 'api.Message{Kind: k, Slot: s, Bits: l}' -/
theorem built_bits (k s : Int) (ao : Option Addr) (n cap : Nat) (l : List Bool) : Tryd.prog.built 32 [(0, .int .i64 k), (1, .int .i64 s), (5, .slice ao n cap)] = some (mc ⟨k, s, List.replicate 32 0, 0, 0, l, List.replicate 16 0⟩ (.slice ao n cap)).toArray := by
  rw [msg_parts]
  exact (mfill_k zeroMsg_fits _ k _).trans ((mfill_s (M := ⟨k, 0, (List.replicate 32 0), 0, 0, [], List.replicate 16 0⟩) ⟨by simp, by simp, by simp⟩ _ s _).trans ((mfill_l (M := ⟨k, s, (List.replicate 32 0), 0, 0, [], List.replicate 16 0⟩) ⟨by simp, by simp, by simp⟩ _ ao n cap l _).trans rfl))

theorem stepAt_build {P : Program} {ops : Array Oper} {o : Oper} {a : Act} {w : World} {R : Value → World → Prop} {d : Tmp} (hd : o.dst = some d) (hw : Region.wanted o (yielded ops a.tmps) = true) (hz : decide (d < a.tmps.size) = true) (t : TypeId) (parts : Array (Nat × Operand)) (ho : o.op = .build t parts)
    (cells : Array Value) (hb : P.built t (parts.map fun (i, x) => (i, a.eval x)).toList = some cells) (h : R (.agg cells) w) : stepAt P ops o a w R := by
  refine stepAt_value hd hw hz _ w ?_ h
  unfold execOp
  simp only [ho, Sem.run_bind, run_build w t _ cells hb, Result.andThen_ok]
  rfl

theorem Tryd.sizeTagB : (Tryd.prog.info? 30).map (·.size) = some 16 := by kernel_rfl
theorem Tryd.sizeRootB : (Tryd.prog.info? 26).map (·.size) = some 32 := by kernel_rfl
theorem tag_size {l : List UInt8} (h : l.length = 16) : (Tryd.prog.info? 30).map (·.size) = some (bv l).length := by rw [bv_length, h]; exact Tryd.sizeTagB
theorem root_size {l : List UInt8} (h : l.length = 32) : (Tryd.prog.info? 26).map (·.size) = some (bv l).length := by rw [bv_length, h]; exact Tryd.sizeRootB

/-- A tag out of memory, at a guarded operation too. -/
theorem wpList_load_tag {ops : Array Oper} {rest : List Oper} {o : Oper} {a : Act} {w : World} {Q : Exit → Act → World → Prop} (x : Operand) (ho : o.op = .load 30 x) (hgd : Region.wanted o (yielded ops a.tmps) = true)
    (g off : Nat) (l : List UInt8) (hx : a.eval x = .pointer (some ⟨g, off, none⟩)) (hl : l.length = 16) (hc : ∀ j v, (bv l)[j]? = some v → w.cell? ⟨g, off + j, none⟩ = some v)
    (h : wpList Tryd.prog ops Q rest (a.put o.dst (.agg (bv l).toArray)) w) : wpList Tryd.prog ops Q (o :: rest) a w := by
  refine wpList_step fun K hK => ?_
  rw [if_pos hgd]
  unfold Oper.wp execOp
  simp only [ho, hx, Sem.run_bind, run_loadAt_cells hc 30 16 5 Tryd.underlying30 (tag_size hl), Result.andThen_ok]
  exact hK _ _ h
/-- A root out of memory. -/
theorem wpList_load_root {ops : Array Oper} {rest : List Oper} {o : Oper} {a : Act} {w : World} {Q : Exit → Act → World → Prop} (x : Operand) (ho : o.op = .load 26 x) (hgd : Region.wanted o (yielded ops a.tmps) = true)
    (g off : Nat) (l : List UInt8) (hx : a.eval x = .pointer (some ⟨g, off, none⟩)) (hl : l.length = 32) (hc : ∀ j v, (bv l)[j]? = some v → w.cell? ⟨g, off + j, none⟩ = some v)
    (h : wpList Tryd.prog ops Q rest (a.put o.dst (.agg (bv l).toArray)) w) : wpList Tryd.prog ops Q (o :: rest) a w := by
  refine wpList_step fun K hK => ?_
  rw [if_pos hgd]
  unfold Oper.wp execOp
  simp only [ho, hx, Sem.run_bind, run_loadAt_cells hc 26 32 5 Tryd.underlying26 (root_size hl), Result.andThen_ok]
  exact hK _ _ h

theorem zero16 : bv (List.replicate 16 0) = [.int .u8 0, .int .u8 0, .int .u8 0, .int .u8 0, .int .u8 0, .int .u8 0, .int .u8 0, .int .u8 0, .int .u8 0, .int .u8 0, .int .u8 0, .int .u8 0, .int .u8 0, .int .u8 0, .int .u8 0, .int .u8 0] := rfl
/-- A tag into a block that holds one. -/
theorem wpList_store_tag {ops : Array Oper} {rest : List Oper} {o : Oper} {a : Act} {w : World} {Q : Exit → Act → World → Prop} (x y : Operand) (ho : o.op = .store 30 x y) (hgd : o.guard = none)
    (g : Nat) (l l' : List UInt8) (hx : a.eval x = .pointer (some ⟨g, 0, none⟩)) (hy : a.eval y = .agg (bv l').toArray) (hg : Blk w g 30 (bv l)) (hl : l.length = 16) (hl' : l'.length = 16)
    (h : wpList Tryd.prog ops Q rest (a.put o.dst undef) (w.setRow g (bv l').toArray)) : wpList Tryd.prog ops Q (o :: rest) a w := by
  refine wpList_store_part hgd 30 x y ho g 0 (bv l') hx hy 30 (bv l) hg (tag_size hl') (by rw [bv_length, bv_length]; omega) (bv_one _) ?_
  rw [splice_all _ _ (by rw [bv_length, bv_length, hl, hl'])]
  exact h
/-- A tag into a message. -/
theorem wpList_store_tagM {ops : Array Oper} {rest : List Oper} {o : Oper} {a : Act} {w : World} {Q : Exit → Act → World → Prop} (x y : Operand) (ho : o.op = .store 30 x y) (hgd : o.guard = none)
    (g : Nat) (M : Msg) (sl : Value) (l : List UInt8) (hx : a.eval x = .pointer (some ⟨g, 37, none⟩)) (hy : a.eval y = .agg (bv l).toArray) (hg : Blk w g 32 (mc M sl)) (hf : M.Fits) (hl : l.length = 16)
    (h : wpList Tryd.prog ops Q rest (a.put o.dst undef) (w.setRow g (mc { M with G := l } sl).toArray)) : wpList Tryd.prog ops Q (o :: rest) a w := by
  refine wpList_store_part hgd 30 x y ho g 37 (bv l) hx hy 32 (mc M sl) hg (tag_size hl) (by rw [bv_length, mc_length hf]; omega) (bv_one _) ?_
  rw [mc_copyG hf sl l (by omega), hl, List.drop_of_length_le (by rw [hf.G]; omega), List.append_nil]
  exact h

/-- An answer that lies in a block: a tag. -/
theorem ret_tag {fn : Func} {p u : Tmp} (h : fn.results = #[.cell p 30, .tmp u]) {a : Act} {w : World} {g : Nat} {l : List UInt8} (hp : a.tmps.getD p undef = .pointer (some ⟨g, 0, none⟩)) (hg : Blk w g 30 (bv l)) (hl : l.length = 16) (hd : a.defers = [])
    {R : Ending → World → Prop} (hR : R (.returned (.tuple #[.agg (bv l).toArray, a.tmps.getD u undef])) w) : bodyPost Tryd.prog fn R .ret a w := by
  refine bodyPost_ret ?_ hd hR
  rw [results_cell_tmp h, hp]
  have hlo := run_loadAt_cells (P := Tryd.prog) (w := w) (g := g) (off := 0) hg.msgAll 30 16 5 Tryd.underlying30 (tag_size hl)
  simp only [Instr.loadAt, Instr.sureAddr, Sem.run_bind, Sem.run_pure, Result.andThen] at hlo
  simp only [asAddr, Sem.run_pure, Result.andThen_ok]
  rw [hlo]
  rfl
theorem results_cell {fn : Func} {p : Tmp} {ty : TypeId} (h : fn.results = #[.cell p ty]) (tmps : Array Value) (P : Program) (w : World) :
    (results fn tmps).run P w = ((asAddr (tmps.getD p undef)).run P w).andThen fun a w₁ => (loadVar ty a).run P w₁ := by
  simp only [results, h]
  simp [Sem.run_bind, Result.andThen]
/-- The one answer, that lies in a block: a message. -/
theorem ret_msg1 {fn : Func} {p : Tmp} (h : fn.results = #[.cell p 32]) {a : Act} {w : World} {g : Nat} {M : Msg} {sl : Value} (hp : a.tmps.getD p undef = .pointer (some ⟨g, 0, none⟩)) (hg : Blk w g 32 (mc M sl)) (hf : M.Fits) (hd : a.defers = [])
    {R : Ending → World → Prop} (hR : R (.returned (.agg (mc M sl).toArray)) w) : bodyPost Tryd.prog fn R .ret a w := by
  refine bodyPost_ret ?_ hd hR
  rw [results_cell h, hp]
  have hl := run_load_msg hg hf
  simp only [Instr.loadAt, Instr.sureAddr, Sem.run_bind, Sem.run_pure, Result.andThen] at hl
  simp only [asAddr, Sem.run_pure, Result.andThen_ok]
  rw [hl]
end Go.Proofs.YtnbdpalbompjlaaDoor
