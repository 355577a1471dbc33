/-
  The texts BPut, BMore, MsgMem, SealCfg, WGood, one behind the other.
-/
import Derived.Test.YtnbdpalbompjlaaDoorBPack
import Derived.Deep.RegionWith
import Derived.Test.YtnbdpalbompjlaaDoorM1
import Derived.Test.YtnbdpalbompjlaaDoorM8
import Derived.Test.YtnbdpalbompjlaaDoorM9
import Derived.Test.YtnbdpalbompjlaaDoorRefBoard
import Derived.Test.YtnbdpalbompjlaaDoorM11
import Derived.Deep.DeepCutAuto
/-
  What bitlist.Put does.
-/
namespace Go.Proofs.YtnbdpalbompjlaaDoor
open Go.RowKit
set_option maxRecDepth 10000
set_option linter.unusedSimpArgs false

theorem Tryd.infoU8 : (Tryd.prog.info? 5).map (fun i => (i.zero, i.size, i.bytes)) = some (some (.int .u8 0), 1, 1) := by kernel_rfl

theorem turned_call {P : Program} {f : Nat} {args : Array Value} {w : World} {v : Value} (h : Calls P f args w fun e w' => e = .returned v ∧ w = w') : Calls P f args w fun e w' => e = .returned v ∧ w' = w :=
  h.mono fun _ _ ⟨a, b⟩ => ⟨a, b.symm⟩

/-- One cell that was just built, as append's source. -/
theorem src_one {P : Program} (w : World) (e t : TypeId) (ht : P.underlying t = some (.slice e)) (u : Value) (h1 : u.oneCell' = true) : Src P 1 t (.slice (some ⟨w.heap.size, 0, none⟩) 1 1) 1 [u] (w.alloc (.cells #[u] e)) := by
  refine Src.ofSlice _ ht _ 1 1 _ rfl ?_ ?_
  · intro i x hi
    match i, hi with
    | 0, hi => simp at hi; subst hi; simp [Addr.add]
  · intro x hx; simp at hx; subst hx; exact h1

theorem bv_byte (c : Nat) (h : c < 256) : bv [UInt8.ofNat c] = [.int .u8 (c : Int)] := by simp [bv, Nat.mod_eq_of_lt h]

/-- Put's relation: j bytes are put, and so many times eight of the row are cut off. -/
def BPutRel (w : World) (base : Nat) (v : Value) (bs : List UInt8) (l : List Bool) (b off : Nat) (c x : Value) (wr : World) : Prop :=
  ∃ (j : Nat) (ao : Option Addr) (n cap : Nat), 8 * j + n = l.length ∧ n ≤ cap ∧ x = .slice ao n cap ∧ BRowAt wr base ao b (off + 8 * j) (l.drop (8 * j)) ∧ Held wr base c (bv (bs ++ leB (rowN l) j)) ∧ Grew w v wr c

def lenOfS : Value → Nat
  | .slice _ n _ => n
  | _ => 0

theorem or_wrap (p k : Nat) (hk : k < 8) (hp : p < 2 ^ k) : bits BinOp.or IntKind.u8 (p : Int) (IntKind.u8.wrap ((2 : Int) ^ k)) = ((p + 2 ^ k : Nat) : Int) := by
  rw [IntKind.wrap_u8]; exact or_step p k hk hp

theorem bput_round {w : World} {base : Nat} {v : Value} {bs : List UInt8} {l : List Bool} {b off j p n cap : Nat} {wr w1 : World} {u0 v1 : Value} {a0 a1 : Option Addr} {o : Obj} (hn : 8 * j + n = l.length) (hlt : 8 ≤ n) (hc : n ≤ cap) (hp : p < 256) (hP : rowN l / 256 ^ j % 256 = p)
    (ha : 8 < n → a1 = some ⟨b, off + 8 * j + 8, none⟩) (hbase : base ≤ wr.heap.size) (hrow : BRowAt wr base a0 b (off + 8 * j) (l.drop (8 * j))) (hh : Held wr base u0 (bv (bs ++ leB (rowN l) j))) (hg : Grew w v wr u0)
    (hh1 : Held w1 base v1 (bv (bs ++ leB (rowN l) j) ++ [.int .u8 (p : Int)])) (hg1 : Grew (wr.alloc o) u0 w1 v1) : BPutRel w base v bs l b off v1 (.slice a1 (n - 8) (cap - 8)) w1 := by
  refine ⟨j + 1, a1, n - 8, cap - 8, by omega, by omega, rfl, ?_, ?_, ?_⟩
  · have hb : Below base wr w1 := ((Below.refl _ _).alloc hbase o).trans (hg1.below (hh.alloc o) (by simp; omega))
    have h := (hrow.keep hb).drop 8 (ao' := a1) (fun h => ha (by rw [List.length_drop] at h; omega))
    rw [List.drop_drop] at h
    rw [show off + 8 * (j + 1) = off + 8 * j + 8 by omega, show 8 * (j + 1) = 8 * j + 8 by omega]
    exact h
  · rw [leB_snoc, ← List.append_assoc, bv_append, hP, bv_byte p hp]
    exact hh1
  · exact hg.trans (hg1.before ((Below.refl _ _).alloc (Nat.le_refl _) _))

set_option maxHeartbeats 1000000 in
theorem bput_any (w : World) (base : Nat) (v : Value) (bs : List UInt8) (u : Value) (l : List Bool) (hv : Held w base v (bv bs)) (hbase : base ≤ w.heap.size) (hu : BRow w base u l) (hlen : bs.length ≤ 1000) (hl : l.length ≤ 1000) :
    Calls Tryd.prog 54 #[v, u] w fun e w' => ∃ v', e = .returned v' ∧ Held w' base v' (bv (bs ++ encR l)) ∧ Grew w v w' v' := by
  obtain ⟨i0, hi, hz0, hz1, hz2⟩ := info_parts Tryd.infoU8
  obtain ⟨ao, cap, b, off, rfl, hcap, hmax, hr⟩ := hu
  have HS := Lib.hid (show BPutRel w base v bs l b off v (.slice ao l.length cap) w from ⟨0, ao, l.length, cap, by omega, hcap, rfl, by simpa using hr, by simpa [leB] using hv, Grew.refl _ _⟩)
  obtain ⟨L, hL⟩ : ∃ L, L = l.length := ⟨_, rfl⟩
  rw [← hL] at hl hcap HS
  rw [← hL]
  have HL := Lib.hid hL
  clear hL hmax hr
  go_enter Tryd.func54, Tryd.ntmps54
  go_wp2_with fail
  go_loopw [0, 1] (fun c x wr => BPutRel w base v bs l b off c x wr) (fun _ x _ => lenOfS x)
  case atStart => exact HS.out
  case round =>
    clear HS hcap
    obtain ⟨j, ao', n', cap', hn, hc', rfl, hrow, hh, hg⟩ := hrel
    rw [← HL.out] at hn
    have hsz := hg.grown.size
    have hbl : (bv (bs ++ leB (rowN l) j)).length ≤ 2000 := by rw [bv_length, List.length_append, leB_length]; omega
    by_cases hlt : 8 ≤ n'
    · obtain rfl : ao' = some ⟨b, off + 8 * j, none⟩ := hrow.addr (by rw [List.length_drop, ← HL.out]; omega)
      have hblt := hrow.lt (by rw [List.length_drop, ← HL.out]; omega)
      have d1 : (8 : Int) ≤ (n' : Int) := by omega
      have HN := Lib.hid hn
      have HP := Lib.hid (rowN_step l j (by rw [← HL.out]; omega))
      obtain ⟨p, hp⟩ : ∃ p, p = packN ((l.drop (8 * j)).take 8) := ⟨_, rfl⟩
      have hpack := fun c => pack_any wr base (some ⟨b, off + 8 * j, none⟩) 8 b (off + 8 * j) c _ (by rw [List.length_take, List.length_drop, ← HL.out]; omega) (by rw [List.length_take]; omega) (hrow.take 8)
      rw [← hp] at hpack HP
      have hp256 : p < 256 := by rw [← HP.out]; exact Nat.mod_lt _ (by omega)
      have HK := Lib.hid hpack
      clear hpack hp hn
      by_cases h8 : cap' = 8
      · subst h8
        go_wp2_with fail
        refine (HK.out 8).mono ?_
        rintro e w' ⟨rfl, rfl⟩
        go_wp2_with (at_builtin; refine wpList_append_held rfl _ _ 86 86 rfl rfl (hh.alloc _) 5 i0 (.int .u8 0) 1 Tryd.underlying86 hi hz0 hz1 hz2 rfl _ rfl 1 [.int .u8 (p : Int)] (src_one _ 5 86 Tryd.underlying86 _ rfl) ?c2 ?c3 ?c4 ?_)
        case c2 => unfold maxLen; omega
        case c3 => omega
        case c4 => simp; omega
        intro v1 w1 hh1 hg1
        have HE := Lib.hid (bput_round (n := n') (cap := 8) (a1 := some ⟨b, off + 8 * j, none⟩) (by rw [← HL.out]; exact HN.out) hlt hc' hp256 HP.out (fun h => by omega) (by omega) hrow hh hg hh1 hg1)
        clear hh1 hg1 hh hg hrow
        go_wp2
        go_roundw
        case rel => have h := HE.out; rw [show n' - 8 = 0 by omega] at h; exact h
        case measure => simp [lenOfS]; omega
      · have h8' : ¬ (cap' = 0) := by omega
        go_wp2_with fail
        refine (HK.out cap').mono ?_
        rintro e w' ⟨rfl, rfl⟩
        go_wp2_with (at_builtin; refine wpList_append_held rfl _ _ 86 86 rfl rfl (hh.alloc _) 5 i0 (.int .u8 0) 1 Tryd.underlying86 hi hz0 hz1 hz2 rfl _ rfl 1 [.int .u8 (p : Int)] (src_one _ 5 86 Tryd.underlying86 _ rfl) ?d2 ?d3 ?d4 ?_)
        case d2 => unfold maxLen; omega
        case d3 => omega
        case d4 => simp; omega
        intro v1 w1 hh1 hg1
        have HE := Lib.hid (bput_round (n := n') (cap := cap') (a1 := some ⟨b, off + 8 * j + 8, none⟩) (by rw [← HL.out]; exact HN.out) hlt hc' hp256 HP.out (fun h => rfl) (by omega) hrow hh hg hh1 hg1)
        clear HK hh1 hg1 hh hg hrow
        go_wp2
        go_roundw
        case rel => exact HE.out
        case measure => simp [lenOfS]; omega
    · have d1 : ¬ (8 : Int) ≤ (n' : Int) := by omega
      have hq := packN_lt (l.drop (8 * j))
      have hP := rowN_last l j (by rw [← HL.out]; omega) (by rw [← HL.out]; omega)
      have hpack := turned_call (pack_any wr.drew base ao' n' b (off + 8 * j) cap' _ (by rw [List.length_drop, ← HL.out]; omega) (by rw [List.length_drop, ← HL.out]; omega) (hrow.keep (Below.refl _ _).drew))
      obtain ⟨q, hqe⟩ : ∃ q, q = packN (l.drop (8 * j)) := ⟨_, rfl⟩
      rw [← hqe] at hpack hq hP
      rw [List.length_drop, ← HL.out, show L - 8 * j = n' by omega] at hq
      rw [← HL.out, show L - 8 * j = n' by omega] at hP
      have HO := Lib.hid (or_wrap q n' (by omega) hq)
      obtain ⟨p, hp⟩ : ∃ p, p = q + 2 ^ n' := ⟨_, rfl⟩
      rw [← hp] at HO hP
      have hp256 : p < 256 := by rw [← hP]; exact Nat.mod_lt _ (by omega)
      have HP := Lib.hid hP
      have HJ := Lib.hid (show L / 8 = j by omega)
      have HK := Lib.hid hpack
      clear hpack hq hqe hp hP hn
      go_wp2_with fail
      refine wp_region_any (by kernel_rfl) ?_
      try (change wpAny _ _ _ _ _ _ _ (World.drew _))
      have hh2 := hh.drew
      have hb2 : Below wr.heap.size wr wr.drew := (Below.refl _ _).drew
      have HK2 := HK
      generalize wr.drew = w2 at hh2 hb2 HK2 ⊢
      have hs2 := hb2.size
      refine wpAny_take (i := 0) (v := ?_) rfl (by kernel_rfl) (by kernel_rfl) (by kernel_rfl) (fun _ _ _ h => h) (Or.inl ⟨by rfl, ?_⟩) ?_
      rotate_left
      · intro w
        go_simp
        try with_reducible rfl
      simp only [Act.put, List.getElem_toArray, List.getElem_cons_succ, List.getElem_cons_zero, List.setIfInBounds_toArray, List.set_cons_zero, List.set_cons_succ]
      refine wpAny_take (i := 1) (v := ?_) rfl (by kernel_rfl) (by kernel_rfl) (by kernel_rfl) (fun _ _ _ h => h) (Or.inl ⟨by rfl, ?_⟩) ?_
      rotate_left
      · intro w
        go_simp
        try with_reducible rfl
      simp only [Act.put, List.getElem_toArray, List.getElem_cons_succ, List.getElem_cons_zero, List.setIfInBounds_toArray, List.set_cons_zero, List.set_cons_succ]
      refine wpAny_take (i := 3) (v := ?_) rfl (by kernel_rfl) (by kernel_rfl) (by kernel_rfl) (fun _ _ _ h => h) (Or.inl ⟨by rfl, ?_⟩) ?_
      rotate_left
      · intro w
        go_simp
        try with_reducible rfl
      simp only [Act.put, List.getElem_toArray, List.getElem_cons_succ, List.getElem_cons_zero, List.setIfInBounds_toArray, List.set_cons_zero, List.set_cons_succ]
      refine wpAny_take (i := 4) (v := ?_) rfl (by kernel_rfl) (by kernel_rfl) (by kernel_rfl) (fun _ _ _ h => h) (Or.inl ⟨by rfl, ?_⟩) ?_
      rotate_left
      · intro w
        go_simp
        try with_reducible rfl
      simp only [Act.put, List.getElem_toArray, List.getElem_cons_succ, List.getElem_cons_zero, List.setIfInBounds_toArray, List.set_cons_zero, List.set_cons_succ]
      refine wpAny_take (i := 5) (v := ?_) rfl (by kernel_rfl) (by kernel_rfl) (by kernel_rfl) (fun _ _ _ h => h) (Or.inl ⟨by rfl, ?_⟩) ?_
      rotate_left
      · intro w
        go_simp
        try with_reducible rfl
      simp only [Act.put, List.getElem_toArray, List.getElem_cons_succ, List.getElem_cons_zero, List.setIfInBounds_toArray, List.set_cons_zero, List.set_cons_succ]
      refine wpAny_ready (rs := [2]) (by kernel_rfl) (by simp) ?_
      refine AllReady.cons rfl (fun K hK => ?_) ?_
      · go_simp
        refine HK2.out.mono ?_
        rintro e w' ⟨rfl, rfl⟩
        refine hK _ _ ?_
        clear hK K
        try simp only [Act.put, List.getElem_toArray, List.getElem_cons_succ, List.getElem_cons_zero, List.setIfInBounds_toArray, List.set_cons_zero, List.set_cons_succ]
        refine wpAny_take (i := 6) (v := ?_) rfl (by kernel_rfl) (by kernel_rfl) (by kernel_rfl) (fun _ _ _ h => h) (Or.inl ⟨by rfl, ?_⟩) ?_
        rotate_left
        · intro w
          go_simp
          try with_reducible rfl
        simp only [Act.put, List.getElem_toArray, List.getElem_cons_succ, List.getElem_cons_zero, List.setIfInBounds_toArray, List.set_cons_zero, List.set_cons_succ]
        refine wpAny_ready (rs := [7]) (by kernel_rfl) (by simp) ?_
        refine AllReady.cons rfl (fun K hK => ?_) ?_
        · go_simp
          refine hK _ _ ?_
          clear hK K
          try simp only [Act.put, List.getElem_toArray, List.getElem_cons_succ, List.getElem_cons_zero, List.setIfInBounds_toArray, List.set_cons_zero, List.set_cons_succ]
          rw [HO.out]
          refine wpAny_ready (rs := [8]) (by kernel_rfl) (by simp) ?_
          refine AllReady.cons rfl (fun K hK => ?_) AllReady.nil
          refine step_append_held rfl (.tmp 16) (.tmp 23) 86 86 rfl rfl (hh2.alloc _) 5 i0 (.int .u8 0) 1 Tryd.underlying86 hi hz0 hz1 hz2 rfl _ rfl 1 [.int .u8 (p : Int)] (src_one _ 5 86 Tryd.underlying86 _ rfl) (by unfold maxLen; omega) (by omega) (by simp; omega) ?_
          intro v1 w1 hh1 hg1
          refine hK _ _ ?_
          clear hK K
          simp only [Act.put, List.getElem_toArray, List.getElem_cons_succ, List.getElem_cons_zero, List.setIfInBounds_toArray, List.set_cons_zero, List.set_cons_succ]
          refine wpAny_take (i := 9) (v := ?_) rfl (by kernel_rfl) (by kernel_rfl) (by kernel_rfl) (fun _ _ _ h => h) (Or.inl ⟨by rfl, ?_⟩) ?_
          rotate_left
          · intro w
            go_simp
            try with_reducible rfl
          simp only [Act.put, List.getElem_toArray, List.getElem_cons_succ, List.getElem_cons_zero, List.setIfInBounds_toArray, List.set_cons_zero, List.set_cons_succ]
          refine wpAny_done (by kernel_rfl) ?_ _
          go_wp2
          go_ret
          refine ⟨_, rfl, ?_, hg.trans (hg1.before (hb2.alloc hs2 _))⟩
          unfold encR
          rw [← HL.out, HJ.out, leB_snoc, ← List.append_assoc, bv_append, HP.out, bv_byte p hp256]
          exact hh1
        exact AllReady.nil
      exact AllReady.nil

end Go.Proofs.YtnbdpalbompjlaaDoor

/-
  Rows of yes and no: what append reads of them, rows that were made, bytes as a text.
-/
namespace Go.Proofs.YtnbdpalbompjlaaDoor
open Go.RowKit
set_option maxRecDepth 10000

def bstr (l : List UInt8) : ByteArray := ⟨l.toArray⟩
theorem bstr_size (l : List UInt8) : (bstr l).size = l.length := by simp [bstr, ByteArray.size]
theorem bstr_toList (l : List UInt8) : (bstr l).data.toList = l := by simp [bstr]
theorem bstr_self (s : ByteArray) : bstr s.data.toList = s := by apply ByteArray.ext; simp [bstr]

theorem BMade.row {w : World} {g : Nat} {l : List Bool} (h : BMade w g l) (hl : l.length ≤ 1000) : BRow w w.heap.size (.slice (some ⟨g, 0, none⟩) l.length l.length) l :=
  (h.held (base := g) (Nat.le_refl _) (by unfold maxLen; omega)).brow

theorem BMade.keep {w w' : World} {g : Nat} {l : List Bool} (h : BMade w g l) (hb : Below w.heap.size w w') : BMade w' g l :=
  ⟨Nat.lt_of_lt_of_le h.lt hb.size, fun j x hj => (hb.cell (p := ⟨g, j, none⟩) h.lt).trans (h.cells j x hj), fun j hj => (hb.frozen (p := ⟨g, j, none⟩) h.lt).trans (h.free j hj)⟩

theorem ov_one (l : List Bool) : ∀ u ∈ ov l, u.oneCell' = true := by
  intro u hu
  rw [ov, List.mem_map] at hu
  obtain ⟨x, _, rfl⟩ := hu
  rfl

/-- A row as append's source. -/
theorem BRow.src {P : Program} {w : World} {B : Nat} {ao : Option Addr} {n cap : Nat} {l : List Bool} (h : BRow w B (.slice ao n cap) l) (t e : TypeId) (ht : P.underlying t = some (.slice e)) : Src P 1 t (.slice ao n cap) n (ov l) w := by
  obtain ⟨ao', cap', b, off, he, hc, hm, h⟩ := h
  cases he
  by_cases h0 : l.length = 0
  · obtain rfl : l = [] := List.eq_nil_of_length_eq_zero h0
    cases ao with
    | none => exact Src.ofNil w ht cap
    | some a => exact Src.ofSlice w ht a 0 cap [] rfl (fun j u hj => by simp at hj) (fun u hu => by simp at hu)
  · have ha := h.addr (by omega)
    subst ha
    refine Src.ofSlice w ht ⟨b, off, none⟩ _ cap (ov l) (by rw [ov_length, Nat.mul_one]) (fun j u hj => ?_) (ov_one l)
    rw [ov, List.getElem?_map] at hj
    cases hx : l[j]? with
    | none => rw [hx] at hj; cases hj
    | some x => rw [hx] at hj; cases hj; rw [Addr.add_lit]; exact h.cells j x hx

theorem HeldAt.set {w : World} {base n cap g off : Nat} {ao : Option Addr} {xs : List Value} (h : HeldAt w base n cap g off ao xs) (j : Nat) (hj : j < n) (u : Value) : HeldAt (w.setCell ⟨g, off + j, none⟩ u) base n cap g off ao (xs.set j u) := by
  have hlen := h.len
  obtain ⟨y, hy⟩ : ∃ y, xs[j]? = some y := ⟨_, List.getElem?_eq_getElem (by omega)⟩
  refine ⟨by rw [List.length_set]; exact hlen, h.le, h.max, h.addr, h.own, fun hc => by simpa using h.lt hc, fun i z hi => ?_, fun i hi => ?_, fun i hi => ?_⟩
  · by_cases e : i = j
    · subst e
      rw [List.getElem?_set_self (by omega)] at hi
      cases hi
      exact World.cell?_setCell_same _ _ _ (h.cells i y hy)
    · rw [List.getElem?_set_ne (by omega)] at hi
      rw [World.cell?_setCell_other _ _ _ _ (by intro e'; injection e' with _ e'; omega)]
      exact h.cells i z hi
  · by_cases e : i = j
    · subst e
      rw [World.cell?_setCell_same _ _ _ (h.cells i y hy)]; rfl
    · rw [World.cell?_setCell_other _ _ _ _ (by intro e'; injection e' with _ e'; omega)]
      exact h.room i hi
  · rw [World.frozen?_setCell]; exact h.free i hi

theorem ov_append (l r : List Bool) : ov (l ++ r) = ov l ++ ov r := by simp [ov]
theorem ov_set (l : List Bool) (j : Nat) (x : Bool) : (ov l).set j (.bool x) = ov (l.set j x) := by simp [ov, List.map_set]
theorem toList_ne {a b : ByteArray} (h : a ≠ b) : ¬ (a.toList = b.toList) := fun e => h (by apply ByteArray.ext; apply Array.ext'; rw [← ByteArray.toList_eq, ← ByteArray.toList_eq, e])
end Go.Proofs.YtnbdpalbompjlaaDoor

/-
  Messages as cells.
-/
namespace Go.Proofs.YtnbdpalbompjlaaDoor
open Go.RowKit
set_option maxRecDepth 10000

/-- A message's cells; sl: its Bits. -/
def mc (M : Msg) (sl : Value) : List Value := .int .i64 M.k :: .int .i64 M.s :: (bv M.T ++ (.int .i64 M.m :: .int .u64 M.b :: sl :: bv M.G))

theorem mc_length {M : Msg} (h : M.Fits) (sl : Value) : (mc M sl).length = 53 := by simp [mc, bv_length, h.T, h.G]
theorem mc_tail {M : Msg} (h : M.Fits) (sl : Value) (j : Nat) : (mc M sl)[34 + j]? = (Value.int .i64 M.m :: .int .u64 M.b :: sl :: bv M.G)[j]? := by
  rw [show 34 + j = (32 + j) + 1 + 1 by omega]
  simp only [mc, List.getElem?_cons_succ]
  rw [List.getElem?_append_right (by rw [bv_length, h.T]; omega), bv_length, h.T, show 32 + j - 32 = j by omega]
theorem mc_0 (M : Msg) (sl : Value) : (mc M sl)[0]? = some (.int .i64 M.k) := rfl
theorem mc_1 (M : Msg) (sl : Value) : (mc M sl)[1]? = some (.int .i64 M.s) := rfl
theorem mc_34 {M : Msg} (h : M.Fits) (sl : Value) : (mc M sl)[34]? = some (.int .i64 M.m) := mc_tail h sl 0
theorem mc_35 {M : Msg} (h : M.Fits) (sl : Value) : (mc M sl)[35]? = some (.int .u64 M.b) := mc_tail h sl 1
theorem mc_36 {M : Msg} (h : M.Fits) (sl : Value) : (mc M sl)[36]? = some sl := mc_tail h sl 2
theorem mc_T {M : Msg} (sl : Value) (j : Nat) (v : Value) (hj : (bv M.T)[j]? = some v) : (mc M sl)[2 + j]? = some v := by
  rw [show 2 + j = j + 1 + 1 by omega]
  simp only [mc, List.getElem?_cons_succ]
  rw [List.getElem?_append_left (List.getElem?_eq_some_iff.1 hj).1]
  exact hj
theorem mc_G {M : Msg} (h : M.Fits) (sl : Value) (j : Nat) (v : Value) (hj : (bv M.G)[j]? = some v) : (mc M sl)[37 + j]? = some v := by
  rw [show 37 + j = 34 + (j + 3) by omega, mc_tail h sl (j + 3)]
  exact hj
theorem mc_one {M : Msg} {sl : Value} (hs : sl.oneCell' = true) : ∀ v ∈ mc M sl, v.oneCell' = true := by
  intro v hv
  simp only [mc, List.mem_cons, List.mem_append] at hv
  rcases hv with rfl | rfl | h | rfl | rfl | rfl | h
  · rfl
  · rfl
  · exact bv_one _ v h
  · rfl
  · rfl
  · exact hs
  · exact bv_one _ v h

/-- A message that lies in block g. -/
def MsgAt (w : World) (g : Nat) (M : Msg) (sl : Value) : Prop := Blk w g 32 (mc M sl)

/-- Its one-cell parts. -/
theorem Blk.msg {w : World} {g : Nat} {M : Msg} {sl : Value} (h : Blk w g 32 (mc M sl)) (hf : M.Fits) :
    w.cell? ⟨g, 0, none⟩ = some (.int .i64 M.k) ∧ w.cell? ⟨g, 1, none⟩ = some (.int .i64 M.s) ∧ w.cell? ⟨g, 34, none⟩ = some (.int .i64 M.m) ∧ w.cell? ⟨g, 35, none⟩ = some (.int .u64 M.b) ∧ w.cell? ⟨g, 36, none⟩ = some sl :=
  ⟨(h.cell 0).trans (mc_0 M sl), (h.cell 1).trans (mc_1 M sl), (h.cell 34).trans (mc_34 hf sl), (h.cell 35).trans (mc_35 hf sl), (h.cell 36).trans (mc_36 hf sl)⟩

theorem Blk.msgAll {w : World} {g : Nat} {t : TypeId} {cs : List Value} (h : Blk w g t cs) : ∀ j v, cs[j]? = some v → w.cell? ⟨g, 0 + j, none⟩ = some v := fun j v hj => by rw [Nat.zero_add]; exact (h.cell j).trans hj

theorem Tryd.sizeMsg : (Tryd.prog.info? 32).map (·.size) = some 53 := by kernel_rfl
theorem Tryd.aggMsg (w : World) : (isAgg 32).run Tryd.prog w = .ok true w := by
  unfold isAgg
  rw [Sem.run_bind, run_underlying Tryd.underlying32 w]
  rfl
theorem msg_size {M : Msg} (h : M.Fits) (sl : Value) : (Tryd.prog.info? 32).map (·.size) = some (mc M sl).length := by rw [mc_length h]; exact Tryd.sizeMsg

/-- A message out of memory. -/
theorem run_load_msg {w : World} {g : Nat} {M : Msg} {sl : Value} (h : Blk w g 32 (mc M sl)) (hf : M.Fits) :
    (Instr.loadAt 32 (.pointer (some ⟨g, 0, none⟩))).run Tryd.prog w = .ok (.agg (mc M sl).toArray) w :=
  run_loadAt_agg h.msgAll 32 Tryd.aggMsg (msg_size hf sl)

theorem wpList_load_msg {ops : Array Oper} {rest : List Oper} {o : Oper} {a : Act} {w : World} {Q : Exit → Act → World → Prop} (x : Operand) (ho : o.op = .load 32 x) (hgd : o.guard = none)
    (g : Nat) (M : Msg) (sl : Value) (hx : a.eval x = .pointer (some ⟨g, 0, none⟩)) (hg : Blk w g 32 (mc M sl)) (hf : M.Fits)
    (h : wpList Tryd.prog ops Q rest (a.put o.dst (.agg (mc M sl).toArray)) w) : wpList Tryd.prog ops Q (o :: rest) a w :=
  wpList_load_agg hgd 32 x ho g 0 (mc M sl) hx hg.msgAll Tryd.aggMsg (msg_size hf sl) h

/-- What a message's Bits read. -/
theorem BRow.bits {w w' : World} {sl : Value} {l : List Bool} (h : BRow w w.heap.size sl l) (hb : Below w.heap.size w w') : BRow w' w'.heap.size sl l := (h.keep hb).more hb.size
theorem BRow.form {w : World} {B : Nat} {sl : Value} {l : List Bool} (h : BRow w B sl l) : ∃ ao cap, sl = .slice ao l.length cap := by
  obtain ⟨ao, cap, b, off, rfl, _⟩ := h
  exact ⟨ao, cap, rfl⟩
theorem BRow.one {w : World} {B : Nat} {sl : Value} {l : List Bool} (h : BRow w B sl l) : sl.oneCell' = true := by
  obtain ⟨ao, cap, b, off, rfl, _⟩ := h
  rfl
end Go.Proofs.YtnbdpalbompjlaaDoor

/-
  A configuration that can be, as one row of cells; what layer 6's calls answer of it.
-/
namespace Go.Proofs.YtnbdpalbompjlaaDoor
open Go.RowKit
set_option maxRecDepth 10000

/-- These cells are a configuration's that can be: C to a committee, validators vs. -/
def CfgOk (w : World) (cs : List Value) (C : Nat) (vs : List (Int × ByteArray)) : Prop :=
  ∃ (nao : Option Addr) (ncap b off : Nat) (n1 n3 n4 n5 n6 n7 n8 n9 n10 n11 : Int),
    cs = [.slice nao vs.length ncap, .int .i64 n1, .int .i64 C, .int .i64 n3, .int .i64 n4, .int .i64 n5, .int .i64 n6, .int .i64 n7, .int .i64 n8, .int .i64 n9, .int .i64 n10, .int .i64 n11] ∧
    1 ≤ vs.length ∧ vs.length ≤ 1000 ∧ 1 ≤ C ∧ C ≤ vs.length ∧ C ≤ 16 ∧ (∀ v ∈ vs, v.2.size ≤ 500) ∧ Lies w w.heap.size nao b off (vc vs)

theorem CfgOk.below {w w' : World} {cs : List Value} {C : Nat} {vs : List (Int × ByteArray)} (h : CfgOk w cs C vs) (hb : Below w.heap.size w w') : CfgOk w' cs C vs := by
  obtain ⟨nao, ncap, b, off, n1, n3, n4, n5, n6, n7, n8, n9, n10, n11, e, h1, h2, h3, h4, h5, h6, h7⟩ := h
  exact ⟨nao, ncap, b, off, n1, n3, n4, n5, n6, n7, n8, n9, n10, n11, e, h1, h2, h3, h4, h5, h6, h7.below hb⟩
theorem CfgOk.len {w : World} {cs : List Value} {C : Nat} {vs : List (Int × ByteArray)} (h : CfgOk w cs C vs) : cs.length = 12 := by
  obtain ⟨nao, ncap, b, off, n1, n3, n4, n5, n6, n7, n8, n9, n10, n11, e, h⟩ := h
  rw [e]; rfl
theorem CfgOk.vals {w : World} {cs : List Value} {C : Nat} {vs : List (Int × ByteArray)} (h : CfgOk w cs C vs) : 1 ≤ vs.length ∧ vs.length ≤ 1000 ∧ 1 ≤ C ∧ C ≤ vs.length ∧ C ≤ 16 := by
  obtain ⟨nao, ncap, b, off, n1, n3, n4, n5, n6, n7, n8, n9, n10, n11, e, h1, h2, h3, h4, h5, h6, h7⟩ := h
  exact ⟨h1, h2, h3, h4, h5⟩
theorem CfgOk.keys {w : World} {cs : List Value} {C : Nat} {vs : List (Int × ByteArray)} (h : CfgOk w cs C vs) : ∀ v ∈ vs, v.2.size ≤ 500 := by
  obtain ⟨nao, ncap, b, off, n1, n3, n4, n5, n6, n7, n8, n9, n10, n11, e, h1, h2, h3, h4, h5, h6, h7⟩ := h
  exact h6
/-- Its first cell: where the validators lie. -/
theorem CfgOk.head {w : World} {cs : List Value} {C : Nat} {vs : List (Int × ByteArray)} (h : CfgOk w cs C vs) : ∃ (b off ncap : Nat), cs[0]? = some (.slice (some ⟨b, off, none⟩) vs.length ncap) ∧
    ∀ (w' : World), Below w.heap.size w w' → ∀ (j : Nat) (v : Int × ByteArray), vs[j]? = some v → w'.cell? ⟨b, off + j * 2, none⟩ = some (.int .i64 v.1) ∧ w'.cell? ⟨b, off + j * 2 + 1, none⟩ = some (.string v.2) := by
  obtain ⟨nao, ncap, b, off, n1, n3, n4, n5, n6, n7, n8, n9, n10, n11, e, h1, h2, h3, h4, h5, h6, h7⟩ := h
  have ha := h7.addr (by rw [vc_length]; omega)
  subst ha
  exact ⟨b, off, ncap, by rw [e]; rfl, fun w' hb j v hv => (h7.val hb hv).2⟩

theorem Tryd.sizeCfg : (Tryd.prog.info? 24).map (·.size) = some 12 := by kernel_rfl
theorem Tryd.aggCfg (w : World) : (isAgg 24).run Tryd.prog w = .ok true w := by
  unfold isAgg
  rw [Sem.run_bind, run_underlying Tryd.underlying24 w]
  rfl
/-- A configuration out of memory. -/
theorem run_load_cfg {w : World} {g : Nat} {cs : List Value} (h : Blk w g 24 cs) (hl : cs.length = 12) :
    (Instr.loadAt 24 (.pointer (some ⟨g, 0, none⟩))).run Tryd.prog w = .ok (.agg cs.toArray) w :=
  run_loadAt_agg h.msgAll 24 Tryd.aggCfg (by rw [hl]; exact Tryd.sizeCfg)
theorem wpList_load_cfg {ops : Array Oper} {rest : List Oper} {o : Oper} {a : Act} {w : World} {Q : Exit → Act → World → Prop} (x : Operand) (ho : o.op = .load 24 x) (hgd : Region.wanted o (yielded ops a.tmps) = true)
    (g : Nat) (cs : List Value) (hx : a.eval x = .pointer (some ⟨g, 0, none⟩)) (hg : Blk w g 24 cs) (hl : cs.length = 12)
    (h : wpList Tryd.prog ops Q rest (a.put o.dst (.agg cs.toArray)) w) : wpList Tryd.prog ops Q (o :: rest) a w := by
  refine wpList_step fun K hK => ?_
  rw [if_pos hgd]
  unfold Oper.wp execOp
  simp only [ho, hx, Sem.run_bind, run_load_cfg hg hl, Result.andThen_ok]
  exact hK _ _ h
theorem stepAt_load_cfg {ops : Array Oper} {o : Oper} {a : Act} {w : World} {R : Value → World → Prop} {d : Tmp} (hd : o.dst = some d) (hw : Region.wanted o (yielded ops a.tmps) = true) (hz : decide (d < a.tmps.size) = true) (x : Operand) (ho : o.op = .load 24 x)
    (g : Nat) (cs : List Value) (hx : a.eval x = .pointer (some ⟨g, 0, none⟩)) (hg : Blk w g 24 cs) (hl : cs.length = 12) (h : R (.agg cs.toArray) w) : stepAt Tryd.prog ops o a w R := by
  refine stepAt_value hd hw hz _ w ?_ h
  unfold execOp
  simp only [ho, hx, Sem.run_bind, run_load_cfg hg hl, Result.andThen_ok]
  rfl

theorem place_cfg (w : World) (hT : Tabs w) {cs : List Value} {C : Nat} {vs : List (Int × ByteArray)} (h : CfgOk w cs C vs) (slot who : Int) :
    Calls Tryd.prog 30 #[.agg cs.toArray, .int .i64 slot, .int .i64 who] w fun e w' => e = .returned (.int .i64 (placeFrom who 0 (comm slot vs.length C))) ∧ Below w.heap.size w w' := by
  obtain ⟨nao, ncap, b, off, n1, n3, n4, n5, n6, n7, n8, n9, n10, n11, rfl, h1, h2, h3, h4, h5, h6, h7⟩ := h
  exact place_any w hT nao _ ncap n1 C n3 n4 n5 n6 n7 n8 n9 n10 n11 slot who C rfl h1 h2 h3 h4
theorem proposer_cfg (w : World) (hT : Tabs w) {cs : List Value} {C : Nat} {vs : List (Int × ByteArray)} (h : CfgOk w cs C vs) (slot : Int) :
    Calls Tryd.prog 29 #[.agg cs.toArray, .int .i64 slot] w fun e w' => e = .returned (.int .i64 (firstOf (comm slot vs.length C))) ∧ Below w.heap.size w w' := by
  obtain ⟨nao, ncap, b, off, n1, n3, n4, n5, n6, n7, n8, n9, n10, n11, rfl, h1, h2, h3, h4, h5, h6, h7⟩ := h
  exact proposer_any w hT nao _ ncap n1 C n3 n4 n5 n6 n7 n8 n9 n10 n11 slot C rfl h1 h2 h3 h4
theorem pick_cfg (w : World) (hT : Tabs w) {cs : List Value} {C : Nat} {vs : List (Int × ByteArray)} (h : CfgOk w cs C vs) (slot : Int) (sl : Value) (l : List Bool) (hr : BRow w w.heap.size sl l) :
    Calls Tryd.prog 31 #[.agg cs.toArray, .int .i64 slot, sl] w fun e w' => ∃ v, e = .returned (.tuple #[v, .bool (fits (comm slot vs.length C) l)]) ∧ Held w' w.heap.size v (iv (picked (comm slot vs.length C) l)) ∧ Below w.heap.size w w' := by
  obtain ⟨nao, ncap, b, off, n1, n3, n4, n5, n6, n7, n8, n9, n10, n11, rfl, h1, h2, h3, h4, h5, h6, h7⟩ := h
  obtain ⟨ao, cap, b', off', rfl, q1, q2, q3, q4, q5⟩ := hr
  exact pick_any w hT nao _ ncap n1 C n3 n4 n5 n6 n7 n8 n9 n10 n11 slot C rfl h1 h2 h3 h4 ao _ cap b' off' l rfl ⟨fun h0 => q3 (by simpa [ov] using h0), fun h0 => q4 (by simpa [ov] using h0), fun j u hj => by
    simp only [ov, List.getElem?_map, Option.map_eq_some_iff] at hj
    obtain ⟨y, hy, rfl⟩ := hj
    exact q5 j y hy⟩
theorem members_cfg (w : World) (hT : Tabs w) {cs : List Value} {C : Nat} {vs : List (Int × ByteArray)} (h : CfgOk w cs C vs) (slot : Int) :
    Calls Tryd.prog 49 #[.agg cs.toArray, .int .i64 slot] w fun e w' => ∃ v, e = .returned v ∧ Held w' w.heap.size v (iv (comm slot vs.length C)) ∧ Below w.heap.size w w' := by
  obtain ⟨nao, ncap, b, off, n1, n3, n4, n5, n6, n7, n8, n9, n10, n11, rfl, h1, h2, h3, h4, h5, h6, h7⟩ := h
  exact members_any w hT nao _ ncap n1 C n3 n4 n5 n6 n7 n8 n9 n10 n11 slot C rfl h1 h2 h3 h4
theorem refPlace_cfg (w : World) {cs : List Value} {C : Nat} {vs : List (Int × ByteArray)} (h : CfgOk w cs C vs) (slot who : Int) :
    Calls Tryd.prog 34 #[.agg cs.toArray, .int .i64 slot, .int .i64 who] w fun e w' => e = .returned (.int .i64 (placeFrom who 0 (comm slot vs.length C))) ∧ Below w.heap.size w w' := by
  obtain ⟨nao, ncap, b, off, n1, n3, n4, n5, n6, n7, n8, n9, n10, n11, rfl, h1, h2, h3, h4, h5, h6, h7⟩ := h
  exact refPlace_any w nao _ ncap n1 C n3 n4 n5 n6 n7 n8 n9 n10 n11 slot who C rfl h1 h2 h3 h4
theorem refPick_cfg (w : World) {cs : List Value} {C : Nat} {vs : List (Int × ByteArray)} (h : CfgOk w cs C vs) (slot : Int) (sl : Value) (l : List Bool) (hr : BRow w w.heap.size sl l) :
    Calls Tryd.prog 33 #[.agg cs.toArray, .int .i64 slot, sl] w fun e w' => ∃ v, e = .returned (.tuple #[v, .bool (fits (comm slot vs.length C) l)]) ∧ Held w' w.heap.size v (iv (picked (comm slot vs.length C) l)) ∧ Below w.heap.size w w' := by
  obtain ⟨nao, ncap, b, off, n1, n3, n4, n5, n6, n7, n8, n9, n10, n11, rfl, h1, h2, h3, h4, h5, h6, h7⟩ := h
  obtain ⟨ao, cap, b', off', rfl, q1, q2, q3, q4, q5⟩ := hr
  exact refPick_any w nao _ ncap n1 C n3 n4 n5 n6 n7 n8 n9 n10 n11 slot C rfl h1 h2 h3 h4 ao _ cap b' off' l rfl ⟨fun h0 => q3 (by simpa [ov] using h0), fun h0 => q4 (by simpa [ov] using h0), fun j u hj => by
    simp only [ov, List.getElem?_map, Option.map_eq_some_iff] at hj
    obtain ⟨y, hy, rfl⟩ := hj
    exact q5 j y hy⟩
theorem refMembers_cfg (w : World) {cs : List Value} {C : Nat} {vs : List (Int × ByteArray)} (h : CfgOk w cs C vs) (slot : Int) :
    Calls Tryd.prog 26 #[.agg cs.toArray, .int .i64 slot] w fun e w' => ∃ v, e = .returned v ∧ Held w' w.heap.size v (iv (comm slot vs.length C)) ∧ Below w.heap.size w w' := by
  obtain ⟨nao, ncap, b, off, n1, n3, n4, n5, n6, n7, n8, n9, n10, n11, rfl, h1, h2, h3, h4, h5, h6, h7⟩ := h
  exact refMembers_any w nao _ ncap n1 C n3 n4 n5 n6 n7 n8 n9 n10 n11 slot C rfl h1 h2 h3 h4
end Go.Proofs.YtnbdpalbompjlaaDoor

/-
  What wire.Good, and what it calls, answer.
-/
namespace Go.Proofs.YtnbdpalbompjlaaDoor
open Go.RowKit
set_option maxRecDepth 10000

theorem any_take_succ {l : List Bool} {k : Nat} {x : Bool} (h : l[k]? = some x) : (l.take (k + 1)).any id = ((l.take k).any id || x) := by
  rw [List.take_add_one, h]
  simp

set_option maxHeartbeats 1000000 in
theorem bindex_any (w : World) (u : Value) (l : List Bool) (hu : BRow w w.heap.size u l) (hl : l.length ≤ 1000) :
    Calls Tryd.prog 72 #[u, .bool true] w fun e w' => ∃ z : Int, e = .returned (.int .i64 z) ∧ Hid (decide (0 ≤ z) = l.any id) ∧ w = w' := by
  obtain ⟨ao, cap, b, off, rfl, _, _, hr⟩ := hu
  obtain ⟨L, hL⟩ : ∃ L, L = l.length := ⟨_, rfl⟩
  rw [← hL] at hl
  rw [← hL]
  have HL := Lib.hid hL
  have HR := Lib.hid hr
  clear hL hr
  go_enter Tryd.func72, Tryd.ntmps72
  go_wp2_with fail
  go_loop [5, 8] (fun _ i => ∃ k : Nat, k ≤ L ∧ i = .int .i64 k ∧ Hid ((l.take k).any id = false)) (fun _ i => L - (intOf i).toNat)
  case atStart => exact ⟨0, Nat.zero_le _, rfl, Lib.hid rfl⟩
  case round =>
    obtain ⟨k, hk, rfl, HN⟩ := hrel
    by_cases hlt : k < L
    · have hkl : k < l.length := by rw [← HL.out]; exact hlt
      obtain ⟨x, hx⟩ : ∃ x, l[k]? = some x := ⟨_, List.getElem?_eq_getElem hkl⟩
      obtain rfl := HR.out.addr (by omega)
      have c1 := HR.out.cells k x hx
      have HS := Lib.hid (any_take_succ hx)
      have HX := Lib.hid hx
      clear hx hkl
      cases x
      · go_wp2
        go_round
        case rel => exact ⟨k + 1, by omega, by go_num, Lib.hid (by rw [HS.out, HN.out]; rfl)⟩
        case measure => simp [intOf]; omega
      · go_wp2
        go_ret
        refine ⟨_, rfl, Lib.hid ?_, rfl⟩
        have : l.any id = true := List.any_eq_true.2 ⟨true, List.mem_of_getElem? HX.out, rfl⟩
        rw [this]
        simp
    · have HA := Lib.hid (show l.any id = false by rw [← HN.out, List.take_of_length_le (by rw [← HL.out]; omega)])
      go_wp2
      go_ret
      exact ⟨_, rfl, Lib.hid (by rw [HA.out]; rfl), rfl⟩

theorem bcontains_any (w : World) (u : Value) (l : List Bool) (hu : BRow w w.heap.size u l) (hl : l.length ≤ 1000) :
    Calls Tryd.prog 61 #[u, .bool true] w fun e w' => e = .returned (.bool (l.any id)) ∧ w = w' := by
  have H := Lib.hid (bindex_any w u l hu hl)
  clear hu
  go_enter Tryd.func61, Tryd.ntmps61
  go_wp2_with fail
  refine H.out.mono ?_
  rintro e w1 ⟨z, rfl, HZ, rfl⟩
  go_wp2
  go_ret
  exact ⟨by rw [← HZ.out]; rfl, rfl⟩

set_option maxHeartbeats 1000000 in
theorem goodRow_any (w : World) (u : Value) (l : List Bool) (hu : BRow w w.heap.size u l) :
    Calls Tryd.prog 48 #[u] w fun e w' => e = .returned (.bool (decide (l.length ≤ 16) && l.any id)) ∧ w = w' := by
  by_cases h16 : l.length ≤ 16
  · have H := Lib.hid (bcontains_any w u l hu (by omega))
    obtain ⟨ao, cap, rfl⟩ := hu.form
    rw [show decide (l.length ≤ 16) = true by simp; omega, Bool.true_and]
    have h1 : (l.length : Int) ≤ 16 := by omega
    generalize l.any id = A at H ⊢
    generalize l.length = L at *
    clear hu
    go_enter Tryd.func48, Tryd.ntmps48
    go_wp2_with fail
    refine H.out.mono ?_
    rintro e w1 ⟨rfl, rfl⟩
    go_wp2
    go_ret
    exact ⟨rfl, rfl⟩
  · obtain ⟨ao, cap, rfl⟩ := hu.form
    rw [show decide (l.length ≤ 16) = false by simp; omega, Bool.false_and]
    have h1 : ¬ (l.length : Int) ≤ 16 := by omega
    generalize l.length = L at *
    clear hu
    go_enter Tryd.func48, Tryd.ntmps48
    go_wp2
    go_ret
    exact ⟨rfl, rfl⟩

theorem msg_out {M : Msg} (h : ¬ (0 ≤ M.s ∧ M.s ≤ 1073741824 ∧ 0 ≤ M.m ∧ M.m ≤ 65535)) : msgGood M = false := by
  unfold msgGood
  rw [show decide (0 ≤ M.s ∧ M.s ≤ 1073741824 ∧ 0 ≤ M.m ∧ M.m ≤ 65535) = false by simpa using h, Bool.false_and]
theorem msg_in {M : Msg} (h : 0 ≤ M.s ∧ M.s ≤ 1073741824 ∧ 0 ≤ M.m ∧ M.m ≤ 65535) : msgGood M = (if M.k = 1 then decide (M.l.length = 0) else if M.k = 2 then decide (M.l.length = 0) && decide (M.b = 0) else if M.k = 3 then decide (M.m = 0) && decide (M.b = 0) && (decide (M.l.length ≤ 16) && M.l.any id) else false) := by
  unfold msgGood
  rw [show decide (0 ≤ M.s ∧ M.s ≤ 1073741824 ∧ 0 ≤ M.m ∧ M.m ≤ 65535) = true by simpa using h, Bool.true_and]

theorem nat_eq0 (n : Nat) : (((n : Nat) : Int) == 0) = decide (n = 0) := by
  rw [Bool.eq_iff_iff]; simp
theorem int_eq0 (n : Int) : (n == 0) = decide (n = 0) := by
  rw [Bool.eq_iff_iff]; simp

set_option maxHeartbeats 4000000 in
theorem wgood_any (w : World) (M : Msg) (sl : Value) (hf : M.Fits) (hr : BRow w w.heap.size sl M.l) :
    Calls Tryd.prog 27 #[.agg (mc M sl).toArray] w fun e w' => e = .returned (.bool (msgGood M)) ∧ Below w.heap.size w w' := by
  have hk0 := Blk.new w 32 (mc M sl).toArray
  have hb0 := (Below.refl w.heap.size w).alloc (Nat.le_refl _) (.cells (mc M sl).toArray 32)
  have HR := Lib.hid (hr.bits hb0)
  obtain ⟨c0, c1, c34, c35, c36⟩ := Blk.msg (g := w.heap.size) (M := M) (sl := sl) hk0 hf
  obtain ⟨ao, cap, hsl⟩ := hr.form
  replace c36 := c36.trans (congrArg some hsl)
  have HSL := Lib.hid hsl
  have HB := Lib.hid hb0
  clear hk0 hr hb0 hsl
  by_cases hin : 0 ≤ M.s ∧ M.s ≤ 1073741824 ∧ 0 ≤ M.m ∧ M.m ≤ 65535
  · have HM := Lib.hid (msg_in hin)
    obtain ⟨i1, i2, i3, i4⟩ := hin
    have d1 : ¬ M.s < 0 := by omega
    have d2 : ¬ 1073741824 < M.s := by omega
    have d3 : ¬ M.m < 0 := by omega
    have d4 : ¬ 65535 < M.m := by omega
    have HE := Lib.hid (nat_eq0 M.l.length)
    have HEb := Lib.hid (nat_eq0 M.b)
    have HEm := Lib.hid (int_eq0 M.m)
    by_cases k1 : M.k = 1
    · rw [HM.out, if_pos k1, ← HE.out]
      rw [k1] at c0
      clear HM k1
      generalize (mc M sl).toArray = C at *
      go_enter Tryd.func27, Tryd.ntmps27
      go_wp2
      go_ret
      exact ⟨rfl, HB.out⟩
    · by_cases k2 : M.k = 2
      · rw [HM.out, if_neg k1, if_pos k2, ← HE.out, ← HEb.out]
        rw [k2] at c0
        clear HM k1 k2
        generalize (mc M sl).toArray = C at *
        by_cases h0 : M.l.length = 0
        · rw [h0] at c36 ⊢
          go_enter Tryd.func27, Tryd.ntmps27
          go_wp2
          go_ret
          exact ⟨rfl, HB.out⟩
        · have e0 : (((M.l.length : Nat) : Int) == 0) = false := by rw [HE.out]; simpa using h0
          rw [e0, Bool.false_and]
          go_enter Tryd.func27, Tryd.ntmps27
          go_wp2
          go_ret
          exact ⟨rfl, HB.out⟩
      · by_cases k3 : M.k = 3
        · have HG := Lib.hid (goodRow_any _ sl M.l HR.out)
          rw [HM.out, if_neg k1, if_neg k2, if_pos k3, ← HEm.out, ← HEb.out]
          rw [k3] at c0
          have HG2 := HG.out
          obtain ⟨w0, hw0⟩ : ∃ x, x = w.alloc (.cells (mc M sl).toArray 32) := ⟨_, rfl⟩
          rw [← hw0, HSL.out] at HG2
          have HG := Lib.hid HG2
          rw [hw0] at HG
          clear HG2 hw0 HM k1 k2 k3
          generalize (mc M sl).toArray = C at *
          generalize (decide (M.l.length ≤ 16) && M.l.any id) = A at HG ⊢
          by_cases hm : M.m = 0
          · rw [hm] at c34 ⊢
            by_cases hb : M.b = 0
            · rw [hb] at c35 ⊢
              go_enter Tryd.func27, Tryd.ntmps27
              go_wp2_with fail
              refine HG.out.mono ?_
              rintro e w1 ⟨rfl, rfl⟩
              go_wp2
              go_ret
              exact ⟨rfl, HB.out⟩
            · have e0 : (((M.b : Nat) : Int) == 0) = false := by rw [HEb.out]; simpa using hb
              rw [e0]
              go_enter Tryd.func27, Tryd.ntmps27
              go_wp2
              go_ret
              exact ⟨rfl, HB.out⟩
          · have e0 : (M.m == 0) = false := by rw [HEm.out]; simpa using hm
            rw [e0]
            go_enter Tryd.func27, Tryd.ntmps27
            go_wp2
            go_ret
            exact ⟨rfl, HB.out⟩
        · rw [HM.out, if_neg k1, if_neg k2, if_neg k3]
          have e1 : (M.k == 1) = false := by simpa using k1
          have e2 : (M.k == 2) = false := by simpa using k2
          have e3 : (M.k == 3) = false := by simpa using k3
          clear HM
          generalize (mc M sl).toArray = C at *
          go_enter Tryd.func27, Tryd.ntmps27
          go_wp2
          go_ret
          exact ⟨rfl, HB.out⟩
  · rw [msg_out hin]
    generalize (mc M sl).toArray = C at *
    by_cases d1 : M.s < 0
    · go_enter Tryd.func27, Tryd.ntmps27
      go_wp2
      go_ret
      exact ⟨rfl, HB.out⟩
    · by_cases d2 : 1073741824 < M.s
      · go_enter Tryd.func27, Tryd.ntmps27
        go_wp2
        go_ret
        exact ⟨rfl, HB.out⟩
      · by_cases d3 : M.m < 0
        · go_enter Tryd.func27, Tryd.ntmps27
          go_wp2
          go_ret
          exact ⟨rfl, HB.out⟩
        · have d4 : 65535 < M.m := by omega
          go_enter Tryd.func27, Tryd.ntmps27
          go_wp2
          go_ret
          exact ⟨rfl, HB.out⟩
end Go.Proofs.YtnbdpalbompjlaaDoor
