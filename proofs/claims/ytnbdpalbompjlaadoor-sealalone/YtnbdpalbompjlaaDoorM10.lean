/-
  The texts Strs, Masked, Fill, MacOf, one behind the other.
-/
import Derived.Test.YtnbdpalbompjlaaDoorM6
import Derived.Stop.BytesEq
import Derived.Test.YtnbdpalbompjlaaDoorM4
/-
  Lists of texts that a law makes, and what Of answers of them.
-/
namespace Go.Proofs.YtnbdpalbompjlaaDoor
open Go.RowKit
set_option maxRecDepth 10000

theorem digest_length (bs : List UInt8) : (digest bs).length = 32 := by
  rw [digest, flat_length, runN_length _ _ rfl]

theorem string_same (l r : List UInt8) : ((ByteArray.mk l.toArray).toList == (ByteArray.mk r.toArray).toList) = (l == r) := by
  rw [ByteArray.toList_eq, ByteArray.toList_eq]

theorem Tryd.info9 : (Tryd.prog.info? 9).map (fun i => (i.zero, i.size, i.bytes)) = some (some (.string ⟨#[]⟩), 1, 16) := by kernel_rfl

/-- Texts as cells. -/
def sv (ss : List (List UInt8)) : List Value := ss.map fun s => Value.string ⟨s.toArray⟩
theorem sv_length (ss : List (List UInt8)) : (sv ss).length = ss.length := by simp [sv]
theorem sv_at {ss : List (List UInt8)} {j : Nat} {s : List UInt8} (h : ss[j]? = some s) : (sv ss)[j]? = some (.string ⟨s.toArray⟩) := by simp [sv, h]
theorem sv_one (ss : List (List UInt8)) : ∀ v ∈ sv ss, v.oneCell' = true := by
  intro v hv; rw [sv, List.mem_map] at hv; obtain ⟨x, _, rfl⟩ := hv; rfl
theorem sv_append (a b : List (List UInt8)) : sv (a ++ b) = sv a ++ sv b := by simp [sv]

theorem Held.strs {w : World} {base : Nat} {v : Value} {ss : List (List UInt8)} (h : Held w base v (sv ss)) : ∃ ao cap b off, v = .slice ao ss.length cap ∧ StrAt w w.heap.size ao b off ss := by
  obtain ⟨n, cap, g, off, ao, rfl, h⟩ := h
  have hl := h.len
  rw [sv_length] at hl
  subst hl
  exact ⟨ao, cap, g, off, rfl, fun h0 => h.addr (Nat.lt_of_lt_of_le h0 h.le), fun h0 => h.lt (Nat.lt_of_lt_of_le h0 h.le), fun j s hj => h.cells j _ (sv_at hj)⟩

theorem of_held {w : World} {base : Nat} {v : Value} {ss : List (List UInt8)} (h : Held w base v (sv ss)) (hT : Tabs w) (hn : ss.length ≤ 100000) (hl : ∀ s ∈ ss, s.length ≤ 100000) :
    Calls Tryd.prog 52 #[v] w fun e w' => e = .returned (.agg (bv (digest ss.flatten)).toArray) ∧ Below w.heap.size w w' := by
  obtain ⟨ao, cap, b, off, rfl, hs⟩ := h.strs
  exact of_any w ao ss.length cap b off ss hT rfl hn hs hl

theorem str_one (w : World) (s : List UInt8) : StrAt (w.alloc (.cells #[.string ⟨s.toArray⟩] 9)) (w.alloc (.cells #[.string ⟨s.toArray⟩] 9)).heap.size (some ⟨w.heap.size, 0, none⟩) w.heap.size 0 [s] := by
  refine ⟨fun _ => rfl, fun _ => by simp, fun j x hj => ?_⟩
  rw [Nat.zero_add, (Blk.new w 9 #[.string ⟨s.toArray⟩]).cell]
  match j, hj with
  | 0, hj => simp at hj; subst hj; rfl

/-- Of one text that was just built. -/
theorem of_one (w : World) (s : List UInt8) (hT : Tabs w) (hl : s.length ≤ 100000) :
    Calls Tryd.prog 52 #[.slice (some ⟨w.heap.size, 0, none⟩) 1 1] (w.alloc (.cells #[.string ⟨s.toArray⟩] 9)) fun e w' => e = .returned (.agg (bv (digest s)).toArray) ∧ Below w.heap.size w w' := by
  have hb : Below w.heap.size w (w.alloc (.cells #[.string ⟨s.toArray⟩] 9)) := (Below.refl _ _).alloc (Nat.le_refl _) _
  refine (of_any _ _ 1 1 w.heap.size 0 [s] (hT.below hb hT.size) rfl (by omega) (str_one w s) (by simpa using hl)).mono fun e w' ⟨h1, h2⟩ => ⟨?_, hb.trans (h2.mono hb.size)⟩
  rw [h1]
  simp

theorem root_eq (w : World) (r s : List UInt8) (hr : r.length = 32) (hs : s.length = 32) : (Op.equalIn 10000 26 (.agg (bv r).toArray) (.agg (bv s).toArray)).run Tryd.prog w = .ok (r == s) w :=
  run_equalIn_bytes w 9998 26 5 32 Tryd.underlying26 Tryd.underlying5 sizeOf5 r s hr hs

/-- A text that was just built, as append's source. -/
theorem src_str {P : Program} (w : World) (t : TypeId) (ht : P.underlying t = some (.slice 9)) (s : List UInt8) : Src P 1 t (.slice (some ⟨w.heap.size, 0, none⟩) 1 1) 1 (sv [s]) (w.alloc (.cells #[.string ⟨s.toArray⟩] 9)) := by
  refine Src.ofSlice _ ht _ 1 1 _ rfl ?_ (sv_one _)
  intro i x hi
  match i, hi with
  | 0, hi => simp [sv] at hi; subst hi; simp [Addr.add]

/-- Texts that lie in memory, as append's source. -/
theorem StrAt.src {P : Program} {w : World} {B b off : Nat} {ao : Option Addr} {ss : List (List UInt8)} (h : StrAt w B ao b off ss) (cap : Nat) (t : TypeId) (ht : P.underlying t = some (.slice 9)) : Src P 1 t (.slice ao ss.length cap) ss.length (sv ss) w := by
  by_cases h0 : ss.length = 0
  · obtain rfl : ss = [] := List.eq_nil_of_length_eq_zero h0
    cases ao with
    | none => exact Src.ofNil w ht cap
    | some a => exact Src.ofSlice w ht a 0 cap [] rfl (fun j u hj => by simp at hj) (fun u hu => by simp at hu)
  · have ha := h.addr (by omega)
    subst ha
    refine Src.ofSlice w ht ⟨b, off, none⟩ _ cap (sv ss) (by rw [sv_length, Nat.mul_one]) (fun j u hj => ?_) (sv_one ss)
    rw [sv, List.getElem?_map] at hj
    cases hx : ss[j]? with
    | none => rw [hx] at hj; cases hj
    | some x => rw [hx] at hj; cases hj; rw [Addr.add_lit]; exact h.cells j x hx

theorem held_empty (w : World) (e : TypeId) (a : Nat) (h : w.heap.size ≤ a) : Held (w.alloc (.cells #[] e)) w.heap.size (.slice (some ⟨a, 0, none⟩) 0 0) [] :=
  ⟨0, 0, 0, 0, _, rfl, rfl, Nat.le_refl _, Nat.zero_le _, fun h => absurd h (by omega), fun a' ha => by cases ha; exact h, fun h => absurd h (by omega), fun j u h => by simp at h, fun j h => absurd h (by omega), fun j h => absurd h (by omega)⟩

/-- Texts without bytes that were made. -/
theorem made_strs (w : World) (n : Nat) : StrAt (w.alloc (.cells (madeCells (Value.string ⟨#[]⟩).cells n) 9)) (w.alloc (.cells (madeCells (Value.string ⟨#[]⟩).cells n) 9)).heap.size (some ⟨w.heap.size, 0, none⟩) w.heap.size 0 (List.replicate n []) := by
  have hs : (madeCells (Value.string ⟨#[]⟩).cells n).size = n := size_madeCells _ _
  refine ⟨fun _ => rfl, fun _ => by simp, fun j s hj => ?_⟩
  have hjn : j < n := by have := (List.getElem?_eq_some_iff.1 hj).1; simpa using this
  rw [List.getElem?_replicate, if_pos hjn] at hj
  cases hj
  rw [Nat.zero_add, World.cell?_alloc_mark, Array.getElem?_eq_getElem (by omega)]
  simp [madeCells, Value.cells, Nat.mod_one]
end Go.Proofs.YtnbdpalbompjlaaDoor

/-
  Keys of tags: bytes exclusive or'd with a byte, filled up to 64; what masked answers.
-/
namespace Go.Proofs.YtnbdpalbompjlaaDoor
open Go.RowKit
set_option maxRecDepth 10000

def mask (m : UInt8) (l : List UInt8) : List UInt8 := l.map fun b => b ^^^ m
theorem mask_length (m : UInt8) (l : List UInt8) : (mask m l).length = l.length := by simp [mask]
/-- The first i bytes are turned. -/
def maskN (m : UInt8) (l : List UInt8) (i : Nat) : List UInt8 := mask m (l.take i) ++ l.drop i
theorem maskN_length (m : UInt8) (l : List UInt8) (i : Nat) : (maskN m l i).length = l.length := by
  simp [maskN, mask]
  omega
theorem maskN_zero (m : UInt8) (l : List UInt8) : maskN m l 0 = l := by simp [maskN, mask]
theorem maskN_all (m : UInt8) (l : List UInt8) (i : Nat) (h : l.length ≤ i) : maskN m l i = mask m l := by
  rw [maskN, List.take_of_length_le h, List.drop_of_length_le h, List.append_nil]
theorem maskN_at (m : UInt8) (l : List UInt8) (i : Nat) (h : i < l.length) : (maskN m l i)[i]? = some (l.getD i 0) := by
  rw [maskN, List.getElem?_append_right (by rw [mask_length, List.length_take]; omega), mask_length, List.length_take, Nat.min_eq_left (by omega), Nat.sub_self, List.getElem?_drop, Nat.add_zero]
  exact getD_some l i h
theorem maskN_set (m : UInt8) (l : List UInt8) (i : Nat) (h : i < l.length) : (maskN m l i).set i (l.getD i 0 ^^^ m) = maskN m l (i + 1) := by
  have hl : (mask m (l.take i)).length = i := by rw [mask_length, List.length_take]; omega
  have hd : l.drop i = l.getD i 0 :: l.drop (i + 1) := by
    rw [List.drop_eq_getElem_cons h, List.getD_eq_getElem?_getD, List.getElem?_eq_getElem h]; rfl
  rw [maskN, List.set_append_right _ _ (by omega), hl, Nat.sub_self, hd, List.set_cons_zero, maskN, List.take_add_one, getD_some l i (x := 0) h]
  simp [mask]

theorem ofInt8 (a : Nat) : BitVec.ofInt 8 (a : Int) = BitVec.ofNat 8 a := by simp
theorem rule_xor8 (a b : UInt8) : bits .xor .u8 (a.toNat : Int) (b.toNat : Int) = (((a ^^^ b).toNat : Nat) : Int) := by
  have ha := a.toNat_lt
  have hb := b.toNat_lt
  have hx : a.toNat ^^^ b.toNat < 2 ^ 8 := Nat.xor_lt_two_pow (by omega) (by omega)
  rw [bits, show IntKind.u8.bits = 8 from rfl, ofInt8, ofInt8]
  simp only [BitVec.toNat_xor, BitVec.toNat_ofNat, UInt8.toNat_xor]
  rw [Nat.mod_eq_of_lt (by omega : a.toNat < 2 ^ 8), Nat.mod_eq_of_lt (by omega : b.toNat < 2 ^ 8)]
  simp [IntKind.wrap, IntKind.bits, IntKind.signed]
  omega

theorem bv_set (l : List UInt8) (j : Nat) (x : UInt8) : (bv l).set j (.int .u8 (x.toNat : Int)) = bv (l.set j x) := by simp [bv, List.map_set]
theorem bv_some {l : List UInt8} {j : Nat} {x : UInt8} (h : l[j]? = some x) : (bv l)[j]? = some (.int .u8 (x.toNat : Int)) := by simp [bv, h]

def MaskRel (w : World) (K : List UInt8) (m : UInt8) (x : Value) (wr : World) : Prop :=
  ∃ i : Nat, x = .int .i64 (i : Int) ∧ i ≤ 64 ∧ Blk wr w.heap.size 82 (bv (maskN m K i)) ∧ Below w.heap.size w wr

set_option maxHeartbeats 1000000 in
theorem masked_any (w : World) (K : List UInt8) (m : UInt8) (hK : K.length = 64) :
    Calls Tryd.prog 51 #[.agg (bv K).toArray, .int .u8 (m.toNat : Int)] w fun e w' => e = .returned (.string ⟨(mask m K).toArray⟩) ∧ Below w.heap.size w w' := by
  have HK := Lib.hid hK
  clear hK
  go_enter Tryd.func51, Tryd.ntmps51
  go_wp2_with fail
  go_loopw [6] (fun x wr => MaskRel w K m x wr) (fun x _ => 64 - intN x)
  case atStart =>
    refine ⟨0, rfl, by omega, ?_, (Below.refl _ _).alloc (Nat.le_refl _) _⟩
    rw [maskN_zero]
    exact Blk.new w 82 (bv K).toArray
  case round =>
    obtain ⟨i, rfl, hi, hR, hB⟩ := hrel
    by_cases hlt : i < 64
    · have d0 : (i : Int) < 64 := by omega
      have hiK : i < K.length := by rw [HK.out]; exact hlt
      obtain ⟨b, hb⟩ : ∃ b, b = K.getD i 0 := ⟨_, rfl⟩
      have q := (hR.cell i).trans (bv_some (maskN_at m K i hiK))
      rw [← hb] at q
      have f := hR.free i
      have r := rule_xor8 b m
      have hR2 := hR.set i (.int .u8 (((b ^^^ m).toNat : Nat) : Int))
      rw [bv_set, hb, maskN_set m K i hiK, ← hb] at hR2
      have HR2 := Lib.hid hR2
      have HB2 := Lib.hid (hB.setCell (p := ⟨w.heap.size, i, none⟩) (Nat.le_refl _) (.int .u8 (((b ^^^ m).toNat : Nat) : Int)))
      clear hR hR2 hB hb
      go_wp2_with fail
      refine ⟨⟨i + 1, by simp, by omega, HR2.out, HB2.out⟩, ?_⟩
      simp only [intN]
      omega
    · obtain rfl : i = 64 := by omega
      rw [maskN_all m K 64 (by rw [HK.out]; omega)] at hR
      have hcv := conv_bytes hR
      rw [mask_length, HK.out] at hcv
      have HB := Lib.hid hB
      clear hB hR
      go_wp2_with fail
      go_ret
      exact ⟨rfl, HB.out⟩
end Go.Proofs.YtnbdpalbompjlaaDoor

/-
  What fill answers: the key, or its digest, filled up with bytes 0 to 64.
-/
namespace Go.Proofs.YtnbdpalbompjlaaDoor
open Go.RowKit
set_option maxRecDepth 10000

/-- The key, or its digest. -/
def keyB (k : List UInt8) : List UInt8 := if 64 < k.length then digest k else k
def fillK (k : List UInt8) : List UInt8 := keyB k ++ List.replicate (64 - (keyB k).length) 0
theorem keyB_le (k : List UInt8) : (keyB k).length ≤ 64 := by
  unfold keyB
  split
  · rw [digest_length]; omega
  · omega
theorem fillK_length (k : List UInt8) : (fillK k).length = 64 := by
  have := keyB_le k
  simp [fillK]; omega

/-- Bytes 0, as cells. -/
def zb (n : Nat) : List Value := bv (List.replicate n 0)
theorem zb_length (n : Nat) : (zb n).length = n := by simp [zb, bv]
theorem splice_zb (n : Nat) (cs : List UInt8) : splice (zb n) 0 (bv cs) = bv (cs ++ List.replicate (n - cs.length) 0) := by
  rw [zb, bv_splice]
  congr 1
  rw [splice, List.take_zero, List.nil_append, List.drop_replicate, Nat.zero_add]

theorem Tryd.zero82 : (Tryd.prog.info? 82).map (fun i => (i.zero, i.size)) = some (some (.agg (zb 64).toArray), 64) := by kernel_rfl
theorem Tryd.zero26 : (Tryd.prog.info? 26).map (fun i => (i.zero, i.size)) = some (some (.agg (zb 32).toArray), 32) := by kernel_rfl

set_option maxHeartbeats 4000000 in
theorem fill_any (w : World) (k : List UInt8) (hT : Tabs w) (hk : k.length ≤ 100000) :
    Calls Tryd.prog 50 #[.string ⟨k.toArray⟩] w fun e w' => e = .returned (.agg (bv (fillK k)).toArray) ∧ Below w.heap.size w w' := by
  obtain ⟨S, hS⟩ : ∃ S : ByteArray, S = ⟨k.toArray⟩ := ⟨_, rfl⟩
  have zS : S.size = k.length := by rw [hS]; simp [ByteArray.size]
  have HSS := Lib.hid hS
  have hz := (zero_of_info Tryd.zero82).1
  have hz2 := (zero_of_info Tryd.zero26).1
  have hb0 := (Blk.new w 82 (zb 64).toArray).alloc (.cells (zb 64).toArray 82)
  have hb1 := Blk.new (w.alloc (.cells (zb 64).toArray 82)) 82 (zb 64).toArray
  simp only [World.size_alloc] at hb1
  have hB : Below w.heap.size w ((w.alloc (.cells (zb 64).toArray 82)).alloc (.cells (zb 64).toArray 82)) := ((Below.refl _ _).alloc (Nat.le_refl _) _).alloc (by simp) _
  have H0 := Lib.hid hb0
  have H1 := Lib.hid hb1
  have HB := Lib.hid hB
  have HT := Lib.hid hT
  clear hb0 hb1 hB hT
  rw [← hS]
  clear hS
  go_enter Tryd.func50, Tryd.ntmps50
  have HE := Lib.hid (show ∀ (w5 : World), Blk w5 (w.heap.size + 1) 82 (bv (fillK k)) → Blk w5 w.heap.size 82 (zb 64) → Below w.heap.size w w5 → (∀ j v, (bv (fillK k))[j]? = some v → w5.cell? ⟨w.heap.size + 1, 0 + j, none⟩ = some v) ∧ (Tryd.prog.info? 82).map (·.size) = some (bv (fillK k)).length ∧ 0 + (bv (fillK k)).length ≤ (zb 64).length ∧ splice (zb 64) 0 (bv (fillK k)) = bv (fillK k) ∧ Blk (w5.setRow w.heap.size (bv (fillK k)).toArray) w.heap.size 82 (bv (fillK k)) ∧ Below w.heap.size w (w5.setRow w.heap.size (bv (fillK k)).toArray) from fun w5 h1 h0 hB =>
    ⟨h1.cells, by rw [bv_length, fillK_length]; exact Tryd.size82, by rw [bv_length, fillK_length, zb_length]; omega, splice_all _ _ (by rw [bv_length, fillK_length, zb_length]), h0.setRow _, below_setRow hB (Nat.le_refl _) _⟩)
  by_cases h64 : 64 < k.length
  · have d : (64 : Int) < (k.length : Int) := by omega
    go_wp2_with fail
    have hof := of_one ((w.alloc (.cells (zb 64).toArray 82)).alloc (.cells (zb 64).toArray 82)) k (HT.out.below HB.out HT.out.size) hk
    rw [← HSS.out] at hof
    simp only [World.size_alloc] at hof
    refine hof.mono ?_
    clear hof
    rintro e w2 ⟨rfl, hb2⟩
    have h0 := H0.out.below hb2 (by have := H0.out.lt; simp only [World.size_alloc] at this; exact this)
    have h1 := H1.out.below hb2 (by have := H1.out.lt; simp only [World.size_alloc] at this; exact this)
    have hB2 : Below w.heap.size w w2 := HB.out.trans (hb2.mono (by omega))
    obtain ⟨D, hD⟩ : ∃ D, D = digest k := ⟨_, rfl⟩
    have hDl : D.length = 32 := by rw [hD]; exact digest_length _
    rw [← hD]
    have HD := Lib.hid (show fillK k = D ++ List.replicate (64 - D.length) 0 by rw [fillK, keyB, if_pos h64, hD])
    clear hD hb2 H0 H1 HB hz
    have hn := Blk.new w2 26 (zb 32).toArray
    have hlt0 : w.heap.size < w2.heap.size := h0.lt
    have hlt1 : w.heap.size + 1 < w2.heap.size := h1.lt
    have HN := Lib.hid hn
    have HS' := Lib.hid (hn.setRow (bv D))
    have H0 := Lib.hid ((h0.alloc (.cells (zb 32).toArray 26)).setRow_other (bv D).toArray (show w.heap.size ≠ w2.heap.size by omega))
    have H1 := Lib.hid ((h1.alloc (.cells (zb 32).toArray 26)).setRow_other (bv D).toArray (show w.heap.size + 1 ≠ w2.heap.size by omega))
    have HB3 := Lib.hid (below_setRow (hB2.alloc (by omega) (.cells (zb 32).toArray 26)) (show w.heap.size ≤ w2.heap.size by omega) (bv D).toArray)
    have HZ := Lib.hid (show (Tryd.prog.info? 26).map (·.size) = some (bv D).length by rw [bv_length, hDl]; exact Tryd.size26)
    have HL := Lib.hid (show 0 + (bv D).length ≤ (zb 32).toArray.toList.length by rw [bv_length, hDl]; simp [zb_length])
    have HP := Lib.hid (splice_all (zb 32).toArray.toList (bv D) (by rw [bv_length, hDl]; simp [zb_length]))
    clear h0 h1 hn hB2
    go_wp2_with ((with_reducible refine wpList_store_part ?_ 26 (.tmp 4) (.tmp 10) ?_ w2.heap.size 0 (bv D) ?_ ?_ 26 _ HN.out HZ.out HL.out (bv_one _) ?_); rfl; rfl; rfl; rfl; rw [HP.out])
    simp only [Act.put]
    generalize (w2.alloc (.cells (zb 32).toArray 26)).setRow w2.heap.size (bv D).toArray = w3 at HS' H0 H1 HB3 ⊢
    refine wp_region_draws_tail 2 (by kernel_rfl) (by kernel_rfl) ?_
    simp only [List.take_succ_cons, List.take_zero, List.drop_succ_cons, List.drop_zero]
    repeat (go_big_quiet_step (fail))
    refine wpQuiet_nil ?_
    rintro _ ⟨nq, rfl⟩
    have g0 := H0.out.drewN nq
    have g1 := H1.out.drewN nq
    have gs := HS'.out.drewN nq
    have gb := below_drewN' HB3.out nq
    generalize w3.drewN nq = w4 at g0 g1 gs gb ⊢
    clear HN H0 H1 HS' HB3 HZ HL HP hz2
    refine wpList_copy_splice rfl (.tmp 11) (.tmp 12) 86 86 rfl 5 Tryd.underlying86 Tryd.size5 _ _ 64 64 32 32 rfl rfl (w.heap.size + 1) 0 (zb 64) 82 g1 (bv D) ?_ (fun _ => ⟨rfl, ⟨w2.heap.size, 0, none⟩, rfl, ?_⟩) ?_ (bv_one _) (w.heap.size + 1) w4 (Below.refl _ _) (Nat.le_refl _) ?_
    · rw [bv_length, hDl]; rfl
    · intro j v hj
      rw [Addr.add_lit, Nat.zero_add, gs.cell]; exact hj
    · rw [bv_length, zb_length, hDl]; omega
    intro w5 HG5 hB5
    have hg5 := HG5.out
    rw [splice_zb 64 D, ← HD.out] at hg5
    obtain ⟨e1, e2, e3, e4, e5, e6⟩ := HE.out w5 hg5 (g0.below hB5 (by omega)) (gb.trans (hB5.mono (by omega)))
    have HR0 := Lib.hid (g0.below hB5 (by omega))
    have E1 := Lib.hid e1
    have E2 := Lib.hid e2
    have E3 := Lib.hid e3
    have E4 := Lib.hid e4
    have E5 := Lib.hid e5
    have E6 := Lib.hid e6
    clear HG5 g0 g1 gs gb hB5 HD hlt0 hlt1 hg5 e1 e2 e3 e4 e5 e6 HE
    generalize hF : fillK k = F at *
    have HF := Lib.hid hF
    clear hF
    go_wp2_with (first
        | ((with_reducible refine wpList_load_cells ?_ 82 (.tmp 3) ?_ _ 0 _ ?_ 64 5 E1.out Tryd.underlying82 E2.out ?_); rfl; rfl; rfl)
        | ((with_reducible refine wpList_store_part ?_ 82 (.tmp 2) (.tmp 14) ?_ w.heap.size 0 (bv F) ?_ ?_ 82 _ HR0.out E2.out E3.out (bv_one _) ?_); rfl; rfl; rfl; rfl; rw [E4.out]))
    refine bodyPost_ret (v := .agg (bv F).toArray) ?_ rfl ⟨by rw [HF.out], E6.out⟩
    exact results_cell_row rfl _ _ w.heap.size 82 _ (0, 0) (.array 64 5) rfl E5.out Tryd.underlying82 rfl (by rw [List.size_toArray]; exact E2.out)
  · have d : ¬ (64 : Int) < (k.length : Int) := by omega
    generalize hW : (w.alloc (.cells (zb 64).toArray 82)).alloc (.cells (zb 64).toArray 82) = W at H0 H1 HB
    have HW := Lib.hid hW
    clear hW
    have hFK : splice (zb 64) 0 (bv (k.take k.length)) = bv (fillK k) := by rw [splice_zb, List.take_length, fillK, keyB, if_neg h64]
    have hm : min k.length 64 = k.length := by omega
    have hg5 := H1.out.setRow (bv (fillK k))
    have hr5 := H0.out.setRow_other (bv (fillK k)).toArray (show w.heap.size ≠ w.heap.size + 1 by omega)
    obtain ⟨e1, e2, e3, e4, e5, e6⟩ := HE.out _ hg5 hr5 (below_setRow HB.out (show w.heap.size ≤ w.heap.size + 1 by omega) _)
    have HR0 := Lib.hid hr5
    have E1 := Lib.hid e1
    have E2 := Lib.hid e2
    have E3 := Lib.hid e3
    have E4 := Lib.hid e4
    have E5 := Lib.hid e5
    have E6 := Lib.hid e6
    have HFK := Lib.hid hFK
    have HM := Lib.hid hm
    have HL := Lib.hid (show 0 + k.length ≤ (zb 64).length by rw [zb_length]; omega)
    clear hg5 hr5 e1 e2 e3 e4 e5 e6 HE hz2 hFK hm HB H0
    generalize hF : fillK k = F at *
    have HF := Lib.hid hF
    clear hF
    go_wp2_with (first
        | ((with_reducible refine wpList_copy_string ?_ (.tmp 15) (.tmp 16) 86 9 ?_ 5 Tryd.underlying86 Tryd.size5 (w.heap.size + 1) 0 64 64 k k.length HM.out ?_ ?_ (zb 64) 82 ?_ HL.out ?_); rfl; rfl; rfl; (rw [← HSS.out]; rfl); (rw [HW.out]; exact H1.out); rw [HFK.out, HW.out])
        | ((with_reducible refine wpList_load_cells ?_ 82 (.tmp 3) ?_ _ 0 _ ?_ 64 5 E1.out Tryd.underlying82 E2.out ?_); rfl; rfl; rfl)
        | ((with_reducible refine wpList_store_part ?_ 82 (.tmp 2) (.tmp 18) ?_ w.heap.size 0 (bv F) ?_ ?_ 82 _ HR0.out E2.out E3.out (bv_one _) ?_); rfl; rfl; rfl; rfl; rw [E4.out]))
    refine bodyPost_ret (v := .agg (bv F).toArray) ?_ rfl ⟨rfl, E6.out⟩
    exact results_cell_row rfl _ _ w.heap.size 82 _ (0, 0) (.array 64 5) rfl E5.out Tryd.underlying82 rfl (by rw [List.size_toArray]; exact E2.out)
end Go.Proofs.YtnbdpalbompjlaaDoor

/-
  What Of answers of a key and texts: the first half of the digest of the outer key and the inner digest.
-/
namespace Go.Proofs.YtnbdpalbompjlaaDoor
open Go.RowKit
set_option maxRecDepth 10000

def inner (k s : List UInt8) : List UInt8 := digest (mask 54 (fillK k) ++ s)
def outer (k s : List UInt8) : List UInt8 := digest (mask 92 (fillK k) ++ inner k s)
def tag (k s : List UInt8) : List UInt8 := (outer k s).take 16
theorem tag_length (k s : List UInt8) : (tag k s).length = 16 := by
  rw [tag, List.length_take, outer, digest_length]; rfl

theorem Tryd.zero30 : (Tryd.prog.info? 30).map (fun i => (i.zero, i.size)) = some (some (.agg (zb 16).toArray), 16) := by kernel_rfl
theorem Tryd.size30 : (Tryd.prog.info? 30).map (·.size) = some 16 := by kernel_rfl

theorem setRow_size' (w : World) (g : Nat) (cs : Array Value) : (w.setRow g cs).heap.size = w.heap.size := by simp [World.setRow]
theorem masked_in {w w' : World} (hb : Below w.heap.size w w') (K : List UInt8) (m : UInt8) (hK : K.length = 64) (S : ByteArray) (hS : S = ⟨(mask m K).toArray⟩) :
    Calls Tryd.prog 51 #[.agg (bv K).toArray, .int .u8 (m.toNat : Int)] w' fun e w'' => e = .returned (.string S) ∧ Below w.heap.size w w'' :=
  (masked_any w' K m hK).mono fun _ _ ⟨h1, h2⟩ => ⟨by rw [h1, hS], hb.trans (h2.mono hb.size)⟩

/-- Texts that stand in one block that was just made. -/
theorem str_two (w : World) (s t : List UInt8) : StrAt (w.alloc (.cells #[.string ⟨s.toArray⟩, .string ⟨t.toArray⟩] 9)) (w.alloc (.cells #[.string ⟨s.toArray⟩, .string ⟨t.toArray⟩] 9)).heap.size (some ⟨w.heap.size, 0, none⟩) w.heap.size 0 [s, t] := by
  refine ⟨fun _ => rfl, fun _ => by simp, fun j x hj => ?_⟩
  rw [Nat.zero_add, (Blk.new w 9 #[.string ⟨s.toArray⟩, .string ⟨t.toArray⟩]).cell]
  match j, hj with
  | 0, hj => simp at hj; subst hj; rfl
  | 1, hj => simp at hj; subst hj; rfl

theorem of_two (w : World) (s t : List UInt8) (hT : Tabs w) (hs : s.length ≤ 100000) (ht : t.length ≤ 100000) :
    Calls Tryd.prog 52 #[.slice (some ⟨w.heap.size, 0, none⟩) 2 2] (w.alloc (.cells #[.string ⟨s.toArray⟩, .string ⟨t.toArray⟩] 9)) fun e w' => e = .returned (.agg (bv (digest (s ++ t))).toArray) ∧ Below w.heap.size w w' := by
  have hb : Below w.heap.size w (w.alloc (.cells #[.string ⟨s.toArray⟩, .string ⟨t.toArray⟩] 9)) := (Below.refl _ _).alloc (Nat.le_refl _) _
  refine (of_any _ _ 2 2 w.heap.size 0 [s, t] (hT.below hb hT.size) rfl (by omega) (str_two w s t) (by simp; omega)).mono fun e w' ⟨h1, h2⟩ => ⟨?_, hb.trans (h2.mono hb.size)⟩
  rw [h1]
  simp

theorem held_one (w : World) (s : List UInt8) : Held (w.alloc (.cells #[.string ⟨s.toArray⟩] 9)) w.heap.size (.slice (some ⟨w.heap.size, 0, none⟩) 1 1) (sv [s]) := by
  have hb := Blk.new w 9 #[.string ⟨s.toArray⟩]
  refine ⟨1, 1, w.heap.size, 0, _, rfl, rfl, Nat.le_refl _, by unfold maxLen; omega, fun _ => rfl, fun a ha => by cases ha; exact Nat.le_refl _, fun _ => by simp, fun j u hj => ?_, fun j hj => ?_, fun j hj => ?_⟩
  · rw [Nat.zero_add, hb.cell]; exact hj
  · obtain rfl : j = 0 := by omega
    rw [hb.cell]; rfl
  · exact hb.free _

set_option maxHeartbeats 8000000 in
theorem macOf_any (w : World) (k : List UInt8) (ao : Option Addr) (n cap b off : Nat) (ss : List (List UInt8)) (hT : Tabs w) (hk : k.length ≤ 100000) (hn : ss.length = n) (hnn : n ≤ 90000) (hs : StrAt w w.heap.size ao b off ss) (hl : ∀ s ∈ ss, s.length ≤ 100000) :
    Calls Tryd.prog 35 #[.string ⟨k.toArray⟩, .slice ao n cap] w fun e w' => e = .returned (.agg (bv (tag k ss.flatten)).toArray) ∧ Below w.heap.size w w' := by
  obtain ⟨i0, hi, hz0, hz1, hz2⟩ := info_parts Tryd.info9
  have hzA := (zero_of_info Tryd.zero30).1
  have hzB := (zero_of_info Tryd.zero82).1
  have hzC := (zero_of_info Tryd.zero26).1
  have hb1 := Blk.new w 30 (zb 16).toArray
  have hB1 : Below w.heap.size w (w.alloc (.cells (zb 16).toArray 30)) := (Below.refl _ _).alloc (Nat.le_refl _) _
  obtain ⟨w1, hw1⟩ : ∃ w1, w1 = w.alloc (.cells (zb 16).toArray 30) := ⟨_, rfl⟩
  rw [← hw1] at hb1 hB1
  have HW1 := Lib.hid hw1
  have H1 := Lib.hid (show Blk w1 w.heap.size 30 (zb 16) from hb1)
  have HB1 := Lib.hid hB1
  have HT := Lib.hid hT
  have HN := Lib.hid hn
  have HS := Lib.hid hs
  have HL := Lib.hid hl
  clear hb1 hB1 hw1 hT hn hs hl
  go_enter Tryd.func35, Tryd.ntmps35
  go_wp2_with fail
  rw [← HW1.out]
  refine (fill_any w1 k (HT.out.below HB1.out HT.out.size) hk).mono ?_
  rintro e w2 ⟨rfl, hb2⟩
  obtain ⟨K, hK⟩ : ∃ K, K = fillK k := ⟨_, rfl⟩
  have hKl : K.length = 64 := by rw [hK]; exact fillK_length k
  rw [← hK]
  have HK := Lib.hid hK
  have h1 := H1.out.below hb2 H1.out.lt
  have hB2 := HB1.out.trans (hb2.mono HB1.out.size)
  have hlt := h1.lt
  have hn2 := Blk.new w2 82 (zb 64).toArray
  have H1' := Lib.hid ((h1.alloc (.cells (zb 64).toArray 82)).setRow_other (bv K).toArray (show w.heap.size ≠ w2.heap.size by omega))
  have HN2 := Lib.hid hn2
  have H2 := Lib.hid (hn2.setRow (bv K))
  have HB2 := Lib.hid (below_setRow (hB2.alloc (by omega) (.cells (zb 64).toArray 82)) (show w.heap.size ≤ w2.heap.size by omega) (bv K).toArray)
  have HZ := Lib.hid (show (Tryd.prog.info? 82).map (·.size) = some (bv K).length by rw [bv_length, hKl]; exact Tryd.size82)
  have HLL := Lib.hid (show 0 + (bv K).length ≤ (zb 64).toArray.toList.length by rw [bv_length, hKl]; simp [zb_length])
  have HP := Lib.hid (splice_all (zb 64).toArray.toList (bv K) (by rw [bv_length, hKl]; simp [zb_length]))
  have HC2 := Lib.hid H2.out.cells
  clear hK hb2 h1 hB2 hn2 H1 HB1 HW1
  go_wp2_with (first
    | ((with_reducible refine wpList_store_part ?_ 82 (.tmp 5) (.tmp 11) ?_ w2.heap.size 0 (bv K) ?_ ?_ 82 _ HN2.out HZ.out HLL.out (bv_one _) ?_); rfl; rfl; rfl; rfl; rw [HP.out])
    | ((with_reducible refine wpList_load_cells ?_ 82 (.tmp 5) ?_ _ 0 _ ?_ 64 5 HC2.out Tryd.underlying82 HZ.out ?_); rfl; rfl; rfl))
  generalize (w2.alloc (.cells (zb 64).toArray 82)).setRow w2.heap.size (bv K).toArray = w3 at H1' H2 HB2 ⊢
  clear HN2 HLL HP HC2 hzB
  refine (masked_any w3 K 54 hKl).mono ?_
  rintro e w4 ⟨rfl, hb4⟩
  have h1 := H1'.out.below hb4 H1'.out.lt
  have h2 := H2.out.below hb4 H2.out.lt
  have hB4 := HB2.out.trans (hb4.mono HB2.out.size)
  obtain ⟨M, hM⟩ : ∃ M, M = mask 54 K := ⟨_, rfl⟩
  have hMl : M.length = 64 := by rw [hM, mask_length]; exact hKl
  rw [← hM]
  have HM := Lib.hid hM
  have H1 := Lib.hid h1
  have H4 := Lib.hid h2
  have HB4 := Lib.hid hB4
  clear hM h1 h2 hb4 hB4 H1' H2 HB2
  obtain ⟨SM, hSM⟩ : ∃ S : ByteArray, S = ⟨M.toArray⟩ := ⟨_, rfl⟩
  rw [← hSM]
  have hho := held_one w4 M
  rw [← hSM] at hho
  have HHo := Lib.hid hho
  have HSrc := Lib.hid (((HS.out.keep HB4.out).keep ((Below.refl w.heap.size w4).alloc HB4.out.size (.cells #[.string SM] 9))).src cap 81 Tryd.underlying81 (P := Tryd.prog))
  rw [HN.out] at HSrc
  have HSM := Lib.hid hSM
  clear hho hSM
  go_wp2_with (at_builtin; refine wpList_append_held rfl _ _ 81 81 rfl rfl HHo.out 9 i0 (.string ⟨#[]⟩) 16 Tryd.underlying81 hi hz0 hz1 hz2 rfl _ rfl n (sv ss) HSrc.out ?e2 ?e3 ?e4 ?_)
  case e2 => unfold maxLen; simp [sv_length]; omega
  case e3 => simp [sv_length]; omega
  case e4 => simp
  intro v5 w5 hh5 hg5
  have hb5 : Below w4.heap.size w4 w5 := ((Below.refl _ _).alloc (Nat.le_refl _) _).trans (hg5.below HHo.out (by simp))
  have h1 := H1.out.below hb5 H1.out.lt
  have h4 := H4.out.below hb5 H4.out.lt
  have HB5 := Lib.hid (HB4.out.trans (hb5.mono HB4.out.size))
  have HH5 := Lib.hid (show Held w5 w4.heap.size v5 (sv ([M] ++ ss)) by rw [sv_append]; exact hh5)
  clear hh5 hg5 HHo HSrc H1 H4 HB4 hb5 hi hz0 hz1 hz2
  have H1 := Lib.hid h1
  have H4 := Lib.hid h4
  clear h1 h4
  have hT5 := HT.out.below HB5.out HT.out.size
  go_wp2_with fail
  refine (of_held HH5.out hT5 (by simp; have := HN.out; omega) (by
    intro s hs
    rw [List.mem_append, List.mem_singleton] at hs
    rcases hs with rfl | hs
    · omega
    · exact HL.out s hs)).mono ?_
  rintro e w6 ⟨rfl, hb6⟩
  have h1 := H1.out.below hb6 H1.out.lt
  have h4 := H4.out.below hb6 H4.out.lt
  have hB6 := HB5.out.trans (hb6.mono HB5.out.size)
  obtain ⟨D, hD⟩ : ∃ D, D = digest ([M] ++ ss).flatten := ⟨_, rfl⟩
  have hDl : D.length = 32 := by rw [hD]; exact digest_length _
  rw [← hD]
  have HD := Lib.hid (show D = inner k ss.flatten by rw [hD, inner, ← HK.out, ← HM.out]; simp)
  clear hD hb6 H1 H4 HB5 HH5 hT5 HSM HM
  have hn6 := Blk.new w6 26 (zb 32).toArray
  have hlt1 := h1.lt
  have hlt4 := h4.lt
  have H1 := Lib.hid ((h1.alloc (.cells (zb 32).toArray 26)).setRow_other (bv D).toArray (show w.heap.size ≠ w6.heap.size by omega))
  have H4 := Lib.hid ((h4.alloc (.cells (zb 32).toArray 26)).setRow_other (bv D).toArray (show w2.heap.size ≠ w6.heap.size by omega))
  have HN6 := Lib.hid hn6
  have H6 := Lib.hid (hn6.setRow (bv D))
  have HB6 := Lib.hid (below_setRow (hB6.alloc (by omega) (.cells (zb 32).toArray 26)) (show w.heap.size ≤ w6.heap.size by omega) (bv D).toArray)
  have HZD := Lib.hid (show (Tryd.prog.info? 26).map (·.size) = some (bv D).length by rw [bv_length, hDl]; exact Tryd.size26)
  have HLL := Lib.hid (show 0 + (bv D).length ≤ (zb 32).toArray.toList.length by rw [bv_length, hDl]; simp [zb_length])
  have HP := Lib.hid (splice_all (zb 32).toArray.toList (bv D) (by rw [bv_length, hDl]; simp [zb_length]))
  clear h1 h4 hB6 hn6
  go_wp2_with ((with_reducible refine wpList_store_part ?_ 26 (.tmp 7) (.tmp 18) ?_ w6.heap.size 0 (bv D) ?_ ?_ 26 _ HN6.out HZD.out HLL.out (bv_one _) ?_); rfl; rfl; rfl; rfl; rw [HP.out])
  simp only [Act.put]
  generalize (w6.alloc (.cells (zb 32).toArray 26)).setRow w6.heap.size (bv D).toArray = w7 at H1 H4 H6 HB6 ⊢
  clear HN6 HLL HP
  obtain ⟨SO, hSO⟩ : ∃ S : ByteArray, S = ⟨(mask 92 K).toArray⟩ := ⟨_, rfl⟩
  obtain ⟨SD, hSD⟩ : ∃ S : ByteArray, S = ⟨D.toArray⟩ := ⟨_, rfl⟩
  have hcv : ∀ w', Below w7.heap.size w7 w' → (convert 86 9 (.slice (some ⟨w6.heap.size, 0, none⟩) 32 32)).run Tryd.prog w' = .ok (.string SD) w' := fun w' hw' => by
    have := conv_bytes (H6.out.below hw' H6.out.lt)
    rw [hDl] at this
    rw [hSD]; exact this
  have HSO := Lib.hid hSO
  have HSD := Lib.hid hSD
  have hC : ∀ w', Below w7.heap.size w7 w' → ∀ j v, (bv K)[j]? = some v → w'.cell? ⟨w2.heap.size, 0 + j, none⟩ = some v := fun w' hw' => (H4.out.below hw' H4.out.lt).cells
  clear hSD hSO
  refine wp_region_free (P := Tryd.prog) 7 (fun w' => Below w7.heap.size w7 w') (fun i v w' => match i with
    | 0 => v = .agg (bv K).toArray
    | 1 => v = .string SO
    | 2 => v = .slice (some ⟨w6.heap.size, 0, none⟩) 32 32
    | 3 => v = .string SD
    | 4 => ∃ b, v = .slice (some ⟨b, 0, none⟩) 2 2 ∧ StrAt w' w'.heap.size (some ⟨b, 0, none⟩) b 0 [mask 92 K, D]
    | 5 => v = .agg (bv (digest (mask 92 K ++ D))).toArray
    | 6 => ∃ g, v = .pointer (some ⟨g, 0, none⟩) ∧ Blk w' g 26 (zb 32) ∧ w7.heap.size ≤ g
    | _ => True) (by kernel_rfl) (by kernel_rfl) (Below.refl _ _).drew ?gb ?vb ?steps ?fin
  case gb => exact fun a b h1 h2 => h1.trans (h2.mono h1.size)
  case vb =>
    intro i v a b h hb
    match i with
    | 0 => exact h
    | 1 => exact h
    | 2 => exact h
    | 3 => exact h
    | 4 => obtain ⟨g, h1, h2⟩ := h; exact ⟨g, h1, (h2.keep hb).more hb.size⟩
    | 5 => exact h
    | 6 => obtain ⟨g, h1, h2, h3⟩ := h; exact ⟨g, h1, h2.below hb h2.lt, h3⟩
    | _ + 7 => trivial
  case steps =>
    intro s
    simp only [List.take_succ_cons, List.take_zero, freeSteps, Act.put, List.setIfInBounds_toArray, List.set_cons_zero, List.set_cons_succ, Nat.reduceAdd]
    refine ⟨fun w8 hG hW => ?_, fun w8 hG hW => ?_, fun w8 hG hW => ?_, fun w8 hG hW => ?_, fun w8 hG hW => ?_, fun w8 hG hW => ?_, fun w8 hG hW => ?_, trivial⟩
    · exact stepAt_load_cells rfl rfl rfl 82 (.tmp 5) rfl w2.heap.size 0 (bv K) rfl 64 5 (hC w8 hG) Tryd.underlying82 HZ.out ⟨rfl, Below.refl _ _⟩
    · have q0 := hW 0 (by decide)
      simp only at q0
      rw [q0]
      refine stepAt_call rfl rfl rfl 51 #[.agg (bv K).toArray, .int .u8 92] (by go_simp) ((masked_any w8 K 92 hKl).mono fun e w' ⟨h1, h2⟩ => ⟨_, by rw [h1, HSO.out], rfl, h2⟩)
    · refine stepAt_value rfl rfl rfl (.slice (some ⟨w6.heap.size, 0, none⟩) 32 32) w8 ?_ ⟨rfl, Below.refl _ _⟩
      go_simp
    · have q2 := hW 2 (by decide)
      simp only at q2
      rw [q2]
      refine stepAt_value rfl rfl rfl (.string SD) w8 ?_ ⟨rfl, Below.refl _ _⟩
      have := hcv w8 hG
      go_simp
    · have q1 := hW 1 (by decide)
      have q3 := hW 3 (by decide)
      simp only at q1 q3
      rw [q1, q3]
      refine stepAt_value rfl rfl rfl (.slice (some ⟨w8.heap.size, 0, none⟩) 2 2) (w8.alloc (.cells #[.string SO, .string SD] 9)) ?_ ⟨⟨_, rfl, ?_⟩, (Below.refl _ _).alloc (Nat.le_refl _) _⟩
      · go_simp
      · rw [HSO.out, HSD.out]
        exact str_two w8 _ _
    · obtain ⟨b4, q4, hs4⟩ := hW 4 (by decide)
      rw [q4]
      refine stepAt_call rfl rfl rfl 52 #[.slice (some ⟨b4, 0, none⟩) 2 2] (by go_simp) ((of_any w8 _ 2 2 b4 0 [mask 92 K, D] ((HT.out.below HB6.out HT.out.size).below hG (by have := HT.out.size; have := HB6.out.size; omega)) rfl (by omega) hs4 (by simp [mask_length]; omega)).mono fun e w' ⟨h1, h2⟩ => ⟨_, h1, ?_, h2⟩)
      simp
    · refine stepAt_value rfl rfl rfl (.pointer (some ⟨w8.heap.size, 0, none⟩)) (w8.alloc (.cells (zb 32).toArray 26)) ?_ ⟨⟨_, rfl, Blk.new _ _ _, hG.size⟩, (Below.refl _ _).alloc (Nat.le_refl _) _⟩
      go_simp
  case fin =>
    intro s w8 hG hV
    have q5 := hV 5 (by omega)
    obtain ⟨g6, q6, hb6, hg6⟩ := hV 6 (by omega)
    simp only at q5
    simp only [List.take_succ_cons, List.take_zero, List.drop_succ_cons, List.drop_zero, putAll, Act.put, List.setIfInBounds_toArray, List.set_cons_zero, List.set_cons_succ, Nat.reduceAdd]
    rw [q5, q6]
    generalize s 0 = s0
    generalize s 1 = s1
    generalize s 2 = s2
    generalize s 3 = s3
    generalize s 4 = s4
    clear hV q5 q6 s hcv hC
    obtain ⟨D2, hD2⟩ : ∃ D2, D2 = digest (mask 92 K ++ D) := ⟨_, rfl⟩
    have hl2 : D2.length = 32 := by rw [hD2]; exact digest_length _
    rw [← hD2]
    have HD2 := Lib.hid (show D2 = outer k ss.flatten by rw [hD2, outer, ← HK.out, ← HD.out])
    have h1 := (H1.out.below hG H1.out.lt).setRow_other (bv D2).toArray (show w.heap.size ≠ g6 by have := HB6.out.size; have := H1.out.lt; omega)
    have HB8 := Lib.hid (below_setRow (HB6.out.trans (hG.mono HB6.out.size)) (show w.heap.size ≤ g6 by have := H1.out.lt; omega) (bv D2).toArray)
    have HG6 := Lib.hid hb6
    have H8 := Lib.hid (hb6.setRow (bv D2))
    have H1' := Lib.hid h1
    have HZ2 := Lib.hid (show (Tryd.prog.info? 26).map (·.size) = some (bv D2).length by rw [bv_length, hl2]; exact Tryd.size26)
    have HLL := Lib.hid (show 0 + (bv D2).length ≤ (zb 32).length by rw [bv_length, hl2, zb_length]; omega)
    have HP := Lib.hid (splice_all (zb 32) (bv D2) (by rw [bv_length, hl2, zb_length]))
    clear hD2 hb6 h1 H1 H4 H6 HB6 hG
    go_wp2_with ((with_reducible refine wpList_store_part ?_ 26 (.tmp 8) (.tmp 24) ?_ g6 0 (bv D2) ?_ ?_ 26 _ HG6.out HZ2.out HLL.out (bv_one _) ?_); rfl; rfl; rfl; rfl; rw [HP.out])
    have hg8 : g6 < w8.heap.size := by have := H8.out.lt; simp only [setRow_size'] at this; exact this
    have e8 : (w8.setRow g6 (bv D2).toArray).heap.size = w8.heap.size := setRow_size' _ _ _
    generalize w8.setRow g6 (bv D2).toArray = w9 at H8 H1' HB8 e8 ⊢
    rw [← e8] at hg8 ⊢
    have hn9 := Blk.new w9 30 (zb 16).toArray
    have HB9 := Lib.hid (HB8.out.alloc HB8.out.size (.cells (zb 16).toArray 30))
    have hr9 := H1'.out.alloc (.cells (zb 16).toArray 30)
    have hs9 := H8.out.alloc (.cells (zb 16).toArray 30)
    have hlt9 : w.heap.size < w9.heap.size := H1'.out.lt
    have HR9 := Lib.hid hr9
    have HS9 := Lib.hid hs9
    have HN9 := Lib.hid hn9
    generalize w9.alloc (.cells (zb 16).toArray 30) = w10 at HR9 HS9 HN9 HB9 ⊢
    clear hn9 hr9 hs9 H8 H1' HB8 HG6 HZ2 HLL HP e8
    refine wp_region_draws_tail 2 (by kernel_rfl) (by kernel_rfl) ?_
    simp only [List.take_succ_cons, List.take_zero, List.drop_succ_cons, List.drop_zero]
    repeat (go_big_quiet_step (fail))
    refine wpQuiet_nil ?_
    rintro _ ⟨nq, rfl⟩
    have g0 := HR9.out.drewN nq
    have g1 := HN9.out.drewN nq
    have gs := HS9.out.drewN nq
    have gb := below_drewN' HB9.out nq
    generalize w10.drewN nq = w11 at g0 g1 gs gb ⊢
    clear HR9 HN9 HS9 HB9
    refine wpList_copy_splice rfl (.tmp 25) (.tmp 26) 86 86 rfl 5 Tryd.underlying86 Tryd.size5 _ _ 16 16 32 32 rfl rfl w9.heap.size 0 (zb 16) 30 g1 (bv (D2.take 16)) ?_ (fun _ => ⟨rfl, ⟨g6, 0, none⟩, rfl, ?_⟩) ?_ (bv_one _) w9.heap.size w11 (Below.refl _ _) (Nat.le_refl _) ?_
    · rw [bv_length, List.length_take, hl2]; rfl
    · intro j v hj
      rw [Addr.add_lit, Nat.zero_add, gs.cell]
      have hjl : j < 16 := by have := (List.getElem?_eq_some_iff.1 hj).1; rw [bv_length, List.length_take] at this; omega
      rw [← hj, bv, bv, List.getElem?_map, List.getElem?_map, List.getElem?_take, if_pos hjl]
    · rw [bv_length, List.length_take, zb_length]; omega
    intro w12 HG12 hB12
    have hg12 := HG12.out
    have htk : (D2.take 16).length = 16 := by rw [List.length_take]; omega
    obtain ⟨T, hT⟩ : ∃ T, T = D2.take 16 := ⟨_, rfl⟩
    rw [splice_zb 16, htk] at hg12
    simp only [Nat.sub_self, List.replicate_zero, List.append_nil] at hg12
    rw [← hT] at hg12 htk ⊢
    have HTT := Lib.hid (show T = tag k ss.flatten by rw [hT, tag, HD2.out])
    have hr12 := g0.below hB12 (by omega)
    have HR := Lib.hid hr12
    have HC := Lib.hid (Blk.cells hg12)
    have HZT := Lib.hid (show (Tryd.prog.info? 30).map (·.size) = some (bv T).length by rw [bv_length, htk]; exact Tryd.size30)
    have HLL := Lib.hid (show 0 + (bv T).length ≤ (zb 16).length by rw [bv_length, htk, zb_length]; omega)
    have HP := Lib.hid (splice_all (zb 16) (bv T) (by rw [bv_length, htk, zb_length]))
    have HR2 := Lib.hid (hr12.setRow (bv T))
    have HB2 := Lib.hid (below_setRow (gb.trans (hB12.mono (by omega))) (Nat.le_refl w.heap.size) (bv T).toArray)
    clear HG12 hg12 hr12 g0 g1 gs gb hB12 hT HD2 HD
    go_wp2_with (first
      | ((with_reducible refine wpList_load_cells ?_ 30 (.tmp 9) ?_ _ 0 _ ?_ 16 5 HC.out Tryd.underlying30 HZT.out ?_); rfl; rfl; rfl)
      | ((with_reducible refine wpList_store_part ?_ 30 (.tmp 4) (.tmp 28) ?_ w.heap.size 0 (bv T) ?_ ?_ 30 _ HR.out HZT.out HLL.out (bv_one _) ?_); rfl; rfl; rfl; rfl; rw [HP.out]))
    refine bodyPost_ret (v := .agg (bv T).toArray) ?_ rfl ⟨by rw [HTT.out], HB2.out⟩
    exact results_cell_row rfl _ _ w.heap.size 30 _ (0, 0) (.array 16 5) rfl HR2.out Tryd.underlying30 rfl (by rw [List.size_toArray]; exact HZT.out)
end Go.Proofs.YtnbdpalbompjlaaDoor
