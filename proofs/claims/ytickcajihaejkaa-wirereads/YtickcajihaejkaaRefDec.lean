/-
  What the document's Decode answers.
-/
import Derived.Test.YtickcajihaejkaaWDec
import Derived.Test.YtickcajihaejkaaWRef
import Derived.Test.YtickcajihaejkaaRefRead
import Derived.Test.YtickcajihaejkaaRefGet
import Derived.Test.YtickcajihaejkaaRefMsg
import Derived.Deep.DeepCutAuto
namespace Go.Proofs.Ytickcajihaejkaa
open Go.RowKit
set_option maxRecDepth 100000

theorem DS.rm_set {w0 w : World} {A b g : Nat} {M : Msg} {sl : Value} (h : DS w0 w A b g M sl) {s : ByteArray} {p : Nat} {sh : Bool} (hr : Rm w b s p sh) (j : Nat) (v : Value) : Rm (w.setCell ⟨g, j, none⟩ v) b s p sh := hr.keep (heap_setCell_other w ⟨g, j, none⟩ b v h.bg)

/-- The document's Uint, of bytes that are there. -/
theorem dm_uint {w0 w : World} {A b g : Nat} {M : Msg} {sl : Value} {s : ByteArray} {p : Nat} (h : DS w0 w A b g M sl) (hr : Rm w b s p false) (hs : s.size ≤ 500) (n : Nat) (hn : n ≤ 8) (hp : p + n ≤ s.size) :
    Calls Try.prog 23 #[.pointer (some ⟨b, 0, none⟩), .int .i64 (n : Int)] w fun e w' => e = .returned (.int .u64 (leN ((s.data.toList.drop p).take n))) ∧ Hid (DS w0 w' A b g M sl) ∧ Hid (Rm w' b s (p + n) false) := by
  have hok : mOk s p (n : Int) = true := (mOk_iff s p n).2 ⟨by omega, by omega⟩
  refine (refuint_loop w b s p false n hr (by omega) (by simp) (by omega) (by omega)).mono ?_
  rintro e w' ⟨h1, h2, h3⟩
  refine ⟨?_, Lib.hid (h.read h3), Lib.hid ?_⟩
  · rw [h1]
    unfold mOut
    rw [if_pos hok, ByteArray.data_extract]
    simp [Array.toList_extract, List.extract_eq_take_drop]
  · unfold mAt mSh at h2
    rw [if_pos hok, if_pos hok] at h2
    simpa using h2

set_option maxHeartbeats 8000000 in
theorem refdec_short (w : World) (s : ByteArray) (hs : s.size < 54) : Calls Try.prog 10 #[.string s] w (DecPost w s) := by
  have HN := Lib.hid (rd_short (s := s.data.toList) (by rw [← size_list]; exact hs))
  have HZ := Lib.hid (zero_new w)
  have HB := Lib.hid (below_setRow ((Below.refl w.heap.size w).alloc (Nat.le_refl _) (.cells zcells 30)) (Nat.le_refl w.heap.size) (mc zeroMsg (.slice none 0 0)).toArray)
  have d1 : (s.size : Int) < 54 := by omega
  go_enter Try.func10, Try.ntmps10
  go_wp2_with (first
    | ((with_reducible refine wpList_build_msg ?_ 30 #[] ?_ (mc zeroMsg (.slice none 0 0)).toArray ?_ ?_); rfl; rfl; (simp only [List.map_toArray, List.map_nil]; exact msg_built0))
    | ((with_reducible refine wpList_store_msg (.tmp 2) (.tmp 14) ?_ ?_ w.heap.size zeroMsg zeroMsg (.slice none 0 0) (.slice none 0 0) ?_ ?_ ?_ zeroMsg_fits zeroMsg_fits ?_ ?_); rfl; rfl; rfl; rfl; exact HZ.out; rfl))
  rw [zcells_lit]
  refine ret_msg (p := 2) (u := 3) (sl := .slice none 0 0) rfl rfl (HZ.out.setRow _) zeroMsg_fits rfl ?_
  exact ⟨none, .slice none 0 0, rfl, HN.out, BRow.nil _ _, HB.out⟩

/-- How far a tag, or a target, is read. -/
def TR (s : ByteArray) (ok : Prop) (N p0 k : Nat) (G : List UInt8) (p : Nat) (h : Bool) : Prop :=
  p ≤ s.size ∧ (h = true → p = s.size) ∧ G.length = N ∧ (ok → h = false ∧ p = p0 + k ∧ p0 + N ≤ s.size ∧ G.take k = (s.data.toList.drop p0).take k)
/-- One byte more. -/
def TB (s : ByteArray) (p : Nat) (h : Bool) (c : UInt8) (p' : Nat) (h' : Bool) : Prop :=
  p' ≤ s.size ∧ (h' = true → p' = s.size) ∧ (h = false → p < s.size → h' = false ∧ p' = p + 1 ∧ s.data.toList[p]? = some c)

theorem TR.step {s : ByteArray} {ok : Prop} {N p0 k : Nat} {G : List UInt8} {p : Nat} {h : Bool} (t : TR s ok N p0 k G p h) (hk : k < N) {c : UInt8} {p' : Nat} {h' : Bool} (b : TB s p h c p' h') : TR s ok N p0 (k + 1) (G.set k c) p' h' := by
  obtain ⟨t1, t2, t3, t4⟩ := t
  obtain ⟨b1, b2, b3⟩ := b
  refine ⟨b1, b2, by rw [List.length_set, t3], fun o => ?_⟩
  obtain ⟨u1, u2, u3, u4⟩ := t4 o
  obtain ⟨c1, c2, c3⟩ := b3 u1 (by omega)
  refine ⟨c1, by omega, u3, ?_⟩
  rw [List.take_add_one, List.take_add_one, List.getElem?_set_self (by omega), List.take_set_of_le (Nat.le_refl _), u4, List.getElem?_drop, ← u2, c3]
theorem TR.fin {s : ByteArray} {ok : Prop} {N p0 : Nat} {G : List UInt8} {p : Nat} {h : Bool} (t : TR s ok N p0 N G p h) (o : ok) : h = false ∧ p = p0 + N ∧ G = (s.data.toList.drop p0).take N := by
  obtain ⟨t1, t2, t3, t4⟩ := t
  obtain ⟨u1, u2, u3, u4⟩ := t4 o
  refine ⟨u1, u2, ?_⟩
  rw [← u4, List.take_of_length_le (by omega)]

/-- A byte, be it there or not. -/
theorem dm_byte {w0 w : World} {A b g : Nat} {M : Msg} {sl : Value} {s : ByteArray} {p : Nat} {h : Bool} (hd : DS w0 w A b g M sl) (hr : Rm w b s p h) (hs : s.size ≤ 500) (hp : p ≤ s.size) (hh : h = true → p = s.size) :
    Calls Try.prog 23 #[.pointer (some ⟨b, 0, none⟩), .int .i64 1] w fun e w' => ∃ (c : UInt8) (p' : Nat) (h' : Bool), e = .returned (.int .u64 (c.toNat : Int)) ∧ Hid (DS w0 w' A b g M sl) ∧ Hid (Rm w' b s p' h') ∧ Hid (TB s p h c p' h') := by
  refine (refuint_loop w b s p h 1 hr hp hh (by omega) (by omega)).mono ?_
  rintro e w' ⟨h1, h2, h3⟩
  by_cases hok : mOk s p 1 = true
  · obtain ⟨_, q2⟩ := (mOk_iff s p 1).1 hok
    have hlt : p < s.size := by omega
    have hlt' : p < s.data.toList.length := by rw [← size_list]; exact hlt
    refine ⟨s.data.toList[p], p + 1, h, ?_, Lib.hid (hd.read h3), Lib.hid ?_, Lib.hid ⟨by omega, fun e => by have := hh e; omega, fun e _ => ⟨e, rfl, List.getElem?_eq_getElem hlt'⟩⟩⟩
    · rw [h1]
      unfold mOut
      rw [if_pos hok, ByteArray.data_extract]
      have : (s.data.extract p (p + (1 : Int).toNat)).toList = [s.data.toList[p]] := by
        rw [Array.toList_extract, List.extract_eq_take_drop, show p + (1 : Int).toNat - p = 1 from by simp, List.drop_eq_getElem_cons hlt']
        rfl
      rw [this]
      simp [leN]
    · unfold mAt mSh at h2
      rw [if_pos hok, if_pos hok] at h2
      exact h2
  · refine ⟨0, s.size, true, ?_, Lib.hid (hd.read h3), Lib.hid ?_, Lib.hid ⟨Nat.le_refl _, fun _ => rfl, fun e q => absurd ((mOk_iff s p 1).2 ⟨by omega, by omega⟩) hok⟩⟩
    · rw [h1]
      unfold mOut
      rw [if_neg hok]
      rfl
    · unfold mAt mSh at h2
      rw [if_neg hok, if_neg hok] at h2
      exact h2

/-- The document's Bytes, of bytes that are there. -/
theorem dm_row {w0 w : World} {A b g : Nat} {M : Msg} {sl : Value} {s : ByteArray} {p : Nat} (h : DS w0 w A b g M sl) (hr : Rm w b s p false) (hs : s.size ≤ 500) (n : Nat) (hp : p + n ≤ s.size) :
    Calls Try.prog 25 #[.pointer (some ⟨b, 0, none⟩), .int .i64 (n : Int)] w fun e w' => ∃ o : ByteArray, e = .returned (.string o) ∧ Hid (o.data.toList = (s.data.toList.drop p).take n) ∧ o.size ≤ 1000 ∧ Hid (DS w0 w' A b g M sl) ∧ Hid (Rm w' b s (p + n) false) := by
  refine (refrbytes_yes w b s p n hr (by omega) hp).mono ?_
  rintro e w' ⟨h1, h2, h3⟩
  refine ⟨s.extract p (p + n), h1, Lib.hid ?_, by simp; omega, Lib.hid (h.read h3), Lib.hid h2⟩
  rw [ByteArray.data_extract, Array.toList_extract, List.extract_eq_take_drop, Nat.add_sub_cancel_left]

/-- The reader and the message are made. -/
def rdCells (s : ByteArray) : Array Value := #[.string s, .int .i64 0, .bool false]
theorem rds_start (w : World) (s : ByteArray) (o : TypeId) :
    DS w (((w.alloc (.cells zcells 30)).alloc (.cells (rdCells s) o)).alloc (.cells zcells 30)) w.heap.size (w.heap.size + 1) (w.heap.size + 1 + 1) zeroMsg (.slice none 0 0) := by
  have hz := zero_new w
  have hm := zero_new ((w.alloc (.cells zcells 30)).alloc (.cells (rdCells s) o))
  refine ⟨(hz.alloc _).alloc _, by simpa using hm, BRowN.nil _ _ _ _, (((Below.refl w.heap.size w).alloc (Nat.le_refl _) _).alloc (by simp) _).alloc (by simp; omega) _, by omega, by omega, by omega, by omega, by omega, by omega, zeroMsg_fits⟩
theorem rrm_start (w : World) (s : ByteArray) :
    Rm (((w.alloc (.cells zcells 30)).alloc (.cells (rdCells s) 52)).alloc (.cells zcells 30)) (w.heap.size + 1) s 0 false := by
  have h : Rm ((w.alloc (.cells zcells 30)).alloc (.cells (rdCells s) 52)) (w.heap.size + 1) s 0 false := by
    unfold Rm rdCells
    have := Array.getElem?_push_size (xs := (w.alloc (.cells zcells 30)).heap) (x := Obj.cells #[.string s, .int .i64 0, .bool false] 52 (0, 0))
    rw [World.size_alloc] at this
    exact this
  exact h.below ((Below.refl _ _).alloc (Nat.le_refl _) _)

/-- Ahead of the tag: what is to come. -/
def Mid (s : ByteArray) (M : Msg) (p0 : Nat) (rest : Int) : Prop :=
  p0 ≤ s.size ∧ M.l.length ≤ 1000 ∧ (rest ≠ 0 → Reads s.data.toList none) ∧
    (rest = 0 → p0 + 16 = s.size ∧ ∀ G, G = s.data.toList.drop p0 → (msgGood { M with G := G } = true → Reads s.data.toList (some { M with G := G })) ∧ (msgGood { M with G := G } = false → Reads s.data.toList none))

theorem tdl {s : List UInt8} {p n : Nat} (h : p + n ≤ s.length) : ((s.drop p).take n).length = n := by rw [List.length_take, List.length_drop]; omega
theorem five (s : List UInt8) : s = (s.drop 0).take 1 ++ ((s.drop (0 + 1)).take 4 ++ ((s.drop 5).take 32 ++ s.drop 37)) := by
  rw [← cut_at s 32 5 (m := 37) rfl, ← cut_at s 4 (0 + 1) (m := 5) rfl, ← cut_at s 1 0 (m := 0 + 1) rfl]
  rfl

theorem rd_rows {s : ByteArray} {n : Nat} (hK : leN (s.data.toList.take 1) = 3) (hn : s.size = n + 53) {M0 : Msg} (hg : msgGood M0 = true) (hf : M0.Fits) (e : msgB M0 = s.data.toList) : encR M0.l = (s.data.toList.drop 37).take n ∧ M0.l.length ≤ 16 := by
  have r := msg_ranged hg hf
  have h1 := msgB_head r
  rw [e, hK] at h1
  have hk : M0.k = 3 := by have := r.k; omega
  have h2 := msgB_length r
  rw [e, ← size_list, hn, if_neg (by omega), if_neg (by omega)] at h2
  refine ⟨?_, msg_bits hg⟩
  have hA : s.data.toList = (leB M0.k.toNat 1 ++ (leB M0.s.toNat 4 ++ M0.T)) ++ (encR M0.l ++ M0.G) := by
    rw [← e]
    unfold msgB msgP msgR
    rw [if_neg (by omega), if_neg (by omega), if_pos hk]
    simp only [List.append_assoc]
  rw [hA, List.drop_left' (by simp only [List.length_append, leB_length]; rw [hf.T]), List.take_left' (by rw [encR_length]; omega)]

theorem mid_one (s : ByteArray) (K S m b : Nat) (T : List UInt8) (hK : K = leN ((s.data.toList.drop 0).take 1)) (hS : S = leN ((s.data.toList.drop (0 + 1)).take 4)) (hT : T = (s.data.toList.drop 5).take 32) (hm : m = leN ((s.data.toList.drop 37).take 2)) (hb : b = leN ((s.data.toList.drop 39).take 8)) (k : K = 1) (hs : 54 ≤ s.size) :
    Mid s ⟨(K : Int), (S : Int), T, (m : Int), b, [], List.replicate 16 0⟩ 47 ((s.size : Int) - 63) := by
  have q2 := leN_b (List.length_take_le 4 (s.data.toList.drop (0 + 1)))
  have q4 := leN_b (List.length_take_le 2 (s.data.toList.drop 37))
  have q5 := leN_b (List.length_take_le 8 (s.data.toList.drop 39))
  rw [← hb] at q5
  rw [← hS] at q2
  rw [← hm] at q4
  have l : s.data.toList.length = s.size := (size_list s).symm
  refine ⟨by omega, by simp, fun h => rd_one (hK.symm.trans k) (by rw [l]; omega), fun h => ⟨by omega, fun G hG => ?_⟩⟩
  have hz : s.size = 63 := by omega
  have hfit : Msg.Fits ⟨(K : Int), (S : Int), T, (m : Int), b, [], G⟩ := ⟨by rw [hT]; exact tdl (by omega), by rw [hG]; simp only [List.length_drop]; omega, Nat.lt_of_lt_of_le q5 (by decide)⟩
  have hr : Msg.Ranged ⟨(K : Int), (S : Int), T, (m : Int), b, [], G⟩ := ⟨hfit, by simp only; omega, by simp only; omega, by simp only; omega, fun _ => rfl, fun h => absurd (by simp only; omega) h, fun h => by simp only at h; omega⟩
  refine rd_own hr ?_
  refine dec_bytes (o1 := (s.data.toList.drop 0).take 1) (o2 := (s.data.toList.drop (0 + 1)).take 4) (o4 := (s.data.toList.drop 37).take 2) (o5 := (s.data.toList.drop 39).take 8) ?_ (tdl (by omega)) (tdl (by omega)) (tdl (by omega)) (.inl ⟨k, tdl (by omega)⟩) hK hS hm hb
  rw [hT, hG, ← cut_at s.data.toList 8 39 (m := 47) rfl, ← cut_at s.data.toList 2 37 (m := 39) rfl]
  exact five _

theorem mid_two (s : ByteArray) (K S m : Nat) (T : List UInt8) (hK : K = leN ((s.data.toList.drop 0).take 1)) (hS : S = leN ((s.data.toList.drop (0 + 1)).take 4)) (hT : T = (s.data.toList.drop 5).take 32) (hm : m = leN ((s.data.toList.drop 37).take 2)) (k : K = 2) (hs : 54 ≤ s.size) :
    Mid s ⟨(K : Int), (S : Int), T, (m : Int), 0, [], List.replicate 16 0⟩ 39 ((s.size : Int) - 55) := by
  have q2 := leN_b (List.length_take_le 4 (s.data.toList.drop (0 + 1)))
  have q4 := leN_b (List.length_take_le 2 (s.data.toList.drop 37))
  rw [← hS] at q2
  rw [← hm] at q4
  have l : s.data.toList.length = s.size := (size_list s).symm
  refine ⟨by omega, by simp, fun h => rd_two (hK.symm.trans k) (by rw [l]; omega), fun h => ⟨by omega, fun G hG => ?_⟩⟩
  have hz : s.size = 55 := by omega
  have hfit : Msg.Fits ⟨(K : Int), (S : Int), T, (m : Int), 0, [], G⟩ := ⟨by rw [hT]; exact tdl (by omega), by rw [hG]; simp only [List.length_drop]; omega, Nat.two_pow_pos 64⟩
  have hr : Msg.Ranged ⟨(K : Int), (S : Int), T, (m : Int), 0, [], G⟩ := ⟨hfit, by simp only; omega, by simp only; omega, by simp only; omega, fun _ => rfl, fun _ => rfl, fun h => by simp only at h; omega⟩
  refine rd_own hr ?_
  refine dec_bytes (o1 := (s.data.toList.drop 0).take 1) (o2 := (s.data.toList.drop (0 + 1)).take 4) (o4 := (s.data.toList.drop 37).take 2) (o5 := []) ?_ (tdl (by omega)) (tdl (by omega)) (tdl (by omega)) (.inr ⟨k, rfl⟩) hK hS hm rfl
  rw [hT, hG, List.nil_append, ← cut_at s.data.toList 2 37 (m := 39) rfl]
  exact five _

theorem mid_three (s : ByteArray) (K S n q : Nat) (T o : List UInt8) (hK : K = leN ((s.data.toList.drop 0).take 1)) (hS : S = leN ((s.data.toList.drop (0 + 1)).take 4)) (hT : T = (s.data.toList.drop 5).take 32) (ho : o = (s.data.toList.drop 37).take n) (k : K = 3) (hn : s.size = n + 53) (hq : IsLen o q) (h16 : q ≤ 16) :
    Mid s ⟨(K : Int), (S : Int), T, 0, 0, decR (leN o) q, List.replicate 16 0⟩ (37 + n) 0 := by
  have q2 := leN_b (List.length_take_le 4 (s.data.toList.drop (0 + 1)))
  rw [← hS] at q2
  have l : s.data.toList.length = s.size := (size_list s).symm
  refine ⟨by omega, by simp only [dec_length]; omega, fun h => absurd rfl h, fun h => ⟨by omega, fun G hG => ?_⟩⟩
  have hfit : Msg.Fits ⟨(K : Int), (S : Int), T, 0, 0, decR (leN o) q, G⟩ := ⟨by rw [hT]; exact tdl (by omega), by rw [hG]; simp only [List.length_drop]; omega, Nat.two_pow_pos 64⟩
  have hr : Msg.Ranged ⟨(K : Int), (S : Int), T, 0, 0, decR (leN o) q, G⟩ := ⟨hfit, by simp only; omega, by simp only; omega, by simp, fun h => absurd (by simp only; omega) h, fun _ => rfl, fun _ => rfl⟩
  refine rd_own hr ?_
  refine dec_bytes3 (o1 := (s.data.toList.drop 0).take 1) (o2 := (s.data.toList.drop (0 + 1)).take 4) (o4 := o) ?_ (tdl (by omega)) (tdl (by omega)) k hK hS (encR_dec hq)
  rw [hT, hG, ho, ← cut_at s.data.toList n 37 (m := 37 + n) rfl]
  exact five _

theorem none_bad (s o : ByteArray) (K n : Nat) (hK : K = leN ((s.data.toList.drop 0).take 1)) (ho : o.data.toList = (s.data.toList.drop 37).take n) (k : K = 3) (hn : s.size = n + 53) (h : Bad o) : Reads s.data.toList none := fun M0 hg hf e => by
  obtain ⟨h1, h2⟩ := rd_rows (hK.symm.trans k) hn hg hf e
  exact bad_no h (m := M0.l.length) (by rw [ho, ← h1]; exact isLen_encR _)
theorem none_long (s : ByteArray) (o : List UInt8) (K n q : Nat) (hK : K = leN ((s.data.toList.drop 0).take 1)) (ho : o = (s.data.toList.drop 37).take n) (k : K = 3) (hn : s.size = n + 53) (h : IsLen o q) (h16 : ¬ q ≤ 16) : Reads s.data.toList none := fun M0 hg hf e => by
  obtain ⟨h1, h2⟩ := rd_rows (hK.symm.trans k) hn hg hf e
  have := h.unique (show IsLen o M0.l.length by rw [ho, ← h1]; exact isLen_encR _)
  omega
theorem mid_other (s : ByteArray) (K S n : Nat) (T : List UInt8) (hK : K = leN ((s.data.toList.drop 0).take 1)) (k : K ≠ 1 ∧ K ≠ 2 ∧ K ≠ 3) (hn : s.size = n + 53) (h54 : 54 ≤ s.size) :
    Mid s ⟨(K : Int), (S : Int), T, 0, 0, [], List.replicate 16 0⟩ 37 (n : Int) :=
  ⟨by omega, by simp, fun _ => rd_other hK.symm k, fun h => absurd h (by omega)⟩

theorem DS.cT {w0 w : World} {A b g : Nat} {M : Msg} {sl : Value} (h : DS w0 w A b g M sl) {k : Nat} (hk : k < 32) : ∃ v, w.cell? ⟨g, 2 + k, none⟩ = some v := by
  have hl : 2 + k < (mc M sl).length := by rw [mc_length h.fit]; omega
  exact ⟨_, (h.m.cell (2 + k)).trans (List.getElem?_eq_getElem hl)⟩
theorem DS.cG {w0 w : World} {A b g : Nat} {M : Msg} {sl : Value} (h : DS w0 w A b g M sl) {k : Nat} (hk : k < 16) : ∃ v, w.cell? ⟨g, 37 + k, none⟩ = some v := by
  have hl : 37 + k < (mc M sl).length := by rw [mc_length h.fit]; omega
  exact ⟨_, (h.m.cell (37 + k)).trans (List.getElem?_eq_getElem hl)⟩
theorem BRowF.away {w : World} {base A b g : Nat} {v : Value} {l : List Bool} (h : BRowF w base v l) (hA : A < base) (hb : b < base) (hg : g < base) : BRowN w A b g v l := by
  obtain ⟨ao, cap, rb, off, h1, h2, h3, h4, h5⟩ := h
  exact ⟨ao, cap, rb, off, h1, h2, h3, h4, fun h0 => by have := h5 h0; omega⟩

set_option maxHeartbeats 8000000 in
theorem refdec_long (w : World) (s : ByteArray) (hs : s.size ≤ 500) (h54 : 54 ≤ s.size) : Calls Try.prog 10 #[.string s] w (DecPost w s) := by
  have d1 : ¬ ((s.size : Int) < 54) := by omega
  have HDS := Lib.hid (rds_start w s 52)
  have HRM := Lib.hid (rrm_start w s)
  go_enter Try.func10, Try.ntmps10
  go_wp2_with fail
  clear d1
  rw [zcells_lit]
  rw [rdCells] at HDS HRM
  generalize w.heap.size = A at HDS HRM ⊢
  generalize A + 1 = b at HDS HRM ⊢
  generalize b + 1 = g at HDS HRM ⊢
  generalize World.alloc (World.alloc (World.alloc w _) _) _ = w0 at HDS HRM ⊢
  generalize Value.agg #[Value.string s, Value.int IntKind.i64 0, Value.bool false] = ag
  refine (dm_uint HDS.out HRM.out hs 1 (by omega) (by omega)).mono ?_
  rintro e w1 ⟨rfl, HDS', HRM'⟩
  have q1 : leN ((s.data.toList.drop 0).take 1) < 256 ^ 1 := leN_b (List.length_take_le _ _)
  obtain ⟨K, hK⟩ : ∃ K, K = leN ((s.data.toList.drop 0).take 1) := ⟨_, rfl⟩
  rw [← hK] at q1 ⊢
  have HK := Lib.hid hK
  have i1 : IntKind.i64.wrap (K : Int) = (K : Int) := IntWalk.i64_in _ (by omega)
  have c0 := (HDS'.out.m.msg HDS'.out.fit).1
  have f0 := HDS'.out.m.free 0
  clear hK HDS HRM
  have HDS := Lib.hid (HDS'.out.set 0 (.int .i64 (K : Int)) (startMsg (K : Int) 0) (mc_set0 _ _ _) rfl (startMsg_fits _ _))
  have HRM := Lib.hid (HDS'.out.rm_set HRM'.out 0 (.int .i64 (K : Int)))
  clear HDS' HRM'
  go_wp2_with fail
  clear c0 f0 i1
  generalize World.setCell _ _ _ = w1' at HDS HRM ⊢
  refine (dm_uint HDS.out HRM.out hs 4 (by omega) (by omega)).mono ?_
  rintro e w2 ⟨rfl, HDS', HRM'⟩
  have q2 : leN ((s.data.toList.drop (0 + 1)).take 4) < 256 ^ 4 := leN_b (List.length_take_le _ _)
  obtain ⟨S, hS⟩ : ∃ K, K = leN ((s.data.toList.drop (0 + 1)).take 4) := ⟨_, rfl⟩
  rw [← hS] at q2 ⊢
  have HS := Lib.hid hS
  have i1 : IntKind.i64.wrap (S : Int) = (S : Int) := IntWalk.i64_in _ (by omega)
  have c0 := (HDS'.out.m.msg HDS'.out.fit).2.1
  have f0 := HDS'.out.m.free 1
  clear hS HDS HRM
  have HDS := Lib.hid (HDS'.out.set 1 (.int .i64 (S : Int)) ⟨(K : Int), (S : Int), List.replicate 32 0, 0, 0, [], List.replicate 16 0⟩ (mc_set1 _ _ _) rfl (startMsg_fits _ _))
  have HRM := Lib.hid (HDS'.out.rm_set HRM'.out 1 (.int .i64 (S : Int)))
  clear HDS' HRM'
  go_wp2_with fail
  clear c0 f0 i1
  generalize World.setCell _ _ _ = w2' at HDS HRM ⊢
  go_loopw [26] (fun i wr => ∃ (k : Nat) (T : List UInt8) (p : Nat) (h : Bool), k ≤ 32 ∧ i = .int .i64 k ∧ Hid (DS w wr A b g ⟨(K : Int), (S : Int), T, 0, 0, [], List.replicate 16 0⟩ (.slice none 0 0)) ∧ Hid (Rm wr b s p h) ∧ Hid (TR s True 32 5 k T p h)) (fun i _ => 32 - (intOf i).toNat)
  case atStart => exact ⟨0, List.replicate 32 0, 5, false, Nat.zero_le _, rfl, HDS, HRM, Lib.hid (show TR s True 32 5 0 (List.replicate 32 0) 5 false from ⟨by omega, fun h => absurd h (by simp), rfl, fun _ => ⟨rfl, rfl, by omega, by simp⟩⟩)⟩
  case round =>
    obtain ⟨k, T, p, h, hk, rfl, HD, HR, HT⟩ := hrel
    by_cases hlt : k < 32
    · go_wp2_with fail
      refine (dm_byte HD.out HR.out hs HT.out.1 HT.out.2.1).mono ?_
      rintro e wn ⟨c, p', h', rfl, HD', HR', HB⟩
      have i1 : IntKind.u8.wrap (c.toNat : Int) = (c.toNat : Int) := by have := c.toNat_lt; rw [IntKind.wrap_u8]; omega
      obtain ⟨v0, c0⟩ := HD'.out.cT hlt
      have f0 := HD'.out.m.free (2 + k)
      have HD2 := Lib.hid (HD'.out.set (2 + k) (.int .u8 (c.toNat : Int)) ⟨(K : Int), (S : Int), T.set k c, 0, 0, [], List.replicate 16 0⟩ (mc_setT HD'.out.fit _ k hlt c) rfl ⟨by rw [List.length_set]; exact HD'.out.fit.T, HD'.out.fit.G, HD'.out.fit.b⟩)
      have HR2 := Lib.hid (HD'.out.rm_set HR'.out (2 + k) (.int .u8 (c.toNat : Int)))
      have HT2 := Lib.hid (HT.out.step hlt HB.out)
      clear HD HR HT HB HD' HR'
      go_wp2_with fail
      go_roundw
      case rel => exact ⟨k + 1, T.set k c, p', h', by omega, by go_num, HD2, HR2, HT2⟩
      case measure => simp [intOf]; omega
    · obtain rfl : k = 32 := by omega
      obtain ⟨rfl, rfl, hT⟩ := HT.out.fin trivial
      have HTT := Lib.hid hT
      clear HDS HRM
      have HDS := HD
      have HRM := HR
      obtain ⟨n, hn⟩ : ∃ n : Nat, s.size = n + 53 := ⟨s.size - 53, by omega⟩
      have HNN := Lib.hid hn
      have e1 : IntKind.i64.wrap ((s.size : Int) - 37) = (s.size : Int) - 37 := IntWalk.i64_in _ (by omega)
      have e2 : IntKind.i64.wrap ((s.size : Int) - 37 - 16) = (n : Int) := by rw [IntWalk.i64_in _ (by omega)]; omega
      have c0 := (HDS.out.m.msg HDS.out.fit).1
      clear hT HT HD HR hlt hk
      by_cases k1 : K = 1
      · have HKK := Lib.hid k1
        have c0' : wr.cell? ⟨g, 0, none⟩ = some (.int .i64 1) := by rw [c0, k1]; rfl
        obtain ⟨rest, hrest⟩ : ∃ r : Int, r = (s.size : Int) - 63 := ⟨_, rfl⟩
        have HREST := Lib.hid hrest
        have e3 : IntKind.i64.wrap ((n : Int) - 2) = (n : Int) - 2 := IntWalk.i64_in _ (by omega)
        have e4 : IntKind.i64.wrap ((n : Int) - 2 - 8) = rest := by rw [IntWalk.i64_in _ (by omega)]; omega
        clear c0 k1 hn hrest
        go_wp2_with fail
        refine (dm_uint HDS.out HRM.out hs 2 (by omega) (by omega)).mono ?_
        rintro e w7 ⟨rfl, HDS', HRM'⟩
        have qmo : leN ((s.data.toList.drop (5 + 32)).take 2) < 256 ^ 2 := leN_b (List.length_take_le _ _)
        obtain ⟨mo, hv⟩ : ∃ x, x = leN ((s.data.toList.drop (5 + 32)).take 2) := ⟨_, rfl⟩
        rw [← hv] at qmo ⊢
        have HVmo := Lib.hid hv
        clear hv HDS HRM
        have i3 : IntKind.i64.wrap (mo : Int) = (mo : Int) := IntWalk.i64_in _ (by omega)
        clear c0'
        have c34 := (HDS'.out.m.cell 34).trans (mc_34 HDS'.out.fit _)
        have f34 := HDS'.out.m.free 34
        have HRM := Lib.hid (HDS'.out.rm_set HRM'.out 34 (.int .i64 (mo : Int)))
        have HDS := Lib.hid (HDS'.out.set 34 (.int .i64 (mo : Int)) ⟨(K : Int), (S : Int), T, (mo : Int), 0, [], List.replicate 16 0⟩ (mc_set34 HDS'.out.fit _ _) rfl ⟨HDS'.out.fit.T, HDS'.out.fit.G, HDS'.out.fit.b⟩)
        have ca : w7.cell? ⟨g, 0, none⟩ = some (.int .i64 1) := by rw [(HDS'.out.m.msg HDS'.out.fit).1, HKK.out]; rfl
        have cb : (w7.setCell ⟨g, 34, none⟩ (.int .i64 (mo : Int))).cell? ⟨g, 0, none⟩ = some (.int .i64 1) := by rw [(HDS.out.m.msg HDS.out.fit).1, HKK.out]; rfl
        clear HDS' HRM'
        go_wp2_with fail
        refine (dm_uint HDS.out HRM.out hs 8 (by omega) (by omega)).mono ?_
        rintro e w8 ⟨rfl, HDS', HRM'⟩
        have qbo : leN ((s.data.toList.drop (5 + 32 + 2)).take 8) < 256 ^ 8 := leN_b (List.length_take_le _ _)
        obtain ⟨bo, hv⟩ : ∃ x, x = leN ((s.data.toList.drop (5 + 32 + 2)).take 8) := ⟨_, rfl⟩
        rw [← hv] at qbo ⊢
        have HVbo := Lib.hid hv
        clear hv HDS HRM
        clear c34 f34 ca cb
        have c35 := (HDS'.out.m.cell 35).trans (mc_35 HDS'.out.fit _)
        have f35 := HDS'.out.m.free 35
        have HRM := Lib.hid (HDS'.out.rm_set HRM'.out 35 (.int .u64 (bo : Int)))
        have HDS := Lib.hid (HDS'.out.set 35 (.int .u64 (bo : Int)) ⟨(K : Int), (S : Int), T, (mo : Int), bo, [], List.replicate 16 0⟩ (mc_set35 HDS'.out.fit _ _) rfl ⟨HDS'.out.fit.T, HDS'.out.fit.G, Nat.lt_of_lt_of_le qbo (by decide)⟩)
        have ca : w8.cell? ⟨g, 0, none⟩ = some (.int .i64 1) := by rw [(HDS'.out.m.msg HDS'.out.fit).1, HKK.out]; rfl
        have cb : (w8.setCell ⟨g, 35, none⟩ (.int .u64 (bo : Int))).cell? ⟨g, 0, none⟩ = some (.int .i64 1) := by rw [(HDS.out.m.msg HDS.out.fit).1, HKK.out]; rfl
        clear HDS' HRM'
        have HMID := Lib.hid (show Mid s ⟨(K : Int), (S : Int), T, (mo : Int), bo, [], List.replicate 16 0⟩ 47 rest by rw [HREST.out]; exact mid_one s K S mo bo T HK.out HS.out HTT.out HVmo.out HVbo.out HKK.out h54)
        obtain ⟨M, hM⟩ : ∃ M : Msg, M = ⟨(K : Int), (S : Int), T, (mo : Int), bo, [], List.replicate 16 0⟩ := ⟨_, rfl⟩
        rw [← hM] at HDS HMID
        clear hM
        obtain ⟨p0, hp0⟩ : ∃ p : Nat, p = 47 := ⟨_, rfl⟩
        have HRM2 := Lib.hid (show Rm _ b s p0 false by rw [hp0]; exact HRM.out)
        have HMID2 := Lib.hid (show Mid s M p0 rest by rw [hp0]; exact HMID.out)
        clear HRM HMID hp0
        have HRM := HRM2
        have HMID := HMID2
        clear HRM2 HMID2
        go_wp2_with fail
        obtain ⟨sl, hsl⟩ : ∃ sl : Value, sl = (.slice none 0 0) := ⟨_, rfl⟩
        rw [← hsl] at HDS
        clear hsl
        go_loopw [77] (fun i wr => ∃ (k : Nat) (G : List UInt8) (p : Nat) (h : Bool), k ≤ 16 ∧ i = .int .i64 k ∧ Hid (DS w wr A b g { M with G := G } sl) ∧ Hid (Rm wr b s p h) ∧ Hid (TR s (rest = 0) 16 p0 k G p h)) (fun i _ => 16 - (intOf i).toNat)
        case atStart => exact ⟨0, M.G, p0, false, Nat.zero_le _, rfl, HDS, HRM, Lib.hid (show TR s (rest = 0) 16 p0 0 M.G p0 false from ⟨HMID.out.1, fun h => absurd h (by simp), HDS.out.fit.G, fun h => ⟨rfl, rfl, Nat.le_of_eq (HMID.out.2.2.2 h).1, by simp⟩⟩)⟩
        case round =>
          clear HDS HRM
          obtain ⟨k, G, p, h, hk, rfl, HD, HR, HT⟩ := hrel
          by_cases hlt : k < 16
          · go_wp2_with fail
            refine (dm_byte HD.out HR.out hs HT.out.1 HT.out.2.1).mono ?_
            rintro e wn ⟨c, p', h', rfl, HD', HR', HB⟩
            have i1 : IntKind.u8.wrap (c.toNat : Int) = (c.toNat : Int) := by have := c.toNat_lt; rw [IntKind.wrap_u8]; omega
            obtain ⟨v0, c0⟩ := HD'.out.cG hlt
            have f0 := HD'.out.m.free (37 + k)
            have HD2 := Lib.hid (HD'.out.set (37 + k) (.int .u8 (c.toNat : Int)) { M with G := G.set k c } (mc_setG HD'.out.fit _ k c) rfl ⟨HD'.out.fit.T, by simp only [List.length_set]; exact HD'.out.fit.G, HD'.out.fit.b⟩)
            have HR2 := Lib.hid (HD'.out.rm_set HR'.out (37 + k) (.int .u8 (c.toNat : Int)))
            have HT2 := Lib.hid (HT.out.step hlt HB.out)
            clear HD HR HT HB HD' HR'
            go_wp2_with fail
            go_roundw
            case rel => exact ⟨k + 1, G.set k c, p', h', by omega, by go_num, HD2, HR2, HT2⟩
            case measure => simp [intOf]; omega
          · obtain rfl : k = 16 := by omega
            by_cases r0 : rest = 0
            · subst r0
              have HOK := Lib.hid (rfl : (0 : Int) = 0)
              have HOK0 := HOK
              obtain ⟨rfl, rfl, hG⟩ := HT.out.fin HOK.out
              obtain ⟨hsz, hfin⟩ := HMID.out.2.2.2 HOK0.out
              have hG2 : G = s.data.toList.drop p0 := by rw [hG]; exact List.take_of_length_le (by rw [List.length_drop, ← size_list]; omega)
              have HFIN := Lib.hid (hfin G hG2)
              have HE := Lib.hid (show mEnd s (p0 + 16) false = true by simp [mEnd, hsz])
              have HLL := Lib.hid HMID.out.2.1
              clear hfin hG hG2 hsz HT HMID hlt hk
              obtain ⟨M', hM'⟩ : ∃ M' : Msg, M' = { M with G := G } := ⟨_, rfl⟩
              have HL' := Lib.hid (show M'.l.length ≤ 1000 by rw [hM']; exact HLL.out)
              rw [← hM'] at HD HFIN
              clear hM' HLL
              go_wp2_with fail
              refine (refend_any _ b s (p0 + 16) false HR.out).mono ?_
              rintro e wz ⟨he, nz, hz⟩
              rw [HE.out] at he
              subst he
              have HDc := Lib.hid (show DS w wz A b g M' sl by rw [hz]; exact HD.out.read (grown_drewN _ _ _))
              clear HD HR HE hz
              go_wp2_with ((with_reducible refine wpList_load_msgG (.tmp 5) ?_ ?_ g M' sl ?_ HDc.out.m HDc.out.fit ?_); rfl; rfl; rfl)
              refine (refgood_any wz M' sl HDc.out.fit HDc.out.row.row HL'.out).mono ?_
              rintro e wy ⟨rfl, hby⟩
              have HDSy := Lib.hid (HDc.out.below hby)
              clear hby HDc
              generalize msgGood M' = GD at HFIN ⊢
              cases GD with
              | false =>
                have HN := Lib.hid (HFIN.out.2 rfl)
                clear HFIN
                go_wp2_with (first
                  | ((with_reducible refine wpList_build_msg ?_ 30 #[] ?_ (mc zeroMsg (.slice none 0 0)).toArray ?_ ?_); rfl; rfl; (simp only [List.map_toArray, List.map_nil]; exact msg_built0))
                  | ((with_reducible refine wpList_store_msg (.tmp 2) (.tmp 99) ?_ ?_ A zeroMsg zeroMsg (.slice none 0 0) (.slice none 0 0) ?_ ?_ HDSy.out.z zeroMsg_fits zeroMsg_fits ?_ ?_); rfl; rfl; rfl; rfl; rfl))
                refine ret_msg (p := 2) (u := 3) rfl rfl (HDSy.out.z.setRow _) zeroMsg_fits rfl ?_
                exact dec_no HDSy.out HN.out
              | true =>
                have HN := Lib.hid (HFIN.out.1 rfl)
                clear HFIN
                go_wp2_with (first
                  | ((with_reducible refine wpList_load_msg (.tmp 5) ?_ ?_ g M' sl ?_ HDSy.out.m HDSy.out.fit ?_); rfl; rfl; rfl)
                  | ((with_reducible refine wpList_store_msg (.tmp 2) (.tmp 100) ?_ ?_ A zeroMsg M' (.slice none 0 0) sl ?_ ?_ HDSy.out.z zeroMsg_fits HDSy.out.fit ?_ ?_); rfl; rfl; rfl; rfl; exact HDSy.out.row.row.one))
                refine ret_msg (p := 2) (u := 3) rfl rfl (HDSy.out.z.setRow _) HDSy.out.fit rfl ?_
                exact dec_yes HDSy.out HN.out
            · have r1 : (rest != 0) = true := by simp [r0]
              have HN := Lib.hid (HMID.out.2.2.1 r0)
              clear HT HMID hlt hk
              go_wp2_with (first
                | ((with_reducible refine wpList_build_msg ?_ 30 #[] ?_ (mc zeroMsg (.slice none 0 0)).toArray ?_ ?_); rfl; rfl; (simp only [List.map_toArray, List.map_nil]; exact msg_built0))
                | ((with_reducible refine wpList_store_msg (.tmp 2) (.tmp 99) ?_ ?_ A zeroMsg zeroMsg (.slice none 0 0) (.slice none 0 0) ?_ ?_ HD.out.z zeroMsg_fits zeroMsg_fits ?_ ?_); rfl; rfl; rfl; rfl; rfl))
              refine ret_msg (p := 2) (u := 3) rfl rfl (HD.out.z.setRow _) zeroMsg_fits rfl ?_
              exact dec_no HD.out HN.out
      · by_cases k2 : K = 2
        · have HKK := Lib.hid k2
          have c0' : wr.cell? ⟨g, 0, none⟩ = some (.int .i64 2) := by rw [c0, k2]; rfl
          obtain ⟨rest, hrest⟩ : ∃ r : Int, r = (s.size : Int) - 55 := ⟨_, rfl⟩
          have HREST := Lib.hid hrest
          have e3 : IntKind.i64.wrap ((n : Int) - 2) = rest := by rw [IntWalk.i64_in _ (by omega)]; omega
          clear c0 k1 k2 hn hrest
          go_wp2_with fail
          refine (dm_uint HDS.out HRM.out hs 2 (by omega) (by omega)).mono ?_
          rintro e w7 ⟨rfl, HDS', HRM'⟩
          have qmo : leN ((s.data.toList.drop (5 + 32)).take 2) < 256 ^ 2 := leN_b (List.length_take_le _ _)
          obtain ⟨mo, hv⟩ : ∃ x, x = leN ((s.data.toList.drop (5 + 32)).take 2) := ⟨_, rfl⟩
          rw [← hv] at qmo ⊢
          have HVmo := Lib.hid hv
          clear hv HDS HRM
          have i3 : IntKind.i64.wrap (mo : Int) = (mo : Int) := IntWalk.i64_in _ (by omega)
          clear c0'
          have c34 := (HDS'.out.m.cell 34).trans (mc_34 HDS'.out.fit _)
          have f34 := HDS'.out.m.free 34
          have HRM := Lib.hid (HDS'.out.rm_set HRM'.out 34 (.int .i64 (mo : Int)))
          have HDS := Lib.hid (HDS'.out.set 34 (.int .i64 (mo : Int)) ⟨(K : Int), (S : Int), T, (mo : Int), 0, [], List.replicate 16 0⟩ (mc_set34 HDS'.out.fit _ _) rfl ⟨HDS'.out.fit.T, HDS'.out.fit.G, HDS'.out.fit.b⟩)
          have ca : w7.cell? ⟨g, 0, none⟩ = some (.int .i64 2) := by rw [(HDS'.out.m.msg HDS'.out.fit).1, HKK.out]; rfl
          have cb : (w7.setCell ⟨g, 34, none⟩ (.int .i64 (mo : Int))).cell? ⟨g, 0, none⟩ = some (.int .i64 2) := by rw [(HDS.out.m.msg HDS.out.fit).1, HKK.out]; rfl
          clear HDS' HRM'
          have HMID := Lib.hid (show Mid s ⟨(K : Int), (S : Int), T, (mo : Int), 0, [], List.replicate 16 0⟩ 39 rest by rw [HREST.out]; exact mid_two s K S mo T HK.out HS.out HTT.out HVmo.out HKK.out h54)
          obtain ⟨M, hM⟩ : ∃ M : Msg, M = ⟨(K : Int), (S : Int), T, (mo : Int), 0, [], List.replicate 16 0⟩ := ⟨_, rfl⟩
          rw [← hM] at HDS HMID
          clear hM
          obtain ⟨p0, hp0⟩ : ∃ p : Nat, p = 39 := ⟨_, rfl⟩
          have HRM2 := Lib.hid (show Rm _ b s p0 false by rw [hp0]; exact HRM.out)
          have HMID2 := Lib.hid (show Mid s M p0 rest by rw [hp0]; exact HMID.out)
          clear HRM HMID hp0
          have HRM := HRM2
          have HMID := HMID2
          clear HRM2 HMID2
          go_wp2_with fail
          obtain ⟨sl, hsl⟩ : ∃ sl : Value, sl = (.slice none 0 0) := ⟨_, rfl⟩
          rw [← hsl] at HDS
          clear hsl
          go_loopw [77] (fun i wr => ∃ (k : Nat) (G : List UInt8) (p : Nat) (h : Bool), k ≤ 16 ∧ i = .int .i64 k ∧ Hid (DS w wr A b g { M with G := G } sl) ∧ Hid (Rm wr b s p h) ∧ Hid (TR s (rest = 0) 16 p0 k G p h)) (fun i _ => 16 - (intOf i).toNat)
          case atStart => exact ⟨0, M.G, p0, false, Nat.zero_le _, rfl, HDS, HRM, Lib.hid (show TR s (rest = 0) 16 p0 0 M.G p0 false from ⟨HMID.out.1, fun h => absurd h (by simp), HDS.out.fit.G, fun h => ⟨rfl, rfl, Nat.le_of_eq (HMID.out.2.2.2 h).1, by simp⟩⟩)⟩
          case round =>
            clear HDS HRM
            obtain ⟨k, G, p, h, hk, rfl, HD, HR, HT⟩ := hrel
            by_cases hlt : k < 16
            · go_wp2_with fail
              refine (dm_byte HD.out HR.out hs HT.out.1 HT.out.2.1).mono ?_
              rintro e wn ⟨c, p', h', rfl, HD', HR', HB⟩
              have i1 : IntKind.u8.wrap (c.toNat : Int) = (c.toNat : Int) := by have := c.toNat_lt; rw [IntKind.wrap_u8]; omega
              obtain ⟨v0, c0⟩ := HD'.out.cG hlt
              have f0 := HD'.out.m.free (37 + k)
              have HD2 := Lib.hid (HD'.out.set (37 + k) (.int .u8 (c.toNat : Int)) { M with G := G.set k c } (mc_setG HD'.out.fit _ k c) rfl ⟨HD'.out.fit.T, by simp only [List.length_set]; exact HD'.out.fit.G, HD'.out.fit.b⟩)
              have HR2 := Lib.hid (HD'.out.rm_set HR'.out (37 + k) (.int .u8 (c.toNat : Int)))
              have HT2 := Lib.hid (HT.out.step hlt HB.out)
              clear HD HR HT HB HD' HR'
              go_wp2_with fail
              go_roundw
              case rel => exact ⟨k + 1, G.set k c, p', h', by omega, by go_num, HD2, HR2, HT2⟩
              case measure => simp [intOf]; omega
            · obtain rfl : k = 16 := by omega
              by_cases r0 : rest = 0
              · subst r0
                have HOK := Lib.hid (rfl : (0 : Int) = 0)
                have HOK0 := HOK
                obtain ⟨rfl, rfl, hG⟩ := HT.out.fin HOK.out
                obtain ⟨hsz, hfin⟩ := HMID.out.2.2.2 HOK0.out
                have hG2 : G = s.data.toList.drop p0 := by rw [hG]; exact List.take_of_length_le (by rw [List.length_drop, ← size_list]; omega)
                have HFIN := Lib.hid (hfin G hG2)
                have HE := Lib.hid (show mEnd s (p0 + 16) false = true by simp [mEnd, hsz])
                have HLL := Lib.hid HMID.out.2.1
                clear hfin hG hG2 hsz HT HMID hlt hk
                obtain ⟨M', hM'⟩ : ∃ M' : Msg, M' = { M with G := G } := ⟨_, rfl⟩
                have HL' := Lib.hid (show M'.l.length ≤ 1000 by rw [hM']; exact HLL.out)
                rw [← hM'] at HD HFIN
                clear hM' HLL
                go_wp2_with fail
                refine (refend_any _ b s (p0 + 16) false HR.out).mono ?_
                rintro e wz ⟨he, nz, hz⟩
                rw [HE.out] at he
                subst he
                have HDc := Lib.hid (show DS w wz A b g M' sl by rw [hz]; exact HD.out.read (grown_drewN _ _ _))
                clear HD HR HE hz
                go_wp2_with ((with_reducible refine wpList_load_msgG (.tmp 5) ?_ ?_ g M' sl ?_ HDc.out.m HDc.out.fit ?_); rfl; rfl; rfl)
                refine (refgood_any wz M' sl HDc.out.fit HDc.out.row.row HL'.out).mono ?_
                rintro e wy ⟨rfl, hby⟩
                have HDSy := Lib.hid (HDc.out.below hby)
                clear hby HDc
                generalize msgGood M' = GD at HFIN ⊢
                cases GD with
                | false =>
                  have HN := Lib.hid (HFIN.out.2 rfl)
                  clear HFIN
                  go_wp2_with (first
                    | ((with_reducible refine wpList_build_msg ?_ 30 #[] ?_ (mc zeroMsg (.slice none 0 0)).toArray ?_ ?_); rfl; rfl; (simp only [List.map_toArray, List.map_nil]; exact msg_built0))
                    | ((with_reducible refine wpList_store_msg (.tmp 2) (.tmp 99) ?_ ?_ A zeroMsg zeroMsg (.slice none 0 0) (.slice none 0 0) ?_ ?_ HDSy.out.z zeroMsg_fits zeroMsg_fits ?_ ?_); rfl; rfl; rfl; rfl; rfl))
                  refine ret_msg (p := 2) (u := 3) rfl rfl (HDSy.out.z.setRow _) zeroMsg_fits rfl ?_
                  exact dec_no HDSy.out HN.out
                | true =>
                  have HN := Lib.hid (HFIN.out.1 rfl)
                  clear HFIN
                  go_wp2_with (first
                    | ((with_reducible refine wpList_load_msg (.tmp 5) ?_ ?_ g M' sl ?_ HDSy.out.m HDSy.out.fit ?_); rfl; rfl; rfl)
                    | ((with_reducible refine wpList_store_msg (.tmp 2) (.tmp 100) ?_ ?_ A zeroMsg M' (.slice none 0 0) sl ?_ ?_ HDSy.out.z zeroMsg_fits HDSy.out.fit ?_ ?_); rfl; rfl; rfl; rfl; exact HDSy.out.row.row.one))
                  refine ret_msg (p := 2) (u := 3) rfl rfl (HDSy.out.z.setRow _) HDSy.out.fit rfl ?_
                  exact dec_yes HDSy.out HN.out
              · have r1 : (rest != 0) = true := by simp [r0]
                have HN := Lib.hid (HMID.out.2.2.1 r0)
                clear HT HMID hlt hk
                go_wp2_with (first
                  | ((with_reducible refine wpList_build_msg ?_ 30 #[] ?_ (mc zeroMsg (.slice none 0 0)).toArray ?_ ?_); rfl; rfl; (simp only [List.map_toArray, List.map_nil]; exact msg_built0))
                  | ((with_reducible refine wpList_store_msg (.tmp 2) (.tmp 99) ?_ ?_ A zeroMsg zeroMsg (.slice none 0 0) (.slice none 0 0) ?_ ?_ HD.out.z zeroMsg_fits zeroMsg_fits ?_ ?_); rfl; rfl; rfl; rfl; rfl))
                refine ret_msg (p := 2) (u := 3) rfl rfl (HD.out.z.setRow _) zeroMsg_fits rfl ?_
                exact dec_no HD.out HN.out
        · by_cases k3 : K = 3
          · have HKK := Lib.hid k3
            have c0' : wr.cell? ⟨g, 0, none⟩ = some (.int .i64 3) := by rw [c0, k3]; rfl
            clear c0 k1 k2 k3 hn
            go_wp2_with fail
            refine (dm_row HDS.out HRM.out hs n (by have := HNN.out; omega)).mono ?_
            rintro e w7 ⟨o, rfl, HO, hoz, HDS', HRM'⟩
            clear HDS HRM c0'
            go_wp2_with fail
            refine (refget_any w7 o 16 hoz).mono ?_
            rintro e w8 (⟨hbad, rfl, hb8⟩ | ⟨q, v, hq, rfl, hrow, hb8⟩)
            · have HDSg := Lib.hid (HDS'.out.below hb8)
              have HN := Lib.hid (none_bad s o K n HK.out HO.out HKK.out HNN.out hbad)
              clear HDS' HRM' hbad hb8
              go_wp2_with (first
                | ((with_reducible refine wpList_build_msg ?_ 30 #[] ?_ (mc zeroMsg (.slice none 0 0)).toArray ?_ ?_); rfl; rfl; (simp only [List.map_toArray, List.map_nil]; exact msg_built0))
                | ((with_reducible refine wpList_store_msg (.tmp 2) (.tmp 74) ?_ ?_ A zeroMsg zeroMsg (.slice none 0 0) (.slice none 0 0) ?_ ?_ HDSg.out.z zeroMsg_fits zeroMsg_fits ?_ ?_); rfl; rfl; rfl; rfl; rfl))
              refine ret_msg (p := 2) (u := 3) rfl rfl (HDSg.out.z.setRow _) zeroMsg_fits rfl ?_
              exact dec_no HDSg.out HN.out
            · have HDSg := Lib.hid (HDS'.out.below hb8)
              have HRDg := Lib.hid (HRM'.out.below hb8)
              have HQ := Lib.hid hq
              by_cases h16 : q ≤ 16
              · have hd : decide ((q : Int) ≤ 16) = true := by simp; omega
                rw [hd]
                have HRN := Lib.hid (hrow.away HDS'.out.z.lt HRM'.out.lt HDS'.out.m.lt)
                have c36 := (HDSg.out.m.cell 36).trans (mc_36 HDSg.out.fit _)
                have f36 := HDSg.out.m.free 36
                have HRM := Lib.hid (HDSg.out.rm_set HRDg.out 36 v)
                have HDS := Lib.hid (HDSg.out.bits v (decR (leN o.data.toList) q) HRN.out)
                simp only at HDS
                have HMID := Lib.hid (mid_three s K S n q T o.data.toList HK.out HS.out HTT.out HO.out HKK.out HNN.out hq h16)
                obtain ⟨l, hl⟩ : ∃ l, l = decR (leN o.data.toList) q := ⟨_, rfl⟩
                rw [← hl] at HDS HMID HRN
                obtain ⟨ao2, cap2, hform⟩ := HRN.out.row.form
                obtain ⟨L, hL⟩ : ∃ L, L = l.length := ⟨_, rfl⟩
                rw [← hL] at hform
                subst hform
                clear hL hl HDS' HRM' HDSg HRDg HRN hb8 hq hd hrow
                obtain ⟨M, hM⟩ : ∃ M : Msg, M = ⟨(K : Int), (S : Int), T, 0, 0, l, List.replicate 16 0⟩ := ⟨_, rfl⟩
                rw [← hM] at HDS HMID
                clear hM
                obtain ⟨p0, hp0⟩ : ∃ p : Nat, p = 5 + 32 + n := ⟨_, rfl⟩
                have HRM2 := Lib.hid (show Rm _ b s p0 false by rw [hp0]; exact HRM.out)
                have HMID2 := Lib.hid (show Mid s M p0 (0 : Int) by rw [hp0]; exact HMID.out)
                clear HRM HMID hp0
                have HRM := HRM2
                have HMID := HMID2
                clear HRM2 HMID2
                go_wp2_with fail
                generalize World.setCell _ _ _ = wq at HDS HRM ⊢
                obtain ⟨sl, hsl⟩ : ∃ sl : Value, sl = (.slice ao2 L cap2) := ⟨_, rfl⟩
                rw [← hsl] at HDS
                clear hsl
                go_loopw [77] (fun i wr => ∃ (k : Nat) (G : List UInt8) (p : Nat) (h : Bool), k ≤ 16 ∧ i = .int .i64 k ∧ Hid (DS w wr A b g { M with G := G } sl) ∧ Hid (Rm wr b s p h) ∧ Hid (TR s ((0 : Int) = 0) 16 p0 k G p h)) (fun i _ => 16 - (intOf i).toNat)
                case atStart => exact ⟨0, M.G, p0, false, Nat.zero_le _, rfl, HDS, HRM, Lib.hid (show TR s ((0 : Int) = 0) 16 p0 0 M.G p0 false from ⟨HMID.out.1, fun h => absurd h (by simp), HDS.out.fit.G, fun h => ⟨rfl, rfl, Nat.le_of_eq (HMID.out.2.2.2 h).1, by simp⟩⟩)⟩
                case round =>
                  clear HDS HRM
                  obtain ⟨k, G, p, h, hk, rfl, HD, HR, HT⟩ := hrel
                  by_cases hlt : k < 16
                  · go_wp2_with fail
                    refine (dm_byte HD.out HR.out hs HT.out.1 HT.out.2.1).mono ?_
                    rintro e wn ⟨c, p', h', rfl, HD', HR', HB⟩
                    have i1 : IntKind.u8.wrap (c.toNat : Int) = (c.toNat : Int) := by have := c.toNat_lt; rw [IntKind.wrap_u8]; omega
                    obtain ⟨v0, c0⟩ := HD'.out.cG hlt
                    have f0 := HD'.out.m.free (37 + k)
                    have HD2 := Lib.hid (HD'.out.set (37 + k) (.int .u8 (c.toNat : Int)) { M with G := G.set k c } (mc_setG HD'.out.fit _ k c) rfl ⟨HD'.out.fit.T, by simp only [List.length_set]; exact HD'.out.fit.G, HD'.out.fit.b⟩)
                    have HR2 := Lib.hid (HD'.out.rm_set HR'.out (37 + k) (.int .u8 (c.toNat : Int)))
                    have HT2 := Lib.hid (HT.out.step hlt HB.out)
                    clear HD HR HT HB HD' HR'
                    go_wp2_with fail
                    go_roundw
                    case rel => exact ⟨k + 1, G.set k c, p', h', by omega, by go_num, HD2, HR2, HT2⟩
                    case measure => simp [intOf]; omega
                  · obtain rfl : k = 16 := by omega
                    have HOK := Lib.hid (rfl : (0 : Int) = 0)
                    have HOK0 := HOK
                    obtain ⟨rfl, rfl, hG⟩ := HT.out.fin HOK.out
                    obtain ⟨hsz, hfin⟩ := HMID.out.2.2.2 HOK0.out
                    have hG2 : G = s.data.toList.drop p0 := by rw [hG]; exact List.take_of_length_le (by rw [List.length_drop, ← size_list]; omega)
                    have HFIN := Lib.hid (hfin G hG2)
                    have HE := Lib.hid (show mEnd s (p0 + 16) false = true by simp [mEnd, hsz])
                    have HLL := Lib.hid HMID.out.2.1
                    clear hfin hG hG2 hsz HT HMID hlt hk
                    obtain ⟨M', hM'⟩ : ∃ M' : Msg, M' = { M with G := G } := ⟨_, rfl⟩
                    have HL' := Lib.hid (show M'.l.length ≤ 1000 by rw [hM']; exact HLL.out)
                    rw [← hM'] at HD HFIN
                    clear hM' HLL
                    go_wp2_with fail
                    refine (refend_any _ b s (p0 + 16) false HR.out).mono ?_
                    rintro e wz ⟨he, nz, hz⟩
                    rw [HE.out] at he
                    subst he
                    have HDc := Lib.hid (show DS w wz A b g M' sl by rw [hz]; exact HD.out.read (grown_drewN _ _ _))
                    clear HD HR HE hz
                    go_wp2_with ((with_reducible refine wpList_load_msgG (.tmp 5) ?_ ?_ g M' sl ?_ HDc.out.m HDc.out.fit ?_); rfl; rfl; rfl)
                    refine (refgood_any wz M' sl HDc.out.fit HDc.out.row.row HL'.out).mono ?_
                    rintro e wy ⟨rfl, hby⟩
                    have HDSy := Lib.hid (HDc.out.below hby)
                    clear hby HDc
                    generalize msgGood M' = GD at HFIN ⊢
                    cases GD with
                    | false =>
                      have HN := Lib.hid (HFIN.out.2 rfl)
                      clear HFIN
                      go_wp2_with (first
                        | ((with_reducible refine wpList_build_msg ?_ 30 #[] ?_ (mc zeroMsg (.slice none 0 0)).toArray ?_ ?_); rfl; rfl; (simp only [List.map_toArray, List.map_nil]; exact msg_built0))
                        | ((with_reducible refine wpList_store_msg (.tmp 2) (.tmp 99) ?_ ?_ A zeroMsg zeroMsg (.slice none 0 0) (.slice none 0 0) ?_ ?_ HDSy.out.z zeroMsg_fits zeroMsg_fits ?_ ?_); rfl; rfl; rfl; rfl; rfl))
                      refine ret_msg (p := 2) (u := 3) rfl rfl (HDSy.out.z.setRow _) zeroMsg_fits rfl ?_
                      exact dec_no HDSy.out HN.out
                    | true =>
                      have HN := Lib.hid (HFIN.out.1 rfl)
                      clear HFIN
                      go_wp2_with (first
                        | ((with_reducible refine wpList_load_msg (.tmp 5) ?_ ?_ g M' sl ?_ HDSy.out.m HDSy.out.fit ?_); rfl; rfl; rfl)
                        | ((with_reducible refine wpList_store_msg (.tmp 2) (.tmp 100) ?_ ?_ A zeroMsg M' (.slice none 0 0) sl ?_ ?_ HDSy.out.z zeroMsg_fits HDSy.out.fit ?_ ?_); rfl; rfl; rfl; rfl; exact HDSy.out.row.row.one))
                      refine ret_msg (p := 2) (u := 3) rfl rfl (HDSy.out.z.setRow _) HDSy.out.fit rfl ?_
                      exact dec_yes HDSy.out HN.out
              · have hd : decide ((q : Int) ≤ 16) = false := by simp; omega
                rw [hd]
                obtain ⟨ao2, cap2, hform⟩ := hrow.row.form
                generalize (decR (leN o.data.toList) q).length = L at hform
                subst hform
                have HN := Lib.hid (none_long s o.data.toList K n q HK.out HO.out HKK.out HNN.out hq h16)
                clear HDS' HRM' HRDg hrow hb8 hq hd
                go_wp2_with (first
                  | ((with_reducible refine wpList_build_msg ?_ 30 #[] ?_ (mc zeroMsg (.slice none 0 0)).toArray ?_ ?_); rfl; rfl; (simp only [List.map_toArray, List.map_nil]; exact msg_built0))
                  | ((with_reducible refine wpList_store_msg (.tmp 2) (.tmp 74) ?_ ?_ A zeroMsg zeroMsg (.slice none 0 0) (.slice none 0 0) ?_ ?_ HDSg.out.z zeroMsg_fits zeroMsg_fits ?_ ?_); rfl; rfl; rfl; rfl; rfl))
                refine ret_msg (p := 2) (u := 3) rfl rfl (HDSg.out.z.setRow _) zeroMsg_fits rfl ?_
                exact dec_no HDSg.out HN.out
          · have d1 : ((K : Int) == 1) = false := by simp; omega
            have d2 : ((K : Int) == 2) = false := by simp; omega
            have d3 : ((K : Int) == 3) = false := by simp; omega
            have HMID := Lib.hid (mid_other s K S n T HK.out ⟨k1, k2, k3⟩ hn h54)
            clear k1 k2 k3 hn
            obtain ⟨M, hM⟩ : ∃ M : Msg, M = ⟨(K : Int), (S : Int), T, 0, 0, [], List.replicate 16 0⟩ := ⟨_, rfl⟩
            rw [← hM] at HDS HMID
            clear hM
            obtain ⟨p0, hp0⟩ : ∃ p : Nat, p = 37 := ⟨_, rfl⟩
            have HRM2 := Lib.hid (show Rm _ b s p0 false by rw [hp0]; exact HRM.out)
            have HMID2 := Lib.hid (show Mid s M p0 (n : Int) by rw [hp0]; exact HMID.out)
            clear HRM HMID hp0
            have HRM := HRM2
            have HMID := HMID2
            clear HRM2 HMID2
            go_wp2_with fail
            obtain ⟨sl, hsl⟩ : ∃ sl : Value, sl = (.slice none 0 0) := ⟨_, rfl⟩
            rw [← hsl] at HDS
            clear hsl
            go_loopw [77] (fun i wr => ∃ (k : Nat) (G : List UInt8) (p : Nat) (h : Bool), k ≤ 16 ∧ i = .int .i64 k ∧ Hid (DS w wr A b g { M with G := G } sl) ∧ Hid (Rm wr b s p h) ∧ Hid (TR s ((n : Int) = 0) 16 p0 k G p h)) (fun i _ => 16 - (intOf i).toNat)
            case atStart => exact ⟨0, M.G, p0, false, Nat.zero_le _, rfl, HDS, HRM, Lib.hid (show TR s ((n : Int) = 0) 16 p0 0 M.G p0 false from ⟨HMID.out.1, fun h => absurd h (by simp), HDS.out.fit.G, fun h => ⟨rfl, rfl, Nat.le_of_eq (HMID.out.2.2.2 h).1, by simp⟩⟩)⟩
            case round =>
              clear HDS HRM
              obtain ⟨k, G, p, h, hk, rfl, HD, HR, HT⟩ := hrel
              by_cases hlt : k < 16
              · go_wp2_with fail
                refine (dm_byte HD.out HR.out hs HT.out.1 HT.out.2.1).mono ?_
                rintro e wn ⟨c, p', h', rfl, HD', HR', HB⟩
                have i1 : IntKind.u8.wrap (c.toNat : Int) = (c.toNat : Int) := by have := c.toNat_lt; rw [IntKind.wrap_u8]; omega
                obtain ⟨v0, c0⟩ := HD'.out.cG hlt
                have f0 := HD'.out.m.free (37 + k)
                have HD2 := Lib.hid (HD'.out.set (37 + k) (.int .u8 (c.toNat : Int)) { M with G := G.set k c } (mc_setG HD'.out.fit _ k c) rfl ⟨HD'.out.fit.T, by simp only [List.length_set]; exact HD'.out.fit.G, HD'.out.fit.b⟩)
                have HR2 := Lib.hid (HD'.out.rm_set HR'.out (37 + k) (.int .u8 (c.toNat : Int)))
                have HT2 := Lib.hid (HT.out.step hlt HB.out)
                clear HD HR HT HB HD' HR'
                go_wp2_with fail
                go_roundw
                case rel => exact ⟨k + 1, G.set k c, p', h', by omega, by go_num, HD2, HR2, HT2⟩
                case measure => simp [intOf]; omega
              · obtain rfl : k = 16 := by omega
                have r0 : ¬ ((n : Int) = 0) := by have := HNN.out; omega
                have r1 : ((n : Int) != 0) = true := by simp; omega
                have HN := Lib.hid (HMID.out.2.2.1 r0)
                clear HT HMID hlt hk
                go_wp2_with (first
                  | ((with_reducible refine wpList_build_msg ?_ 30 #[] ?_ (mc zeroMsg (.slice none 0 0)).toArray ?_ ?_); rfl; rfl; (simp only [List.map_toArray, List.map_nil]; exact msg_built0))
                  | ((with_reducible refine wpList_store_msg (.tmp 2) (.tmp 99) ?_ ?_ A zeroMsg zeroMsg (.slice none 0 0) (.slice none 0 0) ?_ ?_ HD.out.z zeroMsg_fits zeroMsg_fits ?_ ?_); rfl; rfl; rfl; rfl; rfl))
                refine ret_msg (p := 2) (u := 3) rfl rfl (HD.out.z.setRow _) zeroMsg_fits rfl ?_
                exact dec_no HD.out HN.out

theorem refdec_any (w : World) (s : ByteArray) (hs : s.size ≤ 500) : Calls Try.prog 10 #[.string s] w (DecPost w s) := by
  by_cases h : s.size < 54
  · exact refdec_short w s h
  · exact refdec_long w s hs (by omega)
end Go.Proofs.Ytickcajihaejkaa
