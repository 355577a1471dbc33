/-
  What the reference's text and Of answer: the tag.
-/
import Derived.Test.YtnbdpalbompjlaaDoorKey0
import Derived.Test.YtnbdpalbompjlaaDoorInfo8
import Derived.Test.YtnbdpalbompjlaaDoorRefOf
import Derived.Deep.DeepCutAuto
namespace Go.Proofs.YtnbdpalbompjlaaDoor
open Go.RowKit
set_option maxRecDepth 10000


/-- A block of bytes, sliced, as append's source. -/
theorem Blk.src {P : Program} {w : World} {g : Nat} {t e tx : TypeId} {l : List UInt8} (h : Blk w g t (bv l)) (ht : P.underlying tx = some (.slice e)) : Src P 1 tx (.slice (some ⟨g, 0, none⟩) l.length l.length) l.length (bv l) w :=
  Src.ofSlice w ht ⟨g, 0, none⟩ _ _ (bv l) (by rw [bv_length, Nat.mul_one]) (fun j u hj => by rw [Addr.add_lit, Nat.zero_add, h.cell]; exact hj) (bv_one l)

set_option maxHeartbeats 1000000 in
theorem text_any (w : World) (D : List UInt8) (hD : D.length = 32) :
    Calls Tryd.prog 55 #[.agg (bv D).toArray] w fun e w' => e = .returned (.string ⟨D.toArray⟩) ∧ Below w.heap.size w w' := by
  obtain ⟨i0, hi, hz0, hz1, hz2⟩ := info_parts Tryd.info5
  obtain ⟨w1, hw1⟩ : ∃ w1, w1 = w.alloc (.cells (bv D).toArray 26) := ⟨_, rfl⟩
  have hb1 : Blk w1 w.heap.size 26 (bv D) := by rw [hw1]; exact Blk.new w 26 (bv D).toArray
  have hB1 : Below w.heap.size w w1 := by rw [hw1]; exact (Below.refl _ _).alloc (Nat.le_refl _) _
  have es : w1.heap.size = w.heap.size + 1 := by rw [hw1]; simp
  have HS := Lib.hid ((hb1.alloc (.cells #[] 5)).src (P := Tryd.prog) (tx := 86) Tryd.underlying86)
  rw [hD] at HS
  have HH := Lib.hid (held_empty w1 5 (w.heap.size + 1) (by omega))
  have HB1 := Lib.hid hB1
  have HD := Lib.hid hD
  have HW1 := Lib.hid hw1
  have HE := Lib.hid es
  clear hb1 hB1 hD hw1 es
  go_enter Tryd.func55, Tryd.ntmps55
  go_wp2_with (at_builtin; rw [← HW1.out]; refine wpList_append_held rfl _ _ 86 86 rfl rfl HH.out 5 i0 (.int .u8 0) 1 Tryd.underlying86 hi hz0 hz1 hz2 rfl _ rfl 32 (bv D) HS.out ?e2 ?e3 ?e4 ?_)
  case e2 => unfold maxLen; simp
  case e3 => simp
  case e4 => simp
  intro v2 w2 hh2 hg2
  have hb2 : Below w1.heap.size w1 w2 := ((Below.refl _ _).alloc (Nat.le_refl _) _).trans (hg2.below HH.out (by simp))
  have HB2 := Lib.hid (HB1.out.trans (hb2.mono HB1.out.size))
  have hcv := Held.string (P := Tryd.prog) (show Held w2 w1.heap.size v2 (bv D) by simpa using hh2) 86 9 5 Tryd.underlying86 Tryd.underlying5 Tryd.underlying9
  clear hh2 hg2 hb2 HH HS hi hz0 hz1 hz2
  go_wp2_with fail
  go_ret
  exact ⟨rfl, HB2.out⟩

/-- The reference's loops. -/
def PadRel (w : World) (k : List UInt8) (v : Value) (wr : World) : Prop :=
  ∃ i : Nat, k.length + i ≤ 64 ∧ v = .string ⟨(zeros k i).toArray⟩ ∧ Below w.heap.size w wr
def gapK (v : Value) : Nat := match v with
  | .string s => 64 - s.size
  | _ => 0
theorem fillK_zeros (k : List UInt8) (i : Nat) (h : (keyB k).length + i = 64) : zeros (keyB k) i = fillK k := by
  rw [zeros, fillK, show 64 - (keyB k).length = i by omega]

structure XorIn (w : World) (K : List UInt8) (wr : World) : Prop where
  res : Blk wr w.heap.size 30 (zb 16)
  hB : Below w.heap.size w wr
theorem XorIn.below {w : World} {K : List UInt8} {wr w' : World} (h : XorIn w K wr) (hb : Below wr.heap.size wr w') : XorIn w K w' :=
  ⟨h.res.below hb h.res.lt, h.hB.trans (hb.mono h.hB.size)⟩
theorem XorIn.alloc2 {w : World} {K : List UInt8} {wr : World} (h : XorIn w K wr) (o p : Obj) : XorIn w K ((wr.alloc o).alloc p) :=
  h.below (((Below.refl _ _).alloc (Nat.le_refl _) _).alloc (by simp) _)
theorem XorIn.step {w : World} {K : List UInt8} {wr : World} (h : XorIn w K wr) {o : Obj} {cs : Array Value} : XorIn w K ((wr.alloc o).setRow wr.heap.size cs) :=
  h.below (below_setRow ((Below.refl _ _).alloc (Nat.le_refl _) _) (Nat.le_refl _) _)
def XorRel (w : World) (K : List UInt8) (vi vo x : Value) (wr : World) : Prop :=
  ∃ i : Nat, x = .int .i64 (i : Int) ∧ i ≤ 64 ∧ vi = .string ⟨(mask 54 (K.take i)).toArray⟩ ∧ vo = .string ⟨(mask 92 (K.take i)).toArray⟩ ∧ XorIn w K wr
theorem mask_take (m : UInt8) (K : List UInt8) (i : Nat) (h : i < K.length) : mask m (K.take (i + 1)) = mask m (K.take i) ++ [K.getD i 0 ^^^ m] := by
  rw [List.take_add_one, getD_some K i (x := 0) h]; simp [mask]

def TagRel (w : World) (g8 g9 : Nat) (D : List UInt8) (x : Value) (wr : World) : Prop :=
  ∃ i : Nat, x = .int .i64 (i : Int) ∧ i ≤ 16 ∧ Blk wr g9 30 (bv (D.take i ++ List.replicate (16 - i) 0)) ∧ Blk wr g8 26 (bv D) ∧ XorIn w D wr

set_option maxRecDepth 100000 in
set_option maxHeartbeats 4000000 in
theorem refTag_any (w : World) (k s : List UInt8) (hk : k.length ≤ 500) (hs : s.length ≤ 500) :
    Calls Tryd.prog 38 #[.string ⟨k.toArray⟩, .string ⟨s.toArray⟩] w fun e w' => e = .returned (.agg (bv (tag k s)).toArray) ∧ Below w.heap.size w w' := by
  obtain ⟨SK, hSK⟩ : ∃ S : ByteArray, S = ⟨k.toArray⟩ := ⟨_, rfl⟩
  obtain ⟨SS, hSS⟩ : ∃ S : ByteArray, S = ⟨s.toArray⟩ := ⟨_, rfl⟩
  rw [← hSK, ← hSS]
  have zK : SK.size = k.length := by rw [hSK]; simp [ByteArray.size]
  have zS : SS.size = s.length := by rw [hSS]; simp [ByteArray.size]
  have hzA := (zero_of_info Tryd.zero30).1
  obtain ⟨w1, hw1⟩ : ∃ w1, w1 = w.alloc (.cells (zb 16).toArray 30) := ⟨_, rfl⟩
  have hx1 : XorIn w k w1 := by rw [hw1]; exact ⟨Blk.new w 30 (zb 16).toArray, (Below.refl _ _).alloc (Nat.le_refl _) _⟩
  have HX := Lib.hid hx1
  have HW1 := Lib.hid hw1
  have HSK := Lib.hid hSK
  have HSS := Lib.hid hSS
  clear hSK hSS hx1 hw1
  go_enter Tryd.func38, Tryd.ntmps38
  go_upto_if 13 with fail
  rw [← HW1.out]
  clear HW1
  go_cut [0] (fun v wr => v = .string ⟨(keyB k).toArray⟩ ∧ XorIn w k wr)
  case first =>
    by_cases h64 : (64 : Int) < (k.length : Int)
    · have h1 := refof_any w1 k (by omega)
      rw [← HSK.out] at h1
      have H1 := Lib.hid h1
      clear h1
      go_wp2_with fail
      refine H1.out.mono ?_
      rintro e w2 ⟨rfl, hb2⟩
      have HB2 := Lib.hid hb2
      clear hb2 H1
      go_wp2_with fail
      refine (text_any w2 (digest k) (digest_length _)).mono ?_
      rintro e w3 ⟨rfl, hb3⟩
      have HB3 := Lib.hid hb3
      clear hb3
      go_wp2_with fail
      go_meet
      have hk : 64 < k.length := by omega
      have hb := HB2.out.trans (HB3.out.mono HB2.out.size)
      exact ⟨by rw [keyB, if_pos hk], HX.out.res.below hb HX.out.res.lt, HX.out.hB.trans (hb.mono HX.out.hB.size)⟩
    · go_wp2_with fail
      go_meet
      exact ⟨by rw [keyB, if_neg (by omega), HSK.out], HX.out⟩
  case rest =>
  clear HX
  obtain ⟨rfl, hx⟩ := hcut
  have HX := Lib.hid hx
  clear hx
  obtain ⟨KB, hKB⟩ : ∃ K, K = keyB k := ⟨_, rfl⟩
  have hKl := keyB_le k
  rw [← hKB] at hKl ⊢
  go_wp2_with fail
  go_loopw [0] (fun v wr => PadRel wc KB v wr) (fun v _ => gapK v)
  case atStart => exact ⟨0, by omega, by simp [zeros], Below.refl _ _⟩
  case round =>
    obtain ⟨i, hi, rfl, hB⟩ := hrel
    obtain ⟨Z, hZ⟩ : ∃ Z : ByteArray, Z = ⟨(zeros KB i).toArray⟩ := ⟨_, rfl⟩
    rw [← hZ]
    obtain ⟨n, hn⟩ : ∃ n, n = KB.length + i := ⟨_, rfl⟩
    have zZ : Z.size = n := by rw [hZ, hn]; simp [ByteArray.size, zeros_length]
    by_cases hlt : n < 64
    · have d0 : (n : Int) < 64 := by omega
      have HN := Lib.hid (show Z ++ ⟨#[0]⟩ = ⟨(zeros KB (i + 1)).toArray⟩ by rw [hZ, ← zeros_succ]; apply ByteArray.ext; simp)
      have HB := Lib.hid hB
      have HZZ := Lib.hid hn
      clear hZ hB hn
      go_wp2_with fail
      have hn := HZZ.out
      refine ⟨⟨i + 1, by omega, by rw [HN.out], HB.out⟩, ?_⟩
      rw [HN.out]
      have zz : Z.data.size = n := zZ
      simp only [gapK, ByteArray.size, List.size_toArray, zeros_length]
      omega
    · have hK : zeros KB i = fillK k := by rw [hKB]; exact fillK_zeros k i (by rw [← hKB]; omega)
      have d0 : ¬ (n : Int) < 64 := by omega
      have en : n = 64 := by omega
      subst en
      rw [hK] at hZ
      obtain ⟨K, hKK⟩ : ∃ K, K = fillK k := ⟨_, rfl⟩
      have hKl : K.length = 64 := by rw [hKK]; exact fillK_length k
      rw [← hKK] at hZ hK
      have HKK := Lib.hid hKK
      have HZ := Lib.hid hZ
      have HX2 := Lib.hid (show XorIn w K wr from ⟨HX.out.res.below hB HX.out.res.lt, HX.out.hB.trans (hB.mono HX.out.hB.size)⟩)
      clear hKK hZ hB hn hK hi hlt HX hKB d0
      go_wp2_with fail
      go_loopw [5, 6, 7] (fun a b x wr => XorRel w K a b x wr) (fun _ _ x _ => 64 - intN x)
      case atStart => exact ⟨0, rfl, by omega, by simp [mask], by simp [mask], HX2.out⟩
      case round =>
        clear HX2
        obtain ⟨j, rfl, hj, rfl, rfl, hX⟩ := hrel
        obtain ⟨A, hA⟩ : ∃ A : ByteArray, A = ⟨(mask 54 (K.take j)).toArray⟩ := ⟨_, rfl⟩
        obtain ⟨B, hB⟩ : ∃ A : ByteArray, A = ⟨(mask 92 (K.take j)).toArray⟩ := ⟨_, rfl⟩
        rw [← hA, ← hB]
        have zA : A.size = j := by rw [hA]; simp [ByteArray.size, mask_length, hKl]; omega
        have zB : B.size = j := by rw [hB]; simp [ByteArray.size, mask_length, hKl]; omega
        have HX := Lib.hid hX
        by_cases hlt : j < 64
        · have d0 : (j : Int) < 64 := by omega
          have hjK : j < K.length := by omega
          obtain ⟨c, hc⟩ : ∃ c, c = K.getD j 0 := ⟨_, rfl⟩
          have hix : ∀ w', (Instr.index 9 (.string Z) (.int .i64 (j : Int))).run Tryd.prog w' = .ok (.int .u8 (c.toNat : Int)) w' := fun w' => index_text w' Z K j c HZ.out (by rw [hc]; exact getD_some K j hjK)
          have r1 := rule_xor8 c 54
          have r2 := rule_xor8 c 92
          have e1 : ((54 : UInt8).toNat : Int) = 54 := rfl
          have e2 : ((92 : UInt8).toNat : Int) = 92 := rfl
          rw [e1] at r1
          rw [e2] at r2
          clear e1 e2
          obtain ⟨x, hx⟩ : ∃ x, x = c ^^^ 54 := ⟨_, rfl⟩
          obtain ⟨y, hy⟩ : ∃ x, x = c ^^^ 92 := ⟨_, rfl⟩
          rw [← hx] at r1
          rw [← hy] at r2
          obtain ⟨C1, hC1⟩ : ∃ A : ByteArray, A = ⟨[x].toArray⟩ := ⟨_, rfl⟩
          obtain ⟨C2, hC2⟩ : ∃ A : ByteArray, A = ⟨[y].toArray⟩ := ⟨_, rfl⟩
          have v1 := conv_bytes (l := [x]) (Blk.new wr 5 (bv [x]).toArray)
          have v2 := conv_bytes (l := [y]) (Blk.new (wr.alloc (.cells #[.int .u8 (x.toNat : Int)] 5)) 5 (bv [y]).toArray)
          rw [← hC1] at v1
          rw [← hC2] at v2
          simp only [bv, List.map_cons, List.map_nil, List.length_cons, List.length_nil, Nat.reduceAdd, World.size_alloc] at v1 v2
          have z1 : C1.size = 1 := by rw [hC1]; rfl
          have z2 : C2.size = 1 := by rw [hC2]; rfl
          have HN1 := Lib.hid (show A ++ C1 = ⟨(mask 54 (K.take (j + 1))).toArray⟩ by rw [hA, hC1, mask_take 54 K j hjK, ← hc, ← hx]; apply ByteArray.ext; simp)
          have HN2 := Lib.hid (show B ++ C2 = ⟨(mask 92 (K.take (j + 1))).toArray⟩ by rw [hB, hC2, mask_take 92 K j hjK, ← hc, ← hy]; apply ByteArray.ext; simp)
          clear hA hB hX hc hx hy hC1 hC2
          go_wp2_with fail
          refine ⟨⟨j + 1, by simp, by omega, by rw [HN1.out], by rw [HN2.out], HX.out.alloc2 _ _⟩, ?_⟩
          simp only [intN]
          omega
        · have d0 : ¬ (j : Int) < 64 := by omega
          have ej : j = 64 := by omega
          subst ej
          rw [List.take_of_length_le (by omega)] at hA hB
          have zz1 : s.length ≤ 500 := hs
          have HAS := Lib.hid (show A ++ SS = ⟨(mask 54 K ++ s).toArray⟩ by rw [hA, HSS.out]; apply ByteArray.ext; simp)
          have HBB := Lib.hid hB
          clear hA hB hX d0 hlt
          go_wp2_with fail
          rw [HAS.out]
          refine (refof_any wr (mask 54 K ++ s) (by simp [mask_length, hKl]; omega)).mono ?_
          rintro e w2 ⟨rfl, hb2⟩
          have HX2 := Lib.hid (HX.out.below hb2)
          obtain ⟨D, hD⟩ : ∃ D, D = digest (mask 54 K ++ s) := ⟨_, rfl⟩
          have hDl : D.length = 32 := by rw [hD]; exact digest_length _
          rw [← hD]
          have HD := Lib.hid (show D = inner k s by rw [hD, inner, ← HKK.out])
          clear hb2 HX hD
          go_wp2_with fail
          refine (text_any w2 D hDl).mono ?_
          rintro e w3 ⟨rfl, hb3⟩
          have HX3 := Lib.hid (HX2.out.below hb3)
          obtain ⟨SD, hSD⟩ : ∃ A : ByteArray, A = ⟨D.toArray⟩ := ⟨_, rfl⟩
          rw [← hSD]
          have zD : SD.size = 32 := by rw [hSD]; simp [ByteArray.size, hDl]
          have HBS := Lib.hid (show B ++ SD = ⟨(mask 92 K ++ D).toArray⟩ by rw [HBB.out, hSD]; apply ByteArray.ext; simp)
          clear hb3 HX2 hSD
          go_wp2_with fail
          rw [HBS.out]
          refine (refof_any w3 (mask 92 K ++ D) (by simp [mask_length, hKl, hDl])).mono ?_
          rintro e w4 ⟨rfl, hb4⟩
          have hX4 := HX3.out.below hb4
          obtain ⟨D2, hD2⟩ : ∃ D2, D2 = digest (mask 92 K ++ D) := ⟨_, rfl⟩
          have hl2 : D2.length = 32 := by rw [hD2]; exact digest_length _
          rw [← hD2]
          have HD2 := Lib.hid (show D2 = outer k s by rw [hD2, outer, ← HKK.out, ← HD.out])
          have hlt4 := hX4.res.lt
          have hzR := (zero_of_info Tryd.zero26).1
          have hn4 := Blk.new w4 26 (zb 32).toArray
          have HN4 := Lib.hid hn4
          have hr4 := hn4.setRow (bv D2)
          have hX5 := hX4.step (o := .cells (zb 32).toArray 26) (cs := (bv D2).toArray)
          have HZ2 := Lib.hid (show (Tryd.prog.info? 26).map (·.size) = some (bv D2).length by rw [bv_length, hl2]; exact Tryd.size26)
          have HLL := Lib.hid (show 0 + (bv D2).length ≤ (zb 32).toArray.toList.length by rw [bv_length, hl2]; simp [zb_length])
          have HP := Lib.hid (splice_all (zb 32).toArray.toList (bv D2) (by rw [bv_length, hl2]; simp [zb_length]))
          have e5 : ((w4.alloc (.cells (zb 32).toArray 26)).setRow w4.heap.size (bv D2).toArray).heap.size = w4.heap.size + 1 := by rw [setRow_size']; simp
          have HR4 := Lib.hid hr4
          have HX5 := Lib.hid hX5
          have HE5 := Lib.hid e5
          clear hb4 hD2 hX4 hn4 hr4 hX5 HX3 e5
          go_wp2_with ((with_reducible refine wpList_store_part ?_ 26 (.tmp 8) (.tmp 49) ?_ w4.heap.size 0 (bv D2) ?_ ?_ 26 _ HN4.out HZ2.out HLL.out (bv_one _) ?_); rfl; rfl; rfl; rfl; rw [HP.out])
          generalize (w4.alloc (.cells (zb 32).toArray 26)).setRow w4.heap.size (bv D2).toArray = w5 at HR4 HX5 HE5 ⊢
          have h9 := Blk.new w5 30 (zb 16).toArray
          have h8 := HR4.out.alloc (.cells (zb 16).toArray 30)
          have hx := HX5.out.below ((Below.refl w5.heap.size w5).alloc (Nat.le_refl _) (.cells (zb 16).toArray 30))
          rw [HE5.out] at h9
          have HS := Lib.hid (show TagRel w w4.heap.size (w4.heap.size + 1) D2 (.int .i64 0) (w5.alloc (.cells (zb 16).toArray 30)) from ⟨0, rfl, by omega, h9, h8, hx.res, hx.hB⟩)
          clear h9 h8 hx HR4 HX5 HE5 HN4 HZ2 HLL HP
          go_loopw [10, 50] (fun _ x wr => TagRel w w4.heap.size (w4.heap.size + 1) D2 x wr) (fun _ x _ => 16 - intN x)
          case atStart => exact HS.out
          case round =>
            clear HS
            obtain ⟨i, rfl, hi, h9, h8, hX⟩ := hrel
            by_cases hlt : i < 16
            · have d0 : (i : Int) < 16 := by omega
              have d1 : (i : Int) < 32 := by omega
              have hiD : i < D2.length := by omega
              obtain ⟨c, hc⟩ : ∃ c, c = D2.getD i 0 := ⟨_, rfl⟩
              have q := (h8.cell i).trans (bv_some (x := c) (by rw [hc]; exact getD_some D2 i hiD))
              have hsome := (h9.cell i).trans (bv_some (l := D2.take i ++ List.replicate (16 - i) 0) (x := 0) (by rw [List.getElem?_append_right (by rw [List.length_take]; omega), List.length_take, Nat.min_eq_left (by omega), Nat.sub_self, List.getElem?_replicate, if_pos (by omega)]))
              have f := h9.free i
              have h9' := h9.set i (.int .u8 (c.toNat : Int))
              have hset : (D2.take i ++ List.replicate (16 - i) 0).set i c = D2.take (i + 1) ++ List.replicate (16 - (i + 1)) 0 := by
                rw [List.set_append_right _ _ (by rw [List.length_take]; omega), List.length_take, Nat.min_eq_left (by omega), Nat.sub_self, show 16 - i = 16 - (i + 1) + 1 by omega, List.replicate_succ, List.set_cons_zero, List.take_add_one, getD_some D2 i (x := 0) hiD, ← hc]
                simp
              rw [bv_set, hset] at h9'
              have h8' := h8.other ⟨w4.heap.size + 1, i, none⟩ (.int .u8 (c.toNat : Int)) (by simp)
              have hX' : XorIn w D2 (wr.setCell ⟨w4.heap.size + 1, i, none⟩ (.int .u8 (c.toNat : Int))) := ⟨hX.res.other _ _ (by simp; omega), hX.hB.setCell (p := ⟨w4.heap.size + 1, i, none⟩) (by simp; omega) _⟩
              have H' := Lib.hid (show TagRel w w4.heap.size (w4.heap.size + 1) D2 (.int .i64 ((i : Int) + 1)) (wr.setCell ⟨w4.heap.size + 1, i, none⟩ (.int .u8 (c.toNat : Int))) from ⟨i + 1, by simp, by omega, h9', h8', hX'⟩)
              clear h9 h8 hX h9' h8' hX' hc hset
              go_wp2_with fail
              refine ⟨H'.out, ?_⟩
              simp only [intN]
              omega
            · have ei : i = 16 := by omega
              subst ei
              have d0 : ¬ ((16 : Nat) : Int) < 16 := by omega
              simp only [Nat.sub_self, List.replicate_zero, List.append_nil] at h9
              obtain ⟨T, hT⟩ : ∃ T, T = D2.take 16 := ⟨_, rfl⟩
              rw [← hT] at h9
              have htk : T.length = 16 := by rw [hT, List.length_take]; omega
              have HTT := Lib.hid (show T = tag k s by rw [hT, tag, HD2.out])
              have HC := Lib.hid (Blk.cells h9)
              have HR := Lib.hid hX.res
              have HZT := Lib.hid (show (Tryd.prog.info? 30).map (·.size) = some (bv T).length by rw [bv_length, htk]; exact Tryd.size30)
              have HLL := Lib.hid (show 0 + (bv T).length ≤ (zb 16).length by rw [bv_length, htk, zb_length]; omega)
              have HP := Lib.hid (splice_all (zb 16) (bv T) (by rw [bv_length, htk, zb_length]))
              have HR2 := Lib.hid (hX.res.setRow (bv T))
              have HB2 := Lib.hid (below_setRow hX.hB (Nat.le_refl w.heap.size) (bv T).toArray)
              clear h9 h8 hX hT d0 hlt
              go_wp2_with (first
                | ((with_reducible refine wpList_load_cells ?_ 30 (.tmp 9) ?_ _ 0 _ ?_ 16 5 HC.out Tryd.underlying30 HZT.out ?_); rfl; rfl; rfl)
                | ((with_reducible refine wpList_store_part ?_ 30 (.tmp 4) (.tmp 59) ?_ w.heap.size 0 (bv T) ?_ ?_ 30 _ HR.out HZT.out HLL.out (bv_one _) ?_); rfl; rfl; rfl; rfl; rw [HP.out]))
              refine bodyPost_ret (v := .agg (bv T).toArray) ?_ rfl ⟨by rw [HTT.out], HB2.out⟩
              exact results_cell_row rfl _ _ w.heap.size 30 _ (0, 0) (.array 16 5) rfl HR2.out Tryd.underlying30 rfl (by rw [List.size_toArray]; exact HZT.out)
end Go.Proofs.YtnbdpalbompjlaaDoor
