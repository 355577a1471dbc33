/-
  The texts WPlain, WParts, WText, one behind the other.
-/
import Derived.Test.YtnbdpalbompjlaaDoorM9
import Derived.Test.YtnbdpalbompjlaaDoorPut
import Derived.Test.YtnbdpalbompjlaaDoorM4
/-
  What wire.Plain answers, of a message whose numbers fit.
-/
namespace Go.Proofs.YtnbdpalbompjlaaDoor
open Go.RowKit
set_option maxRecDepth 10000

theorem put_step (w : World) (B : Nat) (v : Value) (bs : List UInt8) (n k : Nat) (hk : k ≤ 8) (hn : n < 2 ^ 64) (hv : Held w B v (bv bs)) (hB : B ≤ w.heap.size) (hl : bs.length ≤ 1000000) :
    Calls Tryd.prog 53 #[v, .int .u64 n, .int .i64 k] w fun e w' => ∃ v', e = .returned v' ∧ Hid (Held w' B v' (bv (bs ++ leB n k))) ∧ Hid (Below B w w') :=
  (put_mid w B v bs n k hk hn hv hB hl).mono fun _ _ ⟨v', h1, h2, h3⟩ => ⟨v', h1, Lib.hid h2, Lib.hid (h3.below hv hB)⟩

theorem bput_step (w : World) (B : Nat) (v : Value) (bs : List UInt8) (u : Value) (l : List Bool) (hv : Held w B v (bv bs)) (hB : B ≤ w.heap.size) (hu : BRow w B u l) (h1 : bs.length ≤ 1000) (h2 : l.length ≤ 1000) :
    Calls Tryd.prog 54 #[v, u] w fun e w' => ∃ v', e = .returned v' ∧ Hid (Held w' B v' (bv (bs ++ encR l))) ∧ Hid (Below B w w') :=
  (bput_any w B v bs u l hv hB hu h1 h2).mono fun _ _ ⟨v', h1, h2, h3⟩ => ⟨v', h1, Lib.hid h2, Lib.hid (h3.below hv hB)⟩

/-- A message's Target, as append's source. -/
theorem src_target {w : World} {g : Nat} {M : Msg} {sl : Value} (h : Blk w g 32 (mc M sl)) (hf : M.Fits) : Src Tryd.prog 1 86 (.slice (some ⟨g, 2, none⟩) 32 32) 32 (bv M.T) w := by
  refine Src.ofSlice _ Tryd.underlying86 _ 32 32 _ (by rw [bv_length, hf.T]) (fun j u hj => ?_) (bv_one _)
  rw [Addr.add_lit, h.cell]
  exact mc_T sl j u hj

theorem hid_str {w : World} {B : Nat} {v : Value} {l r : List UInt8} (h : Held w B v (bv l)) (e : l = r) : Sem.run Tryd.prog (convert 86 9 v) w = .ok (.string ⟨r.toArray⟩) w := by
  subst e
  exact h.string (P := Tryd.prog) 86 9 5 Tryd.underlying86 Tryd.underlying5 Tryd.underlying9

set_option maxHeartbeats 4000000 in
theorem wplain_any (w : World) (M : Msg) (sl : Value) (hm : M.Ranged) (hr : BRow w w.heap.size sl M.l) (hl : M.l.length ≤ 1000) :
    Calls Tryd.prog 36 #[.agg (mc M sl).toArray] w fun e w' => e = .returned (.string ⟨(msgP M).toArray⟩) ∧ Below w.heap.size w w' := by
  obtain ⟨i0, hi, hz0, hz1, hz2⟩ := info_parts Tryd.infoU8
  have hk0 := Blk.new w 32 (mc M sl).toArray
  have hb0 := (Below.refl w.heap.size w).alloc (Nat.le_refl _) (.cells (mc M sl).toArray 32)
  have HR := Lib.hid (hr.bits hb0)
  have HF := Lib.hid hm.fits
  have HM := Lib.hid hm
  obtain ⟨ao, cap, hsl⟩ := hr.form
  have HSL := Lib.hid hsl
  obtain ⟨K, hK⟩ : ∃ K : Nat, M.k = K := ⟨M.k.toNat, by have := hm.k; omega⟩
  obtain ⟨S, hS⟩ : ∃ S : Nat, M.s = S := ⟨M.s.toNat, by have := hm.s; omega⟩
  obtain ⟨m, hmm⟩ : ∃ m : Nat, M.m = m := ⟨M.m.toNat, by have := hm.m; omega⟩
  have hKb : K ≤ 3 := by have := hm.k; omega
  have hSb : S < 4294967296 := by have := hm.s; omega
  have hmb : m < 65536 := by have := hm.m; omega
  have hbb := hm.fits.b
  have HKE := Lib.hid hK
  have HSE := Lib.hid hS
  have HME := Lib.hid hmm
  have HBL := Lib.hid hb0
  have HK0 := Lib.hid hk0
  have hlt0 := hk0.lt
  generalize hw0 : w.alloc (.cells (mc M sl).toArray 32) = w0 at *
  obtain ⟨g, hg⟩ : ∃ g, g = w.heap.size := ⟨_, rfl⟩
  have HW0 := Lib.hid hw0
  have HG := Lib.hid hg
  rw [← hg] at HK0 hlt0 HBL
  clear hk0 hb0 hr hm hsl hK hS hmm hw0
  have u1 : IntKind.u64.wrap (K : Int) = (K : Int) := by rw [IntKind.wrap_u64]; omega
  have u2 : IntKind.u64.wrap (S : Int) = (S : Int) := by rw [IntKind.wrap_u64]; omega
  have u3 : IntKind.u64.wrap (m : Int) = (m : Int) := by rw [IntKind.wrap_u64]; omega
  rw [← hg]
  clear hg
  go_enter Tryd.func36, Tryd.ntmps36
  go_upto_region 1 with fail
  rw [HW0.out, ← HG.out]
  obtain ⟨c0, c1, c34, c35, c36⟩ := HK0.out.msg HF.out
  rw [HKE.out] at c0
  go_wp2_with fail
  refine (put_step w0 w0.heap.size _ [] K 1 (by omega) (by omega) (Held.nil _ _) (Nat.le_refl _) (by simp)).mono ?_
  rintro e w1 ⟨v1, rfl, HH1, HB1⟩
  clear c0 c1 c34 c35 c36
  obtain ⟨c0, c1, c34, c35, c36⟩ := (HK0.out.below HB1.out hlt0).msg HF.out
  rw [HSE.out] at c1
  go_wp2_with fail
  refine (put_step w1 w0.heap.size v1 _ S 4 (by omega) (by omega) HH1.out HB1.out.size (by rw [List.length_append, leB_length]; simp)).mono ?_
  rintro e w2 ⟨v2, rfl, HH2, HB2'⟩
  have HB2 := Lib.hid (HB1.out.trans HB2'.out)
  clear c0 c1 c34 c35 c36 HH1 HB1 HB2'
  have HSrc := Lib.hid (src_target (HK0.out.below HB2.out hlt0) HF.out)
  have hLen : (bv ([] ++ leB K 1 ++ leB S 4)).length = 5 := by rw [bv_length]; simp [leB_length]
  go_wp2_with (at_builtin; refine wpList_append_held rfl _ _ 86 86 rfl rfl HH2.out 5 i0 (.int .u8 0) 1 Tryd.underlying86 hi hz0 hz1 hz2 rfl _ rfl 32 (bv M.T) HSrc.out ?c2 ?c3 ?c4 ?_)
  case c2 => unfold maxLen; omega
  case c3 => omega
  case c4 => exact HB2.out.size
  intro v3 w3 hh3 hg3
  have HB3 := Lib.hid (HB2.out.trans (hg3.below HH2.out HB2.out.size))
  have HH3 := Lib.hid (show Held w3 w0.heap.size v3 (bv (leB K 1 ++ leB S 4 ++ M.T)) by rw [bv_append _ M.T]; exact hh3)
  have hl3 : (leB K 1 ++ leB S 4 ++ M.T).length = 37 := by simp [leB_length, HF.out.T]
  clear hh3 hg3 HH2 HB2 HSrc hLen
  obtain ⟨c0, c1, c34, c35, c36⟩ := (HK0.out.below HB3.out hlt0).msg HF.out
  rw [HKE.out] at c0
  rw [HME.out] at c34
  rcases HM.out.k with q | q | q
  · obtain rfl : K = 1 := by have := HKE.out; omega
    have HP := Lib.hid (show leB 1 1 ++ leB S 4 ++ M.T ++ leB m 2 ++ leB M.b 8 = msgP M by
      simp only [msgP, msgR, q, HSE.out, HME.out, if_true, List.append_assoc]; rfl)
    clear q c1 c35 c36
    go_wp2_with fail
    refine (put_step w3 w0.heap.size v3 _ m 2 (by omega) (by omega) HH3.out HB3.out.size (by omega)).mono ?_
    rintro e w4 ⟨v4, rfl, HH4, HB4'⟩
    have HB4 := Lib.hid (HB3.out.trans HB4'.out)
    clear c0 c34 HH3 HB3 HB4'
    obtain ⟨_, _, _, c35, _⟩ := (HK0.out.below HB4.out hlt0).msg HF.out
    go_wp2_with fail
    refine (put_step w4 w0.heap.size v4 _ M.b 8 (by omega) hbb HH4.out HB4.out.size (by rw [List.length_append, leB_length]; omega)).mono ?_
    rintro e w5 ⟨v5, rfl, HH5, HB5'⟩
    have HB5 := Lib.hid (HB4.out.trans HB5'.out)
    have hs := hid_str HH5.out HP.out
    clear c35 HH4 HB4 HB5'
    go_wp2_with fail
    go_ret
    exact ⟨rfl, HBL.out.trans (HB5.out.mono (by omega))⟩
  · obtain rfl : K = 2 := by have := HKE.out; omega
    have HP := Lib.hid (show leB 2 1 ++ leB S 4 ++ M.T ++ leB m 2 = msgP M by
      simp only [msgP, msgR, q, HSE.out, HME.out, List.append_assoc]; rfl)
    clear q c1 c35 c36
    go_wp2_with fail
    refine (put_step w3 w0.heap.size v3 _ m 2 (by omega) (by omega) HH3.out HB3.out.size (by omega)).mono ?_
    rintro e w4 ⟨v4, rfl, HH4, HB4'⟩
    have HB4 := Lib.hid (HB3.out.trans HB4'.out)
    have hs := hid_str HH4.out HP.out
    clear c0 c34 HH3 HB3 HB4'
    go_wp2_with fail
    go_ret
    exact ⟨rfl, HBL.out.trans (HB4.out.mono (by omega))⟩
  · obtain rfl : K = 3 := by have := HKE.out; omega
    have HP := Lib.hid (show leB 3 1 ++ leB S 4 ++ M.T ++ encR M.l = msgP M by
      simp only [msgP, msgR, q, HSE.out, List.append_assoc]; rfl)
    clear q c1 c34 c35
    go_wp2_with fail
    refine (bput_step w3 w0.heap.size v3 _ sl M.l HH3.out HB3.out.size (HR.out.keep HB3.out) (by omega) hl).mono ?_
    rintro e w4 ⟨v4, rfl, HH4, HB4'⟩
    have HB4 := Lib.hid (HB3.out.trans HB4'.out)
    have hs := hid_str HH4.out HP.out
    clear c0 c36 HH3 HB3 HB4'
    go_wp2_with fail
    go_ret
    exact ⟨rfl, HBL.out.trans (HB4.out.mono (by omega))⟩
end Go.Proofs.YtnbdpalbompjlaaDoor

/-
  What wire.whole and wire.Encode answer.
-/
namespace Go.Proofs.YtnbdpalbompjlaaDoor
open Go.RowKit
set_option maxRecDepth 10000

theorem cat_bytes (a b : List UInt8) : (⟨a.toArray⟩ : ByteArray) ++ ⟨b.toArray⟩ = ⟨(a ++ b).toArray⟩ := by apply ByteArray.ext; simp

/-- A message out of memory, in a region whose operations come in any order. -/
theorem stepAt_load_msg {ops : Array Oper} {o : Oper} {a : Act} {w : World} {R : Value → World → Prop} {d : Tmp} (hd : o.dst = some d) (hw : Region.wanted o (yielded ops a.tmps) = true) (hz : decide (d < a.tmps.size) = true) (x : Operand) (ho : o.op = .load 32 x)
    (g : Nat) (M : Msg) (sl : Value) (hx : a.eval x = .pointer (some ⟨g, 0, none⟩)) (hg : Blk w g 32 (mc M sl)) (hf : M.Fits) (h : R (.agg (mc M sl).toArray) w) : stepAt Tryd.prog ops o a w R := by
  refine stepAt_value hd hw hz _ w ?_ h
  unfold execOp
  simp only [ho, hx, Sem.run_bind, run_load_msg hg hf, Result.andThen_ok]
  rfl

/-- Bytes in a block, as a text. -/
theorem bytes_str {w : World} {g off n : Nat} {l : List UInt8} (hn : l.length = n) (hc : ∀ j v, (bv l)[j]? = some v → w.cell? ⟨g, off + j, none⟩ = some v) : Sem.run Tryd.prog (convert 86 9 (.slice (some ⟨g, off, none⟩) n n)) w = .ok (.string ⟨l.toArray⟩) w := by
  subst hn
  refine run_convert_bytes_back w 86 9 5 ⟨g, off, none⟩ l.length l Tryd.underlying86 Tryd.underlying5 Tryd.underlying9 fun j hj => ?_
  rw [Addr.add_lit]
  exact hc j _ (bv_at hj)
theorem tag_str {w : World} {g : Nat} {M : Msg} {sl : Value} (h : Blk w g 32 (mc M sl)) (hf : M.Fits) : Sem.run Tryd.prog (convert 86 9 (.slice (some ⟨g, 37, none⟩) 16 16)) w = .ok (.string ⟨M.G.toArray⟩) w :=
  bytes_str hf.G fun j v hj => (h.cell _).trans (mc_G hf sl j v hj)

end Go.Proofs.YtnbdpalbompjlaaDoor

/-
  Bytes as a text, and what is appended to nothing.
-/
namespace Go.Proofs.YtnbdpalbompjlaaDoor
open Go.RowKit
set_option maxRecDepth 10000

theorem append_empty {P : Program} (w : World) (ad : Addr) (t tx ty e : TypeId) (i : TypeInfo) (z : Value) (bytes : Nat)
    (ht : P.underlying t = some (.slice e)) (hi : P.info? e = some i) (hz : i.zero = some z) (hsize : i.size = 1) (hby : i.bytes = bytes) (hzs : z.cells.size = 1)
    (x : Value) (n : Nat) (news : List Value) (hs : Src P 1 tx x n news w) (h0 : 0 < n) (hfit : n ≤ maxLen) (hbytes : n * bytes ≤ 140737488355328) :
    ∃ v' w', (Builtin.append_ #[t, tx] ty #[.slice (some ad) 0 0, x]).run P w = .ok v' w' ∧ Held w' w.heap.size v' news ∧ Below w.heap.size w w' := by
  have hn : news.length = n := by simpa using hs.newsLen
  have hold : (Builtin.firstCells i.size 0 (.slice (some ad) 0 0)).run P w.drew = .ok ([] : List Value).toArray w.drew := by
    rw [hsize]
    exact run_firstCells_some w.drew 1 0 ad 0 0 [] (by simp) (fun j u hj => by simp at hj)
  have h63 : ((0 + n : Nat) : Int) ≤ 9223372036854775807 := by unfold maxLen at hfit; omega
  have hrun := run_append_grow_src (P := P) w t tx ty e i z ht hi hz (some ad) 0 0 [] hold x n news (by rw [hsize]; exact hs) (by omega) h63
    (growslice_fits (by omega) (by rw [hby, Nat.zero_add]; exact hbytes))
  have hge := grownCap_ge w (0 + n) 0 e
  have hcm : grownCap w (0 + n) 0 e ≤ maxLen := grownCap_le_maxLen w (0 + n) 0 e (by omega)
  generalize hC : (([] : List Value) ++ news).toArray ++ Builtin.zeroCells z.cells (grownCap w (0 + n) 0 e - (0 + n)) = C at hrun
  have hCs : C.size = grownCap w (0 + n) 0 e := by
    rw [← hC]
    simp only [Array.size_append, List.size_toArray, size_zeroCells, hzs, List.length_append, List.length_nil]
    omega
  have hcell : ∀ j, (w.drew.alloc (.cells C e)).cell? ⟨w.heap.size, 0 + j, none⟩ = C[j]? := fun j => by
    rw [Nat.zero_add]; exact World.cell?_alloc_mark w.drew C e (0, 0) j
  refine ⟨_, _, hrun, ⟨0 + n, _, w.heap.size, 0, _, rfl, by omega, hge, hcm, fun _ => rfl, fun a ha => by cases ha; exact Nat.le_refl _, fun _ => by simp, fun j u hj => ?_, fun j hj => ?_, fun j hj => ?_⟩,
    ((Below.refl w.heap.size w).drew).alloc (Nat.le_refl _) _⟩
  · rw [hcell, ← hC, List.nil_append]
    have hjl : j < news.length := (List.getElem?_eq_some_iff.1 hj).1
    rw [Array.getElem?_append_left (by simpa using hjl)]
    simpa using hj
  · rw [hcell, Array.getElem?_eq_getElem (by omega)]
    rfl
  · rw [Nat.zero_add]
    have := World.frozen?_alloc_mark w.drew C e 0 0 j
    simpa using this

theorem stepAt_append_empty {P : Program} {ops : Array Oper} {o : Oper} {a : Act} {w : World} {R : Value → World → Prop} {d : Tmp} (hd : o.dst = some d) (hw : Region.wanted o (yielded ops a.tmps) = true) (hz' : decide (d < a.tmps.size) = true) (s x : Operand) (t tx : TypeId)
    (ho : o.op = .call { callee := .builtin .append, args := #[s, x], argTypes := #[t, tx] }) {ad : Addr} (hs : a.eval s = .slice (some ad) 0 0) (e : TypeId) (i : TypeInfo) (z : Value) (bytes : Nat)
    (ht : P.underlying t = some (.slice e)) (hi : P.info? e = some i) (hz : i.zero = some z) (hsize : i.size = 1) (hby : i.bytes = bytes) (hzs : z.cells.size = 1)
    (u : Value) (hx : a.eval x = u) (n : Nat) (news : List Value) (hsrc : Src P 1 tx u n news w) (h0 : 0 < n) (hfit : n ≤ maxLen) (hbytes : n * bytes ≤ 140737488355328)
    (hK : ∀ v' w', Held w' w.heap.size v' news → Below w.heap.size w w' → R v' w') : stepAt P ops o a w R := by
  obtain ⟨v', w', hrun, r1, r2⟩ := append_empty (P := P) w ad t tx o.type e i z bytes ht hi hz hsize hby hzs u n news hsrc h0 hfit hbytes
  refine stepAt_value hd hw hz' v' w' ?_ (hK v' w' r1 r2)
  simp [execOp, ho, resolve, invoke, builtin, hs, hx, hrun, Result.andThen]

/-- A message's Tag, as append's source. -/
theorem src_tag {w : World} {g : Nat} {M : Msg} {sl : Value} (h : Blk w g 32 (mc M sl)) (hf : M.Fits) : Src Tryd.prog 1 86 (.slice (some ⟨g, 37, none⟩) 16 16) 16 (bv M.G) w := by
  refine Src.ofSlice _ Tryd.underlying86 _ 16 16 _ (by rw [bv_length, hf.G]) (fun j u hj => ?_) (bv_one _)
  rw [Addr.add_lit, h.cell]
  exact mc_G hf sl j u hj

theorem wtext_any (w : World) (B : Nat) (v : Value) (l : List UInt8) (h : Held w B v (bv l)) :
    Calls Tryd.prog 56 #[v] w fun e w' => e = .returned (.string ⟨l.toArray⟩) ∧ Below w.heap.size w w' := by
  have hs := hid_str h rfl
  clear h
  go_enter Tryd.func56, Tryd.ntmps56
  go_wp2_with fail
  go_ret
  exact ⟨rfl, Below.refl _ _⟩
end Go.Proofs.YtnbdpalbompjlaaDoor
