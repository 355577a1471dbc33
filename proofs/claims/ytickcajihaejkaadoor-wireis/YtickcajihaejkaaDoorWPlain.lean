/-
  What wire.Plain answers, of a message whose numbers fit.
-/
import Derived.Test.YtickcajihaejkaaDoorWGood
import Derived.Test.YtickcajihaejkaaDoorPut
namespace Go.Proofs.YtickcajihaejkaaDoor
open Go.RowKit
set_option maxRecDepth 10000

theorem put_step (w : World) (B : Nat) (v : Value) (bs : List UInt8) (n k : Nat) (hk : k ≤ 8) (hn : n < 2 ^ 64) (hv : Held w B v (bv bs)) (hB : B ≤ w.heap.size) (hl : bs.length ≤ 1000000) :
    Calls Tryd.prog 18 #[v, .int .u64 n, .int .i64 k] w fun e w' => ∃ v', e = .returned v' ∧ Hid (Held w' B v' (bv (bs ++ leB n k))) ∧ Hid (Below B w w') :=
  (put_mid w B v bs n k hk hn hv hB hl).mono fun _ _ ⟨v', h1, h2, h3⟩ => ⟨v', h1, Lib.hid h2, Lib.hid (h3.below hv hB)⟩

theorem bput_step (w : World) (B : Nat) (v : Value) (bs : List UInt8) (u : Value) (l : List Bool) (hv : Held w B v (bv bs)) (hB : B ≤ w.heap.size) (hu : BRow w B u l) (h1 : bs.length ≤ 1000) (h2 : l.length ≤ 1000) :
    Calls Tryd.prog 19 #[v, u] w fun e w' => ∃ v', e = .returned v' ∧ Hid (Held w' B v' (bv (bs ++ encR l))) ∧ Hid (Below B w w') :=
  (bput_any w B v bs u l hv hB hu h1 h2).mono fun _ _ ⟨v', h1, h2, h3⟩ => ⟨v', h1, Lib.hid h2, Lib.hid (h3.below hv hB)⟩

/-- A message's Target, as append's source. -/
theorem src_target {w : World} {g : Nat} {M : Msg} {sl : Value} (h : Blk w g 29 (mc M sl)) (hf : M.Fits) : Src Tryd.prog 1 40 (.slice (some ⟨g, 2, none⟩) 32 32) 32 (bv M.T) w := by
  refine Src.ofSlice _ Tryd.underlying40 _ 32 32 _ (by rw [bv_length, hf.T]) (fun j u hj => ?_) (bv_one _)
  rw [Addr.add_lit, h.cell]
  exact mc_T sl j u hj

theorem hid_str {w : World} {B : Nat} {v : Value} {l r : List UInt8} (h : Held w B v (bv l)) (e : l = r) : Sem.run Tryd.prog (convert 40 9 v) w = .ok (.string ⟨r.toArray⟩) w := by
  subst e
  exact h.string (P := Tryd.prog) 40 9 5 Tryd.underlying40 Tryd.underlying5 Tryd.underlying9

set_option maxHeartbeats 4000000 in
theorem wplain_any (w : World) (M : Msg) (sl : Value) (hm : M.Ranged) (hr : BRow w w.heap.size sl M.l) (hl : M.l.length ≤ 1000) :
    Calls Tryd.prog 10 #[.agg (mc M sl).toArray] w fun e w' => e = .returned (.string ⟨(msgP M).toArray⟩) ∧ Below w.heap.size w w' := by
  obtain ⟨i0, hi, hz0, hz1, hz2⟩ := info_parts Tryd.infoU8
  have hk0 := Blk.new w 29 (mc M sl).toArray
  have hb0 := (Below.refl w.heap.size w).alloc (Nat.le_refl _) (.cells (mc M sl).toArray 29)
  have HR := Lib.hid (hr.bits hb0)
  have HF := Lib.hid hm.fits
  have HM := Lib.hid hm
  obtain ⟨ao, cap, hsl⟩ := hr.form
  have HSL := Lib.hid hsl
  obtain ⟨K, hK⟩ : ∃ K : Nat, M.k = K := ⟨M.k.toNat, by have := hm.k; omega⟩
  obtain ⟨S, hS⟩ : ∃ S : Nat, M.s = S := ⟨M.s.toNat, by have := hm.s; omega⟩
  obtain ⟨m, hmm⟩ : ∃ m : Nat, M.m = m := ⟨M.m.toNat, by have := hm.m; omega⟩
  have hKb : K ≤ 3 := by have := hm.k; omega
  have hSb : S < 4294967296 := by have := hm.s; omega
  have hmb : m < 65536 := by have := hm.m; omega
  have hbb := hm.fits.b
  have HKE := Lib.hid hK
  have HSE := Lib.hid hS
  have HME := Lib.hid hmm
  have HBL := Lib.hid hb0
  have HK0 := Lib.hid hk0
  have hlt0 := hk0.lt
  generalize hw0 : w.alloc (.cells (mc M sl).toArray 29) = w0 at *
  obtain ⟨g, hg⟩ : ∃ g, g = w.heap.size := ⟨_, rfl⟩
  have HW0 := Lib.hid hw0
  have HG := Lib.hid hg
  rw [← hg] at HK0 hlt0 HBL
  clear hk0 hb0 hr hm hsl hK hS hmm hw0
  have u1 : IntKind.u64.wrap (K : Int) = (K : Int) := by rw [IntKind.wrap_u64]; omega
  have u2 : IntKind.u64.wrap (S : Int) = (S : Int) := by rw [IntKind.wrap_u64]; omega
  have u3 : IntKind.u64.wrap (m : Int) = (m : Int) := by rw [IntKind.wrap_u64]; omega
  rw [← hg]
  clear hg
  go_enter Tryd.func10, Tryd.ntmps10
  go_upto_region 1 with fail
  rw [HW0.out, ← HG.out]
  obtain ⟨c0, c1, c34, c35, c36⟩ := HK0.out.msg HF.out
  rw [HKE.out] at c0
  go_wp2_with fail
  refine (put_step w0 w0.heap.size _ [] K 1 (by omega) (by omega) (Held.nil _ _) (Nat.le_refl _) (by simp)).mono ?_
  rintro e w1 ⟨v1, rfl, HH1, HB1⟩
  clear c0 c1 c34 c35 c36
  obtain ⟨c0, c1, c34, c35, c36⟩ := (HK0.out.below HB1.out hlt0).msg HF.out
  rw [HSE.out] at c1
  go_wp2_with fail
  refine (put_step w1 w0.heap.size v1 _ S 4 (by omega) (by omega) HH1.out HB1.out.size (by rw [List.length_append, leB_length]; simp)).mono ?_
  rintro e w2 ⟨v2, rfl, HH2, HB2'⟩
  have HB2 := Lib.hid (HB1.out.trans HB2'.out)
  clear c0 c1 c34 c35 c36 HH1 HB1 HB2'
  have HSrc := Lib.hid (src_target (HK0.out.below HB2.out hlt0) HF.out)
  have hLen : (bv ([] ++ leB K 1 ++ leB S 4)).length = 5 := by rw [bv_length]; simp [leB_length]
  go_wp2_with (at_builtin; refine wpList_append_held rfl _ _ 40 40 rfl rfl HH2.out 5 i0 (.int .u8 0) 1 Tryd.underlying40 hi hz0 hz1 hz2 rfl _ rfl 32 (bv M.T) HSrc.out ?c2 ?c3 ?c4 ?_)
  case c2 => unfold maxLen; omega
  case c3 => omega
  case c4 => exact HB2.out.size
  intro v3 w3 hh3 hg3
  have HB3 := Lib.hid (HB2.out.trans (hg3.below HH2.out HB2.out.size))
  have HH3 := Lib.hid (show Held w3 w0.heap.size v3 (bv (leB K 1 ++ leB S 4 ++ M.T)) by rw [bv_append _ M.T]; exact hh3)
  have hl3 : (leB K 1 ++ leB S 4 ++ M.T).length = 37 := by simp [leB_length, HF.out.T]
  clear hh3 hg3 HH2 HB2 HSrc hLen
  obtain ⟨c0, c1, c34, c35, c36⟩ := (HK0.out.below HB3.out hlt0).msg HF.out
  rw [HKE.out] at c0
  rw [HME.out] at c34
  rcases HM.out.k with q | q | q
  · obtain rfl : K = 1 := by have := HKE.out; omega
    have HP := Lib.hid (show leB 1 1 ++ leB S 4 ++ M.T ++ leB m 2 ++ leB M.b 8 = msgP M by
      simp only [msgP, msgR, q, HSE.out, HME.out, if_true, List.append_assoc]; rfl)
    clear q c1 c35 c36
    go_wp2_with fail
    refine (put_step w3 w0.heap.size v3 _ m 2 (by omega) (by omega) HH3.out HB3.out.size (by omega)).mono ?_
    rintro e w4 ⟨v4, rfl, HH4, HB4'⟩
    have HB4 := Lib.hid (HB3.out.trans HB4'.out)
    clear c0 c34 HH3 HB3 HB4'
    obtain ⟨_, _, _, c35, _⟩ := (HK0.out.below HB4.out hlt0).msg HF.out
    go_wp2_with fail
    refine (put_step w4 w0.heap.size v4 _ M.b 8 (by omega) hbb HH4.out HB4.out.size (by rw [List.length_append, leB_length]; omega)).mono ?_
    rintro e w5 ⟨v5, rfl, HH5, HB5'⟩
    have HB5 := Lib.hid (HB4.out.trans HB5'.out)
    have hs := hid_str HH5.out HP.out
    clear c35 HH4 HB4 HB5'
    go_wp2_with fail
    go_ret
    exact ⟨rfl, HBL.out.trans (HB5.out.mono (by omega))⟩
  · obtain rfl : K = 2 := by have := HKE.out; omega
    have HP := Lib.hid (show leB 2 1 ++ leB S 4 ++ M.T ++ leB m 2 = msgP M by
      simp only [msgP, msgR, q, HSE.out, HME.out, List.append_assoc]; rfl)
    clear q c1 c35 c36
    go_wp2_with fail
    refine (put_step w3 w0.heap.size v3 _ m 2 (by omega) (by omega) HH3.out HB3.out.size (by omega)).mono ?_
    rintro e w4 ⟨v4, rfl, HH4, HB4'⟩
    have HB4 := Lib.hid (HB3.out.trans HB4'.out)
    have hs := hid_str HH4.out HP.out
    clear c0 c34 HH3 HB3 HB4'
    go_wp2_with fail
    go_ret
    exact ⟨rfl, HBL.out.trans (HB4.out.mono (by omega))⟩
  · obtain rfl : K = 3 := by have := HKE.out; omega
    have HP := Lib.hid (show leB 3 1 ++ leB S 4 ++ M.T ++ encR M.l = msgP M by
      simp only [msgP, msgR, q, HSE.out, List.append_assoc]; rfl)
    clear q c1 c34 c35
    go_wp2_with fail
    refine (bput_step w3 w0.heap.size v3 _ sl M.l HH3.out HB3.out.size (HR.out.keep HB3.out) (by omega) hl).mono ?_
    rintro e w4 ⟨v4, rfl, HH4, HB4'⟩
    have HB4 := Lib.hid (HB3.out.trans HB4'.out)
    have hs := hid_str HH4.out HP.out
    clear c0 c36 HH3 HB3 HB4'
    go_wp2_with fail
    go_ret
    exact ⟨rfl, HBL.out.trans (HB4.out.mono (by omega))⟩
end Go.Proofs.YtickcajihaejkaaDoor
