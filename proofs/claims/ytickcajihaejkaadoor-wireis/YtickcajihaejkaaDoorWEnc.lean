/-
  What wire.whole and wire.Encode answer.
-/
import Derived.Test.YtickcajihaejkaaDoorWPlain
import Derived.Test.YtickcajihaejkaaDoorFreeLaws
namespace Go.Proofs.YtickcajihaejkaaDoor
open Go.RowKit
set_option maxRecDepth 10000

theorem cat_bytes (a b : List UInt8) : (⟨a.toArray⟩ : ByteArray) ++ ⟨b.toArray⟩ = ⟨(a ++ b).toArray⟩ := by apply ByteArray.ext; simp

/-- A message out of memory, in a region whose operations come in any order. -/
theorem stepAt_load_msg {ops : Array Oper} {o : Oper} {a : Act} {w : World} {R : Value → World → Prop} {d : Tmp} (hd : o.dst = some d) (hw : Region.wanted o (yielded ops a.tmps) = true) (hz : decide (d < a.tmps.size) = true) (x : Operand) (ho : o.op = .load 29 x)
    (g : Nat) (M : Msg) (sl : Value) (hx : a.eval x = .pointer (some ⟨g, 0, none⟩)) (hg : Blk w g 29 (mc M sl)) (hf : M.Fits) (h : R (.agg (mc M sl).toArray) w) : stepAt Tryd.prog ops o a w R := by
  refine stepAt_value hd hw hz _ w ?_ h
  unfold execOp
  simp only [ho, hx, Sem.run_bind, run_load_msg hg hf, Result.andThen_ok]
  rfl

/-- Bytes in a block, as a text. -/
theorem bytes_str {w : World} {g off n : Nat} {l : List UInt8} (hn : l.length = n) (hc : ∀ j v, (bv l)[j]? = some v → w.cell? ⟨g, off + j, none⟩ = some v) : Sem.run Tryd.prog (convert 40 9 (.slice (some ⟨g, off, none⟩) n n)) w = .ok (.string ⟨l.toArray⟩) w := by
  subst hn
  refine run_convert_bytes_back w 40 9 5 ⟨g, off, none⟩ l.length l Tryd.underlying40 Tryd.underlying5 Tryd.underlying9 fun j hj => ?_
  rw [Addr.add_lit]
  exact hc j _ (bv_at hj)
theorem tag_str {w : World} {g : Nat} {M : Msg} {sl : Value} (h : Blk w g 29 (mc M sl)) (hf : M.Fits) : Sem.run Tryd.prog (convert 40 9 (.slice (some ⟨g, 37, none⟩) 16 16)) w = .ok (.string ⟨M.G.toArray⟩) w :=
  bytes_str hf.G fun j v hj => (h.cell _).trans (mc_G hf sl j v hj)

set_option maxHeartbeats 4000000 in
theorem whole_any (w : World) (M : Msg) (sl : Value) (hm : M.Ranged) (hr : BRow w w.heap.size sl M.l) (hl : M.l.length ≤ 1000) :
    Calls Tryd.prog 15 #[.agg (mc M sl).toArray] w fun e w' => e = .returned (.string ⟨(msgB M).toArray⟩) ∧ Below w.heap.size w w' := by
  have hk0 := Blk.new w 29 (mc M sl).toArray
  have hb0 := (Below.refl w.heap.size w).alloc (Nat.le_refl _) (.cells (mc M sl).toArray 29)
  have HR := Lib.hid (hr.bits hb0)
  have HF := Lib.hid hm.fits
  have HM := Lib.hid hm
  have HBL := Lib.hid hb0
  have HK := Lib.hid (show Blk _ w.heap.size 29 (mc M sl) from hk0)
  generalize hw0 : w.alloc (.cells (mc M sl).toArray 29) = w0 at *
  obtain ⟨g, hg⟩ : ∃ g, g = w.heap.size := ⟨_, rfl⟩
  have HW0 := Lib.hid hw0
  have HG := Lib.hid hg
  rw [← hg] at HK HBL ⊢
  obtain ⟨P, hP⟩ : ∃ P : ByteArray, ⟨(msgP M).toArray⟩ = P := ⟨_, rfl⟩
  obtain ⟨G, hGG⟩ : ∃ P : ByteArray, ⟨M.G.toArray⟩ = P := ⟨_, rfl⟩
  have HP := Lib.hid hP
  have HGE := Lib.hid hGG
  have HA := Lib.hid (show P ++ G = ⟨(msgB M).toArray⟩ by rw [← hP, ← hGG, cat_bytes]; rfl)
  have hz : P.size + G.size ≤ 9223372036854775807 := by
    rw [← hP, ← hGG]
    simp only [ByteArray.size, List.size_toArray]
    rw [msgP_length hm, hm.fits.G]
    split
    · omega
    · split <;> omega
  clear hk0 hb0 hr hm hw0 hP hGG hg
  go_enter Tryd.func15, Tryd.ntmps15
  go_wp2_with fail
  rw [HW0.out, ← HG.out]
  refine wp_region_free (P := Tryd.prog) 6 (fun w' => Below w0.heap.size w0 w') (fun oq v w' => match oq with
      | 0 => v = .agg (mc M sl).toArray
      | 1 => v = .string P
      | 2 => v = .pointer (some ⟨g, 37, none⟩)
      | 3 => v = .slice (some ⟨g, 37, none⟩) 16 16
      | 4 => v = .string G
      | 5 => v = .string (P ++ G)
      | _ => True) (by kernel_rfl) (by kernel_rfl) (Below.refl _ _).drew ?gb ?vb ?steps ?fin
  case gb => exact fun a b h1 h2 => h1.trans (h2.mono h1.size)
  case vb =>
    intro oq v a b h hb
    match oq with
    | 0 => exact h
    | 1 => exact h
    | 2 => exact h
    | 3 => exact h
    | 4 => exact h
    | 5 => exact h
    | _ + 6 => trivial
  case steps =>
    intro vals
    simp only [List.take_succ_cons, List.take_zero, freeSteps, Act.put, List.setIfInBounds_toArray, List.set_cons_zero, List.set_cons_succ, Nat.reduceAdd]
    refine ⟨fun w8 hG hW => ?_, fun w8 hG hW => ?_, fun w8 hG hW => ?_, fun w8 hG hW => ?_, fun w8 hG hW => ?_, fun w8 hG hW => ?_, trivial⟩
    · clear hW
      exact stepAt_load_msg rfl rfl rfl (.tmp 1) rfl g M sl rfl (HK.out.below hG HK.out.lt) HF.out ⟨rfl, Below.refl _ _⟩
    · have q0 := hW 0 (by decide)
      simp only at q0
      rw [q0]
      clear hW
      refine stepAt_call rfl rfl rfl 10 #[.agg (mc M sl).toArray] (by go_simp) ((wplain_any w8 M sl HM.out ((HR.out.keep hG).more hG.size) hl).mono fun e w' ⟨h1, h2⟩ => ⟨_, h1, by rw [HP.out], h2⟩)
    · clear hW
      refine stepAt_value rfl rfl rfl (.pointer (some ⟨g, 37, none⟩)) w8 ?_ ⟨rfl, Below.refl _ _⟩
      go_simp
    · have q2 := hW 2 (by decide)
      simp only at q2
      rw [q2]
      clear hW
      refine stepAt_value rfl rfl rfl (.slice (some ⟨g, 37, none⟩) 16 16) w8 ?_ ⟨rfl, Below.refl _ _⟩
      go_simp
    · have q3 := hW 3 (by decide)
      simp only at q3
      rw [q3]
      clear hW
      refine stepAt_value rfl rfl rfl (.string G) w8 ?_ ⟨rfl, Below.refl _ _⟩
      have hcv := tag_str (HK.out.below hG HK.out.lt) HF.out
      rw [HGE.out] at hcv
      go_simp
    · have q1 := hW 1 (by decide)
      simp only at q1
      have q4 := hW 4 (by decide)
      simp only at q4
      rw [q1, q4]
      clear hW
      refine stepAt_value rfl rfl rfl (.string (P ++ G)) w8 ?_ ⟨rfl, Below.refl _ _⟩
      go_simp
  case fin =>
    intro vals w8 hG hV
    have q5 := hV 5 (by omega)
    simp only at q5
    simp only [List.take_succ_cons, List.take_zero, List.drop_succ_cons, List.drop_zero, putAll, Act.put, List.setIfInBounds_toArray, List.set_cons_zero, List.set_cons_succ, Nat.reduceAdd]
    rw [q5, HA.out]
    have HBF := Lib.hid (HBL.out.trans (hG.mono (Nat.le_of_lt HK.out.lt)))
    clear hV q5
    go_wp2_with fail
    go_ret
    exact ⟨rfl, HBF.out⟩

def encB (M : Msg) : List UInt8 := if msgGood M = true then msgB M else []

set_option maxHeartbeats 4000000 in
theorem encode_any (w : World) (M : Msg) (sl : Value) (hf : M.Fits) (hr : BRow w w.heap.size sl M.l) :
    Calls Tryd.prog 6 #[.agg (mc M sl).toArray] w fun e w' => e = .returned (.tuple #[.string ⟨(encB M).toArray⟩, .bool (msgGood M)]) ∧ Below w.heap.size w w' := by
  have hk0 := Blk.new w 29 (mc M sl).toArray
  have hb0 := (Below.refl w.heap.size w).alloc (Nat.le_refl _) (.cells (mc M sl).toArray 29)
  have HR := Lib.hid (hr.bits hb0)
  have HF := Lib.hid hf
  have HBL := Lib.hid hb0
  have HK := Lib.hid (show Blk _ w.heap.size 29 (mc M sl) from hk0)
  generalize hw0 : w.alloc (.cells (mc M sl).toArray 29) = w0 at *
  obtain ⟨g, hg⟩ : ∃ g, g = w.heap.size := ⟨_, rfl⟩
  have HW0 := Lib.hid hw0
  have HG := Lib.hid hg
  rw [← hg] at HK HBL ⊢
  clear hk0 hb0 hr hw0 hf hg
  go_enter Tryd.func6, Tryd.ntmps6
  go_upto_region 1 with fail
  rw [HW0.out, ← HG.out]
  go_wp2_with ((with_reducible refine wpList_load_msg (.tmp 1) ?_ ?_ g M sl ?_ HK.out HF.out ?_); rfl; rfl; rfl)
  refine (wgood_any w0 M sl HF.out HR.out).mono ?_
  rintro e w1 ⟨rfl, hb1⟩
  have HK1 := Lib.hid (HK.out.below hb1 HK.out.lt)
  have HR1 := Lib.hid (HR.out.bits hb1)
  have HB1 := Lib.hid (HBL.out.trans (hb1.mono (Nat.le_of_lt HK.out.lt)))
  clear hb1
  cases hgd : msgGood M with
  | false =>
    have HE := Lib.hid (show encB M = [] by simp [encB, hgd])
    have HGD := Lib.hid hgd
    clear hgd
    go_wp2_with fail
    go_ret2
    exact ⟨by rw [HE.out, HGD.out]; rfl, HB1.out⟩
  | true =>
    have HM := Lib.hid (msg_ranged hgd HF.out)
    have HE := Lib.hid (show encB M = msgB M by simp [encB, hgd])
    have hlb := msg_bits hgd
    have HGD := Lib.hid hgd
    clear hgd
    go_wp2_with ((with_reducible refine wpList_load_msg (.tmp 1) ?_ ?_ g M sl ?_ HK1.out HF.out ?_); rfl; rfl; rfl)
    refine (whole_any w1 M sl HM.out HR1.out (by omega)).mono ?_
    rintro e w2 ⟨rfl, hb2⟩
    have HB2 := Lib.hid (HB1.out.trans (hb2.mono (Nat.le_of_lt HK1.out.lt)))
    rw [← HE.out]
    clear hb2
    go_wp2_with fail
    go_ret2
    exact ⟨by rw [HGD.out]; rfl, HB2.out⟩
end Go.Proofs.YtickcajihaejkaaDoor
