/-
  The walk of ShaShows.
-/
import Derived.Test.YtbjofbkncpedmaaDoorClass
namespace Go.Proofs.YtbjofbkncpedmaaDoor
open Go.RowKit

def ShowsRel (w : World) (x : Value) (wr : World) : Prop := ∃ i : Nat, x = .int .i64 (i : Int) ∧ i ≤ 64 ∧ wr = w

theorem index_str (w : World) (S : ByteArray) (l : List UInt8) (i : Nat) (c : UInt8) (hS : S = ⟨l.toArray⟩) (hc : l[i]? = some c) : (Instr.index 9 (.string S) (.int .i64 (i : Int))).run Tryd.prog w = .ok (.int .u8 (c.toNat : Int)) w := by
  have hl := (List.getElem?_eq_some_iff.1 hc)
  obtain ⟨hi, hc⟩ := hl
  rw [run_index_string w 9 S .i64 (i : Int) Tryd.underlying9]
  have hz : S.size = l.length := by rw [hS]; simp [ByteArray.size]
  have hd : (0 : Int) ≤ (i : Int) ∧ (i : Int) < (S.size : Int) := ⟨by omega, by rw [hz]; omega⟩
  rw [dif_pos hd]
  subst hS
  have : (ByteArray.mk l.toArray)[(i : Int).toNat]'(by simp [ByteArray.size]; omega) = c := hc
  simp only [this]

set_option maxHeartbeats 4000000 in
theorem shows_any (w : World) (r s : List UInt8) (hT : Tabs w) (hr : r.length = 32) (hs : s.length = 32) :
    Calls Tryd.prog 6 #[.agg (bv r).toArray, .agg (bv s).toArray] w fun e w' => e = .returned (.bool true) ∧ Below w.heap.size w w' := by
  have h1 := (Blk.new w 23 (bv r).toArray).alloc (.cells (bv s).toArray 23)
  have h2 := Blk.new (w.alloc (.cells (bv r).toArray 23)) 23 (bv s).toArray
  have hb : Below w.heap.size w ((w.alloc (.cells (bv r).toArray 23)).alloc (.cells (bv s).toArray 23)) := ((Below.refl _ _).alloc (Nat.le_refl _) _).alloc (by simp) _
  simp only [World.size_alloc] at h2
  have H1 := Lib.hid h1
  have H2 := Lib.hid h2
  have HB := Lib.hid hb
  have HT := Lib.hid hT
  clear h1 h2 hb hT
  have HZ1 := Lib.hid (root_size hr)
  have HZ2 := Lib.hid (root_size hs)
  have HHR := Lib.hid hr
  have HHS := Lib.hid hs
  clear hr hs
  go_enter Tryd.func6, Tryd.ntmps6
  go_wp2_with fail
  generalize (w.alloc (.cells (bv r).toArray 23)).alloc (.cells (bv s).toArray 23) = w1 at H1 H2 HB ⊢
  refine (alive_any w1 (HT.out.below HB.out HT.out.size)).mono ?_
  rintro e w2 ⟨rfl, hb2⟩
  have HC1 := Lib.hid (root_cells H1.out w2 hb2)
  have H1' := Lib.hid (H1.out.below hb2 H1.out.lt)
  have H2' := Lib.hid (H2.out.below hb2 H2.out.lt)
  have HB2 := Lib.hid (HB.out.trans (hb2.mono HB.out.size))
  clear hb2 H1 H2 HB
  go_wp2_with ((with_reducible refine wpList_load_cells ?_ 23 (.tmp 2) ?_ w.heap.size 0 (bv r) ?_ 32 5 HC1.out Tryd.underlying23 HZ1.out ?_); rfl; rfl; rfl)
  refine (show_any w2 r HHR.out).mono ?_
  rintro e w3 ⟨rfl, hb3⟩
  obtain ⟨S1, hS1⟩ : ∃ S : ByteArray, S = ⟨(show_ r).toArray⟩ := ⟨_, rfl⟩
  rw [← hS1]
  have hz1 : S1.size = 64 := by rw [hS1]; simp [ByteArray.size, show_length, HHR.out]
  have H3 := Lib.hid (H1'.out.below hb3 H1'.out.lt)
  have H4 := Lib.hid (H2'.out.below hb3 H2'.out.lt)
  have HB3 := Lib.hid (HB2.out.trans (hb3.mono HB2.out.size))
  have HS1 := Lib.hid hS1
  clear hb3 hS1 HC1 H1' H2' HB2
  go_wp2_with fail
  go_loopw [6] (fun x wr => ShowsRel w3 x wr) (fun x _ => 64 - intN x)
  case atStart => exact ⟨0, rfl, by omega, rfl⟩
  case round =>
    obtain ⟨i, rfl, hi, rfl⟩ := hrel
    by_cases hlt : i < 64
    · have d0 : (i : Int) < 64 := by omega
      obtain ⟨c, hc⟩ : ∃ c, (show_ r)[i]? = some c := ⟨_, List.getElem?_eq_getElem (by rw [show_length, HHR.out]; omega)⟩
      have hix : ∀ w', (Instr.index 9 (.string S1) (.int .i64 (i : Int))).run Tryd.prog w' = .ok (.int .u8 (c.toNat : Int)) w' := fun w' => index_str w' S1 (show_ r) i c HS1.out hc
      have hdg := show_digit r c (List.mem_of_getElem? hc)
      obtain ⟨n, hn⟩ : ∃ n, n = c.toNat := ⟨_, rfl⟩
      rw [← hn] at hdg hix
      clear hn hc
      rcases hdg with ⟨g1, g2⟩ | ⟨g1, g2⟩
      · have k1 : (48 : Int) ≤ (n : Int) := by omega
        have k2 : (n : Int) ≤ 57 := by omega
        go_wp2_with fail
        refine ⟨⟨i + 1, by simp, by omega, rfl⟩, ?_⟩
        simp only [intN]
        omega
      · have k1 : (48 : Int) ≤ (n : Int) := by omega
        have k2 : ¬ ((n : Int) ≤ 57) := by omega
        have k3 : (97 : Int) ≤ (n : Int) := by omega
        have k4 : (n : Int) ≤ 102 := by omega
        go_wp2_with fail
        refine ⟨⟨i + 1, by simp, by omega, rfl⟩, ?_⟩
        simp only [intN]
        omega
    · obtain rfl : i = 64 := by omega
      obtain ⟨S2, hS2⟩ : ∃ S : ByteArray, S = ⟨(show_ s).toArray⟩ := ⟨_, rfl⟩
      have hse : (S1.toList == S2.toList) = (r == s) := by
        rw [HS1.out, hS2, string_same, Bool.eq_iff_iff, beq_iff_eq, beq_iff_eq]
        exact ⟨show_inj r s, fun h => by rw [h]⟩
      have heq := fun w' => root_eq w' r s HHR.out HHS.out
      obtain ⟨bb, hbb⟩ : ∃ bb, bb = (r == s) := ⟨_, rfl⟩
      rw [← hbb] at hse
      simp only [← hbb] at heq
      clear hbb
      have HS2 := Lib.hid hS2
      clear hS2
      go_wp2_with fail
      have HC3 := Lib.hid (root_cells H3.out)
      have HC4 := Lib.hid (root_cells H4.out)
      refine wp_region_class (C := fun w' => Below wr.heap.size wr w') (by kernel_rfl) (by kernel_rfl) (Below.refl _ _).drew ?_
      go_big_quiet_step ((intro _; rfl))
      refine BigFrame.wpQuiet_want rfl fun K hK => ?_
      refine quiet_load_cells 23 (.tmp 3) rfl (w.heap.size + 1) 0 (bv s) rfl 32 5 HC4.out Tryd.underlying23 HZ2.out (hK _ ?_)
      clear hK K
      simp only [Act.put, List.setIfInBounds_toArray, List.set_cons_zero, List.set_cons_succ]
      go_big_quiet_step ((intro hw'; exact show_in hw' s HHS.out S2 HS2.out))
      go_big_quiet_step ((intro _; rfl))
      refine BigFrame.wpQuiet_want rfl fun K hK => ?_
      refine quiet_load_cells 23 (.tmp 2) rfl w.heap.size 0 (bv r) rfl 32 5 HC3.out Tryd.underlying23 HZ1.out (hK _ ?_)
      clear hK K
      simp only [Act.put, List.setIfInBounds_toArray, List.set_cons_zero, List.set_cons_succ]
      refine BigFrame.wpQuiet_want rfl fun K hK => ?_
      refine quiet_load_cells 23 (.tmp 3) rfl (w.heap.size + 1) 0 (bv s) rfl 32 5 HC4.out Tryd.underlying23 HZ2.out (hK _ ?_)
      clear hK K
      simp only [Act.put, List.setIfInBounds_toArray, List.set_cons_zero, List.set_cons_succ]
      go_big_quiet_step ((intro _; rfl))
      go_big_quiet_step ((intro _; rfl))
      go_big_quiet_step ((intro _; rfl))
      refine wpQuiet_nil ?_
      intro w5 hb5
      have HB5 := Lib.hid (HB3.out.trans (hb5.mono HB3.out.size))
      clear hb5
      go_wp2_with fail
      go_ret
      exact ⟨rfl, HB5.out⟩
end Go.Proofs.YtbjofbkncpedmaaDoor
