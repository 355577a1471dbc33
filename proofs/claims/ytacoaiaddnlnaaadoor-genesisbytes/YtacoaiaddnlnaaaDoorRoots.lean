/-
  What genesis.Root and the reference's Root answer, of a configuration that can be.
-/
import Derived.Test.YtacoaiaddnlnaaaDoorRefBytes5
import Derived.Test.YtacoaiaddnlnaaaDoorAlive5
import Derived.Test.YtacoaiaddnlnaaaDoorRefOf
import Derived.Test.YtacoaiaddnlnaaaDoorStrs
namespace Go.Proofs.YtacoaiaddnlnaaaDoor
open Go.RowKit

def markB : List UInt8 := [116, 111, 108, 108, 101, 114]

theorem two_strs (w : World) (s t : List UInt8) : StrAt (w.alloc (.cells #[.string ⟨s.toArray⟩, .string ⟨t.toArray⟩] 9)) (w.alloc (.cells #[.string ⟨s.toArray⟩, .string ⟨t.toArray⟩] 9)).heap.size (some ⟨w.heap.size, 0, none⟩) w.heap.size 0 [s, t] := by
  have h := Blk.new w 9 #[.string ⟨s.toArray⟩, .string ⟨t.toArray⟩]
  refine ⟨fun _ => rfl, fun _ => h.lt, fun j x hj => ?_⟩
  rw [Nat.zero_add, h.cell j]
  match j, hj with
  | 0, hj => simp at hj; subst hj; rfl
  | 1, hj => simp at hj; subst hj; rfl
  | _ + 2, hj => simp at hj

theorem cfgB_length {nlen : Nat} {n1 n2 n3 n4 n5 n6 n7 n8 n9 n10 n11 : Int} {vs : List (Int × ByteArray)} (hl : vs.length = nlen) (h : goodB (nums nlen n1 n2 n3 n4 n5 n6 n7 n8 n9 n10 n11) vs = true) : (cfgB (nums nlen n1 n2 n3 n4 n5 n6 n7 n8 n9 n10 n11) vs).length ≤ 2672 := by
  have h1 := valsB_length vs (goodB_can h)
  have h2 := good_len h
  have h3 : (numsB (nums nlen n1 n2 n3 n4 n5 n6 n7 n8 n9 n10 n11)).length = 48 := by rw [numsB_length]; rfl
  rw [cfgB, List.length_append]
  omega

set_option maxHeartbeats 4000000 in
theorem cfgRoot_any (w : World) (hT : Tabs w) (nao : Option Addr) (nlen ncap b off : Nat) (n1 n2 n3 n4 n5 n6 n7 n8 n9 n10 n11 : Int) (vs : List (Int × ByteArray)) (hl : vs.length = nlen) (hst : Stakes vs) (hgood : goodB (nums nlen n1 n2 n3 n4 n5 n6 n7 n8 n9 n10 n11) vs = true) (hs : Lies w w.heap.size nao b off (vc vs)) :
    Calls Tryd.prog 10 #[.agg #[.slice nao nlen ncap, .int .i64 n1, .int .i64 n2, .int .i64 n3, .int .i64 n4, .int .i64 n5, .int .i64 n6, .int .i64 n7, .int .i64 n8, .int .i64 n9, .int .i64 n10, .int .i64 n11]] w fun e w' => e = .returned (.agg (bv (digest (markB ++ cfgB (nums nlen n1 n2 n3 n4 n5 n6 n7 n8 n9 n10 n11) vs))).toArray) ∧ Below w.heap.size w w' := by
  have HS := Lib.hid hs
  have HL := Lib.hid hl
  have HST := Lib.hid hst
  have HGD := Lib.hid hgood
  have HLN := Lib.hid (cfgB_length hl hgood)
  have HB0 := Lib.hid (((Below.refl w.heap.size w).alloc (Nat.le_refl _) (.cells #[.slice nao nlen ncap, .int .i64 n1, .int .i64 n2, .int .i64 n3, .int .i64 n4, .int .i64 n5, .int .i64 n6, .int .i64 n7, .int .i64 n8, .int .i64 n9, .int .i64 n10, .int .i64 n11] 24)).alloc (by simp) (.cells (Array.replicate 32 (.int .u8 0)) 30))
  have HR0 := Lib.hid (Blk.newAt (w.alloc (.cells #[.slice nao nlen ncap, .int .i64 n1, .int .i64 n2, .int .i64 n3, .int .i64 n4, .int .i64 n5, .int .i64 n6, .int .i64 n7, .int .i64 n8, .int .i64 n9, .int .i64 n10, .int .i64 n11] 24)) 30 (Array.replicate 32 (.int .u8 0)) (w.heap.size + 1) (by simp))
  have hwR : w.heap.size ≤ w.heap.size + 1 := by omega
  clear hs hl hst hgood
  go_enter Tryd.func10, Tryd.ntmps10
  go_wp2_with fail
  have hrep : (Array.replicate 32 (Value.int .u8 0)) = #[.int .u8 0, .int .u8 0, .int .u8 0, .int .u8 0, .int .u8 0, .int .u8 0, .int .u8 0, .int .u8 0, .int .u8 0, .int .u8 0, .int .u8 0, .int .u8 0, .int .u8 0, .int .u8 0, .int .u8 0, .int .u8 0, .int .u8 0, .int .u8 0, .int .u8 0, .int .u8 0, .int .u8 0, .int .u8 0, .int .u8 0, .int .u8 0, .int .u8 0, .int .u8 0, .int .u8 0, .int .u8 0, .int .u8 0, .int .u8 0, .int .u8 0, .int .u8 0] := rfl
  rw [← hrep]
  generalize (w.alloc (.cells #[.slice nao nlen ncap, .int .i64 n1, .int .i64 n2, .int .i64 n3, .int .i64 n4, .int .i64 n5, .int .i64 n6, .int .i64 n7, .int .i64 n8, .int .i64 n9, .int .i64 n10, .int .i64 n11] 24)).alloc (.cells (Array.replicate 32 (.int .u8 0)) 30) = w1 at HB0 HR0 ⊢
  obtain ⟨R, hR⟩ : ∃ R, R = w.heap.size + 1 := ⟨_, rfl⟩
  rw [← hR] at hwR HR0 ⊢
  clear hrep hR
  refine (bytes_any w1 nao nlen ncap b off n1 n2 n3 n4 n5 n6 n7 n8 n9 n10 n11 vs HL.out HST.out HGD.out ((HS.out.keep HB0.out).more HB0.out.size)).mono ?_
  rintro e w2 ⟨rfl, hb2⟩
  obtain ⟨B, hBB⟩ : ∃ B, B = cfgB (nums nlen n1 n2 n3 n4 n5 n6 n7 n8 n9 n10 n11) vs := ⟨_, rfl⟩
  rw [← hBB] at HLN ⊢
  have HBB := Lib.hid hBB
  have HR1 := Lib.hid (HR0.out.below hb2 HR0.out.lt)
  have HB1 := Lib.hid (HB0.out.trans (hb2.mono HB0.out.size))
  clear hb2 HR0 HB0 hBB
  go_wp2_with fail
  have hb := (Below.refl w2.heap.size w2).alloc (Nat.le_refl _) (.cells #[.string ⟨markB.toArray⟩, .string ⟨B.toArray⟩] 9)
  have HR2 := Lib.hid (HR1.out.below hb HR1.out.lt)
  have HB2 := Lib.hid (HB1.out.trans (hb.mono HB1.out.size))
  refine (of_any _ _ 2 2 w2.heap.size 0 [markB, B] (hT.below HB2.out hT.size) rfl (by omega) (two_strs w2 markB B) (by simp [markB]; have := HLN.out; omega)).mono ?_
  rintro e w3 ⟨rfl, hb3⟩
  obtain ⟨D, hD⟩ : ∃ D, D = digest (markB ++ cfgB (nums nlen n1 n2 n3 n4 n5 n6 n7 n8 n9 n10 n11) vs) := ⟨_, rfl⟩
  have hDe : digest [markB, B].flatten = D := by rw [hD, ← HBB.out]; simp
  rw [hDe]
  have hdl : D.length = 32 := by rw [hD]; exact digest_length _
  have hr := HR2.out.below hb3 HR2.out.lt
  have HB3 := HB2.out.trans (hb3.mono HB2.out.size)
  have HR3 := Lib.hid hr
  have HSZ := Lib.hid (show (Tryd.prog.info? 30).map (·.size) = some (bv D).length by rw [bv_length, hdl]; exact Tryd.size30)
  have HLE := Lib.hid (show 0 + (bv D).length ≤ (Array.replicate 32 (Value.int .u8 0)).toList.length by rw [bv_length, hdl]; simp)
  have HSP := Lib.hid (splice_all (Array.replicate 32 (Value.int .u8 0)).toList (bv D) (by rw [bv_length, hdl]; simp))
  have HR4 := Lib.hid (hr.setRow (bv D))
  have HB4 := Lib.hid (below_setRow HB3 hwR (bv D).toArray)
  have HD := Lib.hid hD
  clear hr hdl hD hDe hb3 HR2 HB2 HB3
  go_wp2_with ((with_reducible refine wpList_store_part ?_ 30 (.tmp 2) (.tmp 6) ?_ R 0 (bv D) ?_ ?_ 30 _ HR3.out HSZ.out HLE.out (bv_one _) ?_); rfl; rfl; rfl; rfl; rw [HSP.out])
  rw [← HD.out]
  refine bodyPost_ret (v := .agg (bv D).toArray) ?_ rfl ⟨rfl, HB4.out⟩
  exact results_cell_row rfl _ _ R 30 _ (0, 0) (.array 32 5) rfl HR4.out Tryd.underlying30 rfl (by rw [List.size_toArray]; exact HSZ.out)

set_option maxHeartbeats 4000000 in
theorem refCfgRoot_any (w : World) (nao : Option Addr) (nlen ncap b off : Nat) (n1 n2 n3 n4 n5 n6 n7 n8 n9 n10 n11 : Int) (vs : List (Int × ByteArray)) (hl : vs.length = nlen) (hst : Stakes vs) (hgood : goodB (nums nlen n1 n2 n3 n4 n5 n6 n7 n8 n9 n10 n11) vs = true) (hs : Lies w w.heap.size nao b off (vc vs)) :
    Calls Tryd.prog 11 #[.agg #[.slice nao nlen ncap, .int .i64 n1, .int .i64 n2, .int .i64 n3, .int .i64 n4, .int .i64 n5, .int .i64 n6, .int .i64 n7, .int .i64 n8, .int .i64 n9, .int .i64 n10, .int .i64 n11]] w fun e w' => e = .returned (.agg (bv (digest (markB ++ cfgB (nums nlen n1 n2 n3 n4 n5 n6 n7 n8 n9 n10 n11) vs))).toArray) ∧ Below w.heap.size w w' := by
  have HS := Lib.hid hs
  have HL := Lib.hid hl
  have HST := Lib.hid hst
  have HGD := Lib.hid hgood
  have HLN := Lib.hid (cfgB_length hl hgood)
  have HB0 := Lib.hid (((Below.refl w.heap.size w).alloc (Nat.le_refl _) (.cells #[.slice nao nlen ncap, .int .i64 n1, .int .i64 n2, .int .i64 n3, .int .i64 n4, .int .i64 n5, .int .i64 n6, .int .i64 n7, .int .i64 n8, .int .i64 n9, .int .i64 n10, .int .i64 n11] 24)).alloc (by simp) (.cells (Array.replicate 32 (.int .u8 0)) 30))
  have HR0 := Lib.hid (Blk.newAt (w.alloc (.cells #[.slice nao nlen ncap, .int .i64 n1, .int .i64 n2, .int .i64 n3, .int .i64 n4, .int .i64 n5, .int .i64 n6, .int .i64 n7, .int .i64 n8, .int .i64 n9, .int .i64 n10, .int .i64 n11] 24)) 30 (Array.replicate 32 (.int .u8 0)) (w.heap.size + 1) (by simp))
  have hwR : w.heap.size ≤ w.heap.size + 1 := by omega
  clear hs hl hst hgood
  go_enter Tryd.func11, Tryd.ntmps11
  go_wp2_with fail
  have hrep : (Array.replicate 32 (Value.int .u8 0)) = #[.int .u8 0, .int .u8 0, .int .u8 0, .int .u8 0, .int .u8 0, .int .u8 0, .int .u8 0, .int .u8 0, .int .u8 0, .int .u8 0, .int .u8 0, .int .u8 0, .int .u8 0, .int .u8 0, .int .u8 0, .int .u8 0, .int .u8 0, .int .u8 0, .int .u8 0, .int .u8 0, .int .u8 0, .int .u8 0, .int .u8 0, .int .u8 0, .int .u8 0, .int .u8 0, .int .u8 0, .int .u8 0, .int .u8 0, .int .u8 0, .int .u8 0, .int .u8 0] := rfl
  rw [← hrep]
  generalize (w.alloc (.cells #[.slice nao nlen ncap, .int .i64 n1, .int .i64 n2, .int .i64 n3, .int .i64 n4, .int .i64 n5, .int .i64 n6, .int .i64 n7, .int .i64 n8, .int .i64 n9, .int .i64 n10, .int .i64 n11] 24)).alloc (.cells (Array.replicate 32 (.int .u8 0)) 30) = w1 at HB0 HR0 ⊢
  obtain ⟨R, hR⟩ : ∃ R, R = w.heap.size + 1 := ⟨_, rfl⟩
  rw [← hR] at hwR HR0 ⊢
  clear hrep hR
  refine (refBytes_any w1 nao nlen ncap b off n1 n2 n3 n4 n5 n6 n7 n8 n9 n10 n11 vs HL.out HST.out HGD.out ((HS.out.keep HB0.out).more HB0.out.size)).mono ?_
  rintro e w2 ⟨rfl, hb2⟩
  obtain ⟨B, hBB⟩ : ∃ B, B = cfgB (nums nlen n1 n2 n3 n4 n5 n6 n7 n8 n9 n10 n11) vs := ⟨_, rfl⟩
  rw [← hBB] at HLN ⊢
  have HBB := Lib.hid hBB
  have HR2 := Lib.hid (HR0.out.below hb2 HR0.out.lt)
  have HB2 := Lib.hid (HB0.out.trans (hb2.mono HB0.out.size))
  obtain ⟨S, hS⟩ : ∃ S : ByteArray, S = ⟨B.toArray⟩ := ⟨_, rfl⟩
  rw [← hS]
  obtain ⟨sl, hsl⟩ : ∃ n, n = B.length := ⟨_, rfl⟩
  have zS : S.size = sl := by rw [hS, hsl, size_mk]
  have hsl2 : sl ≤ 2672 := by rw [hsl]; exact HLN.out
  have hsum : ¬ 9223372036854775807 < 6 + sl := by omega
  have HCAT := Lib.hid (show (⟨#[116, 111, 108, 108, 101, 114]⟩ : ByteArray) ++ S = ⟨(markB ++ B).toArray⟩ by rw [hS, ← cat_mk]; rfl)
  have HLM := Lib.hid (show (markB ++ B).length ≤ 100000 by rw [List.length_append, ← hsl]; simp [markB]; omega)
  clear hb2 HR0 HB0 hBB hS hsl
  go_wp2_with fail
  rw [HCAT.out]
  refine (refof_any w2 (markB ++ B) HLM.out).mono ?_
  rintro e w3 ⟨rfl, hb3⟩
  obtain ⟨D, hD⟩ : ∃ D, D = digest (markB ++ cfgB (nums nlen n1 n2 n3 n4 n5 n6 n7 n8 n9 n10 n11) vs) := ⟨_, rfl⟩
  have hDe : digest (markB ++ B) = D := by rw [hD, ← HBB.out]
  rw [hDe]
  have hdl : D.length = 32 := by rw [hD]; exact digest_length _
  have hr := HR2.out.below hb3 HR2.out.lt
  have HB3 := HB2.out.trans (hb3.mono HB2.out.size)
  have HR3 := Lib.hid hr
  have HSZ := Lib.hid (show (Tryd.prog.info? 30).map (·.size) = some (bv D).length by rw [bv_length, hdl]; exact Tryd.size30)
  have HLE := Lib.hid (show 0 + (bv D).length ≤ (Array.replicate 32 (Value.int .u8 0)).toList.length by rw [bv_length, hdl]; simp)
  have HSP := Lib.hid (splice_all (Array.replicate 32 (Value.int .u8 0)).toList (bv D) (by rw [bv_length, hdl]; simp))
  have HR4 := Lib.hid (hr.setRow (bv D))
  have HB4 := Lib.hid (below_setRow HB3 hwR (bv D).toArray)
  have HD := Lib.hid hD
  clear hr hdl hD hDe hb3 HR2 HB2 HB3
  go_wp2_with ((with_reducible refine wpList_store_part ?_ 30 (.tmp 2) (.tmp 6) ?_ R 0 (bv D) ?_ ?_ 30 _ HR3.out HSZ.out HLE.out (bv_one _) ?_); rfl; rfl; rfl; rfl; rw [HSP.out])
  rw [← HD.out]
  refine bodyPost_ret (v := .agg (bv D).toArray) ?_ rfl ⟨rfl, HB4.out⟩
  exact results_cell_row rfl _ _ R 30 _ (0, 0) (.array 32 5) rfl HR4.out Tryd.underlying30 rfl (by rw [List.size_toArray]; exact HSZ.out)

end Go.Proofs.YtacoaiaddnlnaaaDoor
