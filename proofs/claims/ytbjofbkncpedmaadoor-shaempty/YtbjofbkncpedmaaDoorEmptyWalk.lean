/-
  The walk of ShaEmpty.
-/
import Derived.Test.YtbjofbkncpedmaaDoorStrs
namespace Go.Proofs.YtbjofbkncpedmaaDoor
open Go.RowKit

def nones (n : Nat) : List (List UInt8) := List.replicate n []
theorem nones_flat (n : Nat) : (nones n).flatten = [] := by simp [nones]
theorem nones_length (n : Nat) : (nones n).length = n := by simp [nones]
theorem nones_mem (n : Nat) : ∀ s ∈ nones n, s.length ≤ 100000 := by
  intro s hs; rw [nones, List.mem_replicate] at hs; rw [hs.2]; simp

set_option maxHeartbeats 2000000 in
theorem empty_in (w : World) (la lb : List UInt8) (n : Nat) (hT : Tabs w) (ha : la.length ≤ 500) (hb : lb.length ≤ 500) (hn : n ≤ 20) :
    Calls Tryd.prog 7 #[.string ⟨la.toArray⟩, .string ⟨lb.toArray⟩, .int .i64 n] w fun e w' => e = .returned (.bool true) ∧ Below w.heap.size w w' := by
  obtain ⟨i0, hi, hz0, hz1, hz2⟩ := info_parts Tryd.info9
  have hmk := fun W => run_makeSlice (P := Tryd.prog) W 31 9 i0 (.string ⟨#[]⟩) Tryd.underlying31 hi hz0 .i64 .i64 (n : Int) (n : Int) (by omega) (by omega) (by rw [hz1]; simp; omega) (by rw [hz2]; omega) (by omega)
  simp only [Int.toNat_natCast, hz1, Nat.mul_one] at hmk
  obtain ⟨SA, hSA⟩ : ∃ S : ByteArray, S = ⟨la.toArray⟩ := ⟨_, rfl⟩
  obtain ⟨SB, hSB⟩ : ∃ S : ByteArray, S = ⟨lb.toArray⟩ := ⟨_, rfl⟩
  rw [← hSA, ← hSB]
  have zA : SA.size = la.length := by rw [hSA]; simp [ByteArray.size]
  have zB : SB.size = lb.length := by rw [hSB]; simp [ByteArray.size]
  have c1 : ¬ ((500 : Int) < (la.length : Int)) := by omega
  have c2 : ¬ ((500 : Int) < (lb.length : Int)) := by omega
  have c3 : ¬ ((n : Int) < 0) := by omega
  have c4 : ¬ ((20 : Int) < (n : Int)) := by omega
  have HSA := Lib.hid hSA
  have HSB := Lib.hid hSB
  have HSAB := Lib.hid (show SA ++ SB = ⟨(la ++ lb).toArray⟩ by rw [hSA, hSB]; apply ByteArray.ext; simp)
  have HT := Lib.hid hT
  clear hSA hSB hT
  go_enter Tryd.func7, Tryd.ntmps7
  go_wp2_with fail
  refine (alive_any w HT.out).mono ?_
  rintro e w1 ⟨rfl, hb1⟩
  have hmk1 := hmk w1
  have hst1 := made_strs w1 n
  have hbm : Below w1.heap.size w1 (w1.alloc (.cells (madeCells (Value.string ⟨#[]⟩).cells n) 9)) := (Below.refl _ _).alloc (Nat.le_refl _) _
  obtain ⟨g, hg⟩ : ∃ g, g = w1.heap.size := ⟨_, rfl⟩
  obtain ⟨w2, hw2⟩ : ∃ w2, w2 = w1.alloc (.cells (madeCells (Value.string ⟨#[]⟩).cells n) 9) := ⟨_, rfl⟩
  rw [← hw2] at hmk1 hst1 hbm
  rw [← hg] at hmk1 hst1
  have HB2 := Lib.hid (hb1.trans (hbm.mono hb1.size))
  have HST := Lib.hid (show StrAt w2 w2.heap.size (some ⟨g, 0, none⟩) g 0 (nones n) from hst1)
  clear hmk hst1 hbm hw2 hg hb1
  have HSrc := Lib.hid (((HST.out.keep ((Below.refl _ _).alloc (Nat.le_refl _) (.cells #[] 9)))).src n 31 Tryd.underlying31 (P := Tryd.prog))
  rw [nones_length] at HSrc
  go_wp2_with (at_builtin; refine wpList_append_held rfl _ _ 31 31 rfl rfl (held_empty w2 9 _ (Nat.le_refl _)) 9 i0 (.string ⟨#[]⟩) 16 Tryd.underlying31 hi hz0 hz1 hz2 rfl _ rfl n (sv (nones n)) HSrc.out ?e2 ?e3 ?e4 ?_)
  case e2 => unfold maxLen; simp; omega
  case e3 => simp; omega
  case e4 => simp
  intro v3 w3 hh3 hg3
  have hb3 : Below w2.heap.size w2 w3 := ((Below.refl _ _).alloc (Nat.le_refl _) _).trans (hg3.below (held_empty w2 9 _ (Nat.le_refl _)) (by simp))
  have HB3 := Lib.hid hb3
  have HH3 := Lib.hid (show Held w3 w2.heap.size v3 (sv (nones n)) by simpa using hh3)
  clear hg3 hh3 hb3 HSrc
  have HSrc := Lib.hid (show Src Tryd.prog 1 31 (.slice (some ⟨w3.heap.size, 0, none⟩) 1 1) 1 (sv [la]) (w3.alloc (.cells #[.string SA] 9)) by rw [HSA.out]; exact src_str w3 31 Tryd.underlying31 la)
  have hlen : (sv (nones n)).length ≤ 100 := by simp [sv_length, nones_length]; omega
  have HHa := Lib.hid (HH3.out.alloc (.cells #[.string SA] 9))
  have hsz3 := HB3.out.size
  go_wp2_with (at_builtin; refine wpList_append_held rfl _ _ 31 31 rfl rfl HHa.out 9 i0 (.string ⟨#[]⟩) 16 Tryd.underlying31 hi hz0 hz1 hz2 rfl _ rfl 1 (sv [la]) HSrc.out ?e2 ?e3 ?e4 ?_)
  case e2 => unfold maxLen; omega
  case e3 => omega
  case e4 => simp; omega
  intro v4 w4 hh hg
  have hb : Below w2.heap.size w3 w4 := ((Below.refl _ _).alloc hsz3 _).trans (hg.below HHa.out (by simp; omega))
  have HB4 := Lib.hid (HB3.out.trans hb)
  have HH4 := Lib.hid (show Held w4 w2.heap.size v4 (sv ((nones n) ++ [la])) by simpa [sv] using hh)
  clear hg hh hb HSrc HHa hlen hsz3 HH3
  have hsz4 := HB4.out.size
  have HSrc := Lib.hid ((HST.out.keep HB4.out).src n 31 Tryd.underlying31 (P := Tryd.prog))
  rw [nones_length] at HSrc
  have hlen : (sv ((nones n) ++ [la])).length ≤ 100 := by simp [sv_length, nones_length]; omega
  go_wp2_with (at_builtin; refine wpList_append_held rfl _ _ 31 31 rfl rfl HH4.out 9 i0 (.string ⟨#[]⟩) 16 Tryd.underlying31 hi hz0 hz1 hz2 rfl _ rfl n (sv (nones n)) HSrc.out ?e2 ?e3 ?e4 ?_)
  case e2 => unfold maxLen; omega
  case e3 => omega
  case e4 => omega
  intro v5 w5 hh hg
  have hb : Below w2.heap.size w4 w5 := hg.below HH4.out hsz4
  have HB5 := Lib.hid (HB4.out.trans hb)
  have HH5 := Lib.hid (show Held w5 w2.heap.size v5 (sv (((nones n) ++ [la]) ++ nones n)) by simpa [sv] using hh)
  clear hg hh hb HSrc hlen hsz4 HH4
  have HSrc := Lib.hid (show Src Tryd.prog 1 31 (.slice (some ⟨w5.heap.size, 0, none⟩) 1 1) 1 (sv [lb]) (w5.alloc (.cells #[.string SB] 9)) by rw [HSB.out]; exact src_str w5 31 Tryd.underlying31 lb)
  have hlen : (sv (((nones n) ++ [la]) ++ nones n)).length ≤ 100 := by simp [sv_length, nones_length]; omega
  have HHa := Lib.hid (HH5.out.alloc (.cells #[.string SB] 9))
  have hsz5 := HB5.out.size
  go_wp2_with (at_builtin; refine wpList_append_held rfl _ _ 31 31 rfl rfl HHa.out 9 i0 (.string ⟨#[]⟩) 16 Tryd.underlying31 hi hz0 hz1 hz2 rfl _ rfl 1 (sv [lb]) HSrc.out ?e2 ?e3 ?e4 ?_)
  case e2 => unfold maxLen; omega
  case e3 => omega
  case e4 => simp; omega
  intro v6 w6 hh hg
  have hb : Below w2.heap.size w5 w6 := ((Below.refl _ _).alloc hsz5 _).trans (hg.below HHa.out (by simp; omega))
  have HB6 := Lib.hid (HB5.out.trans hb)
  have HH6 := Lib.hid (show Held w6 w2.heap.size v6 (sv ((((nones n) ++ [la]) ++ nones n) ++ [lb])) by simpa [sv] using hh)
  clear hg hh hb HSrc HHa hlen hsz5 HH5
  have hsz6 := HB6.out.size
  have HSrc := Lib.hid ((HST.out.keep HB6.out).src n 31 Tryd.underlying31 (P := Tryd.prog))
  rw [nones_length] at HSrc
  have hlen : (sv ((((nones n) ++ [la]) ++ nones n) ++ [lb])).length ≤ 100 := by simp [sv_length, nones_length]; omega
  go_wp2_with (at_builtin; refine wpList_append_held rfl _ _ 31 31 rfl rfl HH6.out 9 i0 (.string ⟨#[]⟩) 16 Tryd.underlying31 hi hz0 hz1 hz2 rfl _ rfl n (sv (nones n)) HSrc.out ?e2 ?e3 ?e4 ?_)
  case e2 => unfold maxLen; omega
  case e3 => omega
  case e4 => omega
  intro v7 w7 hh hg
  have hb : Below w2.heap.size w6 w7 := hg.below HH6.out hsz6
  have HB7 := Lib.hid (HB6.out.trans hb)
  have HH7 := Lib.hid (show Held w7 w2.heap.size v7 (sv (((((nones n) ++ [la]) ++ nones n) ++ [lb]) ++ nones n)) by simpa [sv] using hh)
  clear hg hh hb HSrc hlen hsz6 HH6
  have hfl : (((((nones n) ++ [la]) ++ nones n) ++ [lb]) ++ nones n).flatten = la ++ lb := by simp [nones_flat]
  have hmem : ∀ s ∈ ((((nones n) ++ [la]) ++ nones n) ++ [lb]) ++ nones n, s.length ≤ 100000 := by
    intro s hs
    simp only [List.mem_append, List.mem_singleton] at hs
    rcases hs with (((hs | rfl) | hs) | rfl) | hs
    · exact nones_mem n s hs
    · omega
    · exact nones_mem n s hs
    · omega
    · exact nones_mem n s hs
  have hln : (((((nones n) ++ [la]) ++ nones n) ++ [lb]) ++ nones n).length ≤ 100000 := by simp [nones_length]; omega
  have HBW := Lib.hid (HB2.out.trans (HB7.out.mono HB2.out.size))
  have HT7 := Lib.hid (HT.out.below HBW.out HT.out.size)
  go_wp2_with fail
  refine (of_held HH7.out HT7.out hln hmem).mono ?_
  rintro e w8 ⟨rfl, hb8⟩
  rw [hfl]
  have HB8 := Lib.hid (HBW.out.trans (hb8.mono HBW.out.size))
  have HB28 := Lib.hid (HB7.out.trans (hb8.mono HB7.out.size))
  clear hb8 hfl hmem hln HH7
  obtain ⟨D, hD⟩ : ∃ D, D = digest (la ++ lb) := ⟨_, rfl⟩
  have hDl : D.length = 32 := by rw [hD]; exact digest_length _
  have hsum : ¬ 9223372036854775807 < SA.size + SB.size := by omega
  have hsum' : ¬ 9223372036854775807 < la.length + lb.length := by omega
  rw [← hD]
  have HD := Lib.hid hD
  clear hD
  go_wp2_with fail
  rw [HSAB.out]
  refine (of_one w8 (la ++ lb) (HT.out.below HB8.out HT.out.size) (by simp; omega)).mono ?_
  rintro e w9 ⟨rfl, hb9⟩
  rw [← HD.out]
  have heq := fun w => root_eq w D D hDl hDl
  simp only [BEq.rfl] at heq
  have HB9 := Lib.hid (HB8.out.trans (hb9.mono HB8.out.size))
  have HB29 := Lib.hid (HB28.out.trans (hb9.mono HB28.out.size))
  clear hb9
  go_wp2_with fail
  refine (of_any w9 _ n n g 0 (nones n) (HT.out.below HB9.out HT.out.size) (nones_length n) (by omega) ((HST.out.keep HB29.out).more HB29.out.size) (nones_mem n)).mono ?_
  rintro e w10 ⟨rfl, hb10⟩
  rw [nones_flat]
  have HB10 := Lib.hid (HB9.out.trans (hb10.mono HB9.out.size))
  clear hb10
  obtain ⟨E, hE⟩ : ∃ E, E = digest [] := ⟨_, rfl⟩
  have hEl : E.length = 32 := by rw [hE]; exact digest_length _
  rw [← hE]
  have HE := Lib.hid hE
  have heq2 := fun w => root_eq w E E hEl hEl
  simp only [BEq.rfl] at heq2
  clear hE
  go_wp2_with fail
  refine (of_one w10 [] (HT.out.below HB10.out HT.out.size) (by simp)).mono ?_
  rintro e w11 ⟨rfl, hb11⟩
  rw [← HE.out]
  have HB11 := Lib.hid (HB10.out.trans (hb11.mono HB10.out.size))
  clear hb11
  go_wp2_with fail
  go_ret
  exact ⟨rfl, HB11.out⟩

theorem bytes_back (a : ByteArray) : (⟨a.data.toList.toArray⟩ : ByteArray) = a := by cases a; simp
theorem bytes_length (a : ByteArray) : a.data.toList.length = a.size := Array.length_toList

set_option maxHeartbeats 1000000 in
theorem empty_all (w : World) (a b : ByteArray) (n : Int) (hT : Tabs w) :
    Calls Tryd.prog 7 #[.string a, .string b, .int .i64 n] w fun e w' => e = .returned (.bool true) ∧ Below w.heap.size w w' := by
  by_cases h : a.size ≤ 500 ∧ b.size ≤ 500 ∧ 0 ≤ n ∧ n ≤ 20
  · have hx := empty_in w a.data.toList b.data.toList n.toNat hT (by rw [bytes_length]; omega) (by rw [bytes_length]; omega) (by omega)
    rw [bytes_back, bytes_back, Int.toNat_of_nonneg h.2.2.1] at hx
    exact hx
  · have HT := Lib.hid hT
    clear hT
    by_cases c1 : (500 : Int) < (a.size : Int)
    · go_enter Tryd.func7, Tryd.ntmps7
      go_wp2_with fail
      refine (alive_any w HT.out).mono ?_
      rintro e w1 ⟨rfl, hb1⟩
      go_wp2_with fail
      go_ret
      exact ⟨rfl, hb1⟩
    · by_cases c2 : (500 : Int) < (b.size : Int)
      · go_enter Tryd.func7, Tryd.ntmps7
        go_wp2_with fail
        refine (alive_any w HT.out).mono ?_
        rintro e w1 ⟨rfl, hb1⟩
        go_wp2_with fail
        go_ret
        exact ⟨rfl, hb1⟩
      · by_cases c3 : n < 0
        · go_enter Tryd.func7, Tryd.ntmps7
          go_wp2_with fail
          refine (alive_any w HT.out).mono ?_
          rintro e w1 ⟨rfl, hb1⟩
          go_wp2_with fail
          go_ret
          exact ⟨rfl, hb1⟩
        · have c4 : 20 < n := by omega
          clear h
          go_enter Tryd.func7, Tryd.ntmps7
          go_wp2_with fail
          refine (alive_any w HT.out).mono ?_
          rintro e w1 ⟨rfl, hb1⟩
          go_wp2_with fail
          go_ret
          exact ⟨rfl, hb1⟩
end Go.Proofs.YtbjofbkncpedmaaDoor
