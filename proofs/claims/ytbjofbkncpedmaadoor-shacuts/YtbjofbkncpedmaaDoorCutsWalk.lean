/-
  The walk of ShaCuts.
-/
import Derived.Test.YtbjofbkncpedmaaDoorStrs
namespace Go.Proofs.YtbjofbkncpedmaaDoor
open Go.RowKit

/-- The slice (ao, n) reads as these numbers, in block b from off on. -/
structure IntAt (w : World) (B : Nat) (ao : Option Addr) (b off : Nat) (zs : List Int) : Prop where
  addr : 0 < zs.length → ao = some ⟨b, off, none⟩
  lt : 0 < zs.length → b < B
  cells : ∀ j z, zs[j]? = some z → w.cell? ⟨b, off + j, none⟩ = some (.int .i64 z)

theorem IntAt.keep {w w' : World} {B b off : Nat} {ao : Option Addr} {zs : List Int} (h : IntAt w B ao b off zs) (hb : Below B w w') : IntAt w' B ao b off zs :=
  ⟨h.addr, h.lt, fun j x hj => by
    have hl : 0 < zs.length := by have := (List.getElem?_eq_some_iff.1 hj).1; omega
    exact (hb.cell (p := ⟨b, off + j, none⟩) (h.lt hl)).trans (h.cells j x hj)⟩

theorem le_sum : ∀ (l : List Nat) (x : Nat), x ∈ l → x ≤ l.sum
  | a :: l, x, h => by
    rw [List.sum_cons]
    rcases List.mem_cons.1 h with rfl | h
    · omega
    · have := le_sum l x h; omega

def CutRel (w : World) (l : List UInt8) (n : Nat) (v r x : Value) (wr : World) : Prop :=
  ∃ (i : Nat) (ss : List (List UInt8)) (t : List UInt8), x = .int .i64 (i : Int) ∧ i ≤ n ∧ r = .string ⟨t.toArray⟩ ∧ ss.flatten ++ t = l ∧ ss.length = i ∧ Held wr w.heap.size v (sv ss) ∧ Below w.heap.size w wr

set_option maxHeartbeats 2000000 in
theorem cuts_in (w : World) (l : List UInt8) (ao : Option Addr) (n cap b off : Nat) (zs : List Int) (hT : Tabs w) (hz : zs.length = n) (hI : IntAt w w.heap.size ao b off zs) (hl : l.length ≤ 2000) (hn : n ≤ 50) :
    Calls Tryd.prog 4 #[.string ⟨l.toArray⟩, .slice ao n cap] w fun e w' => e = .returned (.bool true) ∧ Below w.heap.size w w' := by
  obtain ⟨i0, hi0, hz0, hz1, hz2⟩ := info_parts Tryd.info9
  obtain ⟨S, hS⟩ : ∃ S : ByteArray, S = ⟨l.toArray⟩ := ⟨_, rfl⟩
  rw [← hS]
  have zS : S.size = l.length := by rw [hS]; simp [ByteArray.size]
  have c1 : ¬ ((2000 : Int) < (l.length : Int)) := by omega
  have c2 : ¬ ((50 : Int) < (n : Int)) := by omega
  have HS := Lib.hid hS
  have HT := Lib.hid hT
  have HZ := Lib.hid hz
  have HI := Lib.hid hI
  clear hS hT hz hI
  go_enter Tryd.func4, Tryd.ntmps4
  go_wp2_with fail
  refine (alive_any w HT.out).mono ?_
  rintro e w1 ⟨rfl, hb1⟩
  have HB1 := Lib.hid hb1
  clear hb1
  go_wp2_with fail
  go_loopw [5, 6, 23] (fun v r x wr => CutRel w l n v r x wr) (fun _ _ x _ => n - intN x)
  case atStart => exact ⟨0, [], l, rfl, Nat.zero_le _, by rw [← HS.out], rfl, rfl, Held.nil _ _, HB1.out⟩
  case round =>
    clear HB1
    obtain ⟨i, ss, t, rfl, hi, rfl, hfl, hsl, hh, hB⟩ := hrel
    by_cases hlt : i < n
    · have d0 : (i : Int) < (n : Int) := by omega
      have hzl : i < zs.length := by rw [HZ.out]; exact hlt
      obtain ⟨z, hz⟩ : ∃ z, zs[i]? = some z := ⟨_, List.getElem?_eq_getElem hzl⟩
      obtain rfl := HI.out.addr (by omega)
      have q := (HI.out.keep hB).cells i z hz
      obtain ⟨R, hR⟩ : ∃ R : ByteArray, R = ⟨t.toArray⟩ := ⟨_, rfl⟩
      rw [← hR]
      have zR : R.size = t.length := by rw [hR]; simp [ByteArray.size]
      have HR := Lib.hid hR
      have HFL := Lib.hid hfl
      have HSL := Lib.hid hsl
      have HH := Lib.hid hh
      have HB := Lib.hid hB
      have hsvl : (sv ss).length ≤ 100 := by rw [sv_length]; omega
      clear hR hfl hsl hh hB hz
      by_cases hA : z < 0
      · have HX1 := Lib.hid (show ByteArray.empty = ⟨([]).toArray⟩ by rfl)
        have HX2 := Lib.hid (show R.extract 0 t.length = ⟨(t).toArray⟩ by rw [HR.out]; apply ByteArray.ext; rw [ByteArray.data_extract, List.extract_toArray, List.extract_eq_take_drop]; simp)
        have HSrc := Lib.hid (show Src Tryd.prog 1 31 (.slice (some ⟨wr.heap.size, 0, none⟩) 1 1) 1 (sv [[]]) (wr.alloc (.cells #[.string (ByteArray.empty)] 9)) by rw [HX1.out]; exact src_str wr 31 Tryd.underlying31 ([]))
        have HHa := Lib.hid (HH.out.alloc (.cells #[.string (ByteArray.empty)] 9))
        go_wp2_with (at_builtin; refine wpList_append_held rfl _ _ 31 31 rfl rfl HHa.out 9 i0 (.string ⟨#[]⟩) 16 Tryd.underlying31 hi0 hz0 hz1 hz2 rfl _ rfl 1 (sv [[]]) HSrc.out ?e2 ?e3 ?e4 ?_)
        case e2 => unfold maxLen; omega
        case e3 => omega
        case e4 => (try rw [World.size_alloc]); have := HB.out.size; omega
        intro v2 w2 hh hg
        have hbb : Below w.heap.size wr w2 := ((Below.refl _ _).alloc HB.out.size _).trans (hg.below HHa.out (by rw [World.size_alloc]; have := HB.out.size; omega))
        have HREL := Lib.hid (show CutRel w l n v2 (.string ⟨(t).toArray⟩) (.int .i64 ((i : Int) + 1)) w2 from
          ⟨i + 1, ss ++ [[]], t, by simp, hlt, rfl, by rw [List.flatten_append, List.append_assoc, List.flatten_singleton, List.nil_append]; exact HFL.out, by rw [List.length_append, HSL.out]; rfl, by rw [sv_append]; exact hh, HB.out.trans hbb⟩)
        clear hh hg hbb HSrc HHa
        go_wp2_with fail
        try rw [HX2.out]
        refine ⟨HREL.out, ?_⟩
        simp only [intN]
        omega
      · by_cases hC : (t.length : Int) < z
        · have HX1 := Lib.hid (show R.extract 0 t.length = ⟨(t).toArray⟩ by rw [HR.out]; apply ByteArray.ext; rw [ByteArray.data_extract, List.extract_toArray, List.extract_eq_take_drop]; simp)
          have HX2 := Lib.hid (show ByteArray.empty = ⟨([]).toArray⟩ by rfl)
          have HSrc := Lib.hid (show Src Tryd.prog 1 31 (.slice (some ⟨wr.heap.size, 0, none⟩) 1 1) 1 (sv [t]) (wr.alloc (.cells #[.string (R.extract 0 t.length)] 9)) by rw [HX1.out]; exact src_str wr 31 Tryd.underlying31 (t))
          have HHa := Lib.hid (HH.out.alloc (.cells #[.string (R.extract 0 t.length)] 9))
          go_wp2_with (at_builtin; refine wpList_append_held rfl _ _ 31 31 rfl rfl HHa.out 9 i0 (.string ⟨#[]⟩) 16 Tryd.underlying31 hi0 hz0 hz1 hz2 rfl _ rfl 1 (sv [t]) HSrc.out ?e2 ?e3 ?e4 ?_)
          case e2 => unfold maxLen; omega
          case e3 => omega
          case e4 => (try rw [World.size_alloc]); have := HB.out.size; omega
          intro v2 w2 hh hg
          have hbb : Below w.heap.size wr w2 := ((Below.refl _ _).alloc HB.out.size _).trans (hg.below HHa.out (by rw [World.size_alloc]; have := HB.out.size; omega))
          have HREL := Lib.hid (show CutRel w l n v2 (.string ⟨([]).toArray⟩) (.int .i64 ((i : Int) + 1)) w2 from
            ⟨i + 1, ss ++ [t], [], by simp, hlt, rfl, by rw [List.flatten_append, List.append_assoc, List.flatten_singleton, List.append_nil]; exact HFL.out, by rw [List.length_append, HSL.out]; rfl, by rw [sv_append]; exact hh, HB.out.trans hbb⟩)
          clear hh hg hbb HSrc HHa
          go_wp2_with fail
          try rw [HX2.out]
          refine ⟨HREL.out, ?_⟩
          simp only [intN]
          omega
        · obtain ⟨k, rfl⟩ : ∃ k : Nat, z = (k : Int) := ⟨z.toNat, by omega⟩
          have hkt : k ≤ t.length := by omega
          have HX1 := Lib.hid (show R.extract 0 k = ⟨(t.take k).toArray⟩ by rw [HR.out]; apply ByteArray.ext; rw [ByteArray.data_extract, List.extract_toArray, List.extract_eq_take_drop]; simp)
          have HX2 := Lib.hid (show R.extract k t.length = ⟨(t.drop k).toArray⟩ by rw [HR.out]; apply ByteArray.ext; rw [ByteArray.data_extract, List.extract_toArray, List.extract_eq_take_drop]; rw [List.take_of_length_le (by rw [List.length_drop]; exact Nat.le_refl _)])
          have HSrc := Lib.hid (show Src Tryd.prog 1 31 (.slice (some ⟨wr.heap.size, 0, none⟩) 1 1) 1 (sv [t.take k]) (wr.alloc (.cells #[.string (R.extract 0 k)] 9)) by rw [HX1.out]; exact src_str wr 31 Tryd.underlying31 (t.take k))
          have HHa := Lib.hid (HH.out.alloc (.cells #[.string (R.extract 0 k)] 9))
          go_wp2_with (at_builtin; refine wpList_append_held rfl _ _ 31 31 rfl rfl HHa.out 9 i0 (.string ⟨#[]⟩) 16 Tryd.underlying31 hi0 hz0 hz1 hz2 rfl _ rfl 1 (sv [t.take k]) HSrc.out ?e2 ?e3 ?e4 ?_)
          case e2 => unfold maxLen; omega
          case e3 => omega
          case e4 => (try rw [World.size_alloc]); have := HB.out.size; omega
          intro v2 w2 hh hg
          have hbb : Below w.heap.size wr w2 := ((Below.refl _ _).alloc HB.out.size _).trans (hg.below HHa.out (by rw [World.size_alloc]; have := HB.out.size; omega))
          have HREL := Lib.hid (show CutRel w l n v2 (.string ⟨(t.drop k).toArray⟩) (.int .i64 ((i : Int) + 1)) w2 from
            ⟨i + 1, ss ++ [t.take k], t.drop k, by simp, hlt, rfl, by rw [List.flatten_append, List.append_assoc, List.flatten_singleton, List.take_append_drop]; exact HFL.out, by rw [List.length_append, HSL.out]; rfl, by rw [sv_append]; exact hh, HB.out.trans hbb⟩)
          clear hh hg hbb HSrc HHa
          go_wp2_with fail
          try rw [HX2.out]
          refine ⟨HREL.out, ?_⟩
          simp only [intN]
          omega
    · obtain rfl : i = n := by omega
      obtain ⟨R, hR⟩ : ∃ R : ByteArray, R = ⟨t.toArray⟩ := ⟨_, rfl⟩
      rw [← hR]
      have hsvl : (sv ss).length ≤ 100 := by rw [sv_length]; omega
      have htl : t.length ≤ 2000 := by have := congrArg List.length hfl; simp at this; omega
      have HSrc := Lib.hid (show Src Tryd.prog 1 31 (.slice (some ⟨wr.heap.size, 0, none⟩) 1 1) 1 (sv [t]) (wr.alloc (.cells #[.string R] 9)) by rw [hR]; exact src_str wr 31 Tryd.underlying31 t)
      have HHa := Lib.hid (hh.alloc (.cells #[.string R] 9))
      have HFL := Lib.hid hfl
      have HSL := Lib.hid hsl
      have HB := Lib.hid hB
      clear hR hfl hsl hh hB
      go_wp2_with (at_builtin; refine wpList_append_held rfl _ _ 31 31 rfl rfl HHa.out 9 i0 (.string ⟨#[]⟩) 16 Tryd.underlying31 hi0 hz0 hz1 hz2 rfl _ rfl 1 (sv [t]) HSrc.out ?e2 ?e3 ?e4 ?_)
      case e2 => unfold maxLen; omega
      case e3 => omega
      case e4 => (try rw [World.size_alloc]); have := HB.out.size; omega
      intro v2 w2 hh hg
      have hbb : Below w.heap.size wr w2 := ((Below.refl _ _).alloc HB.out.size _).trans (hg.below HHa.out (by rw [World.size_alloc]; have := HB.out.size; omega))
      have HB2 := Lib.hid (HB.out.trans hbb)
      have HH2 := Lib.hid (show Held w2 w.heap.size v2 (sv (ss ++ [t])) by rw [sv_append]; exact hh)
      clear hh hg hbb HSrc HHa
      have hfl2 : (ss ++ [t]).flatten = l := by rw [List.flatten_append]; simp; exact HFL.out
      have hmem : ∀ s ∈ ss ++ [t], s.length ≤ 100000 := fun s hs => by
        have h1 : s.length ≤ (ss ++ [t]).flatten.length := by
          rw [List.length_flatten]
          exact le_sum _ _ (List.mem_map_of_mem hs)
        rw [hfl2] at h1
        omega
      go_wp2_with fail
      refine (of_held HH2.out (HT.out.below HB2.out HT.out.size) (by simp; have := HSL.out; omega) hmem).mono ?_
      rintro e w3 ⟨rfl, hb3⟩
      rw [hfl2]
      have HB3 := Lib.hid (HB2.out.trans (hb3.mono HB2.out.size))
      clear hb3 hfl2 hmem HH2
      obtain ⟨D, hD⟩ : ∃ D, D = digest l := ⟨_, rfl⟩
      have hDl : D.length = 32 := by rw [hD]; exact digest_length _
      rw [← hD]
      have HD := Lib.hid hD
      clear hD
      go_wp2_with fail
      rw [HS.out]
      refine (of_one w3 l (HT.out.below HB3.out HT.out.size) (by omega)).mono ?_
      rintro e w4 ⟨rfl, hb4⟩
      rw [← HD.out]
      have heq := fun w => root_eq w D D hDl hDl
      simp only [BEq.rfl] at heq
      have HB4 := Lib.hid (HB3.out.trans (hb4.mono HB3.out.size))
      clear hb4
      go_wp2_with fail
      go_ret
      exact ⟨rfl, HB4.out⟩

theorem text_back (a : ByteArray) : (⟨a.data.toList.toArray⟩ : ByteArray) = a := by cases a; simp
theorem text_length (a : ByteArray) : a.data.toList.length = a.size := Array.length_toList

set_option maxHeartbeats 1000000 in
theorem cuts_all (w : World) (s : ByteArray) (ao : Option Addr) (n cap : Nat) (zs : List Int) (hT : Tabs w) (hz : zs.length = n) (hI : ∃ b off, IntAt w w.heap.size ao b off zs) :
    Calls Tryd.prog 4 #[.string s, .slice ao n cap] w fun e w' => e = .returned (.bool true) ∧ Below w.heap.size w w' := by
  obtain ⟨b, off, hI⟩ := hI
  by_cases h : s.size ≤ 2000 ∧ n ≤ 50
  · have hx := cuts_in w s.data.toList ao n cap b off zs hT hz hI (by rw [text_length]; omega) h.2
    rw [text_back] at hx
    exact hx
  · have HT := Lib.hid hT
    clear hT hI hz
    by_cases c1 : (2000 : Int) < (s.size : Int)
    · go_enter Tryd.func4, Tryd.ntmps4
      go_wp2_with fail
      refine (alive_any w HT.out).mono ?_
      rintro e w1 ⟨rfl, hb1⟩
      go_wp2_with fail
      go_ret
      exact ⟨rfl, hb1⟩
    · have c2 : (50 : Int) < (n : Int) := by omega
      clear h
      go_enter Tryd.func4, Tryd.ntmps4
      go_wp2_with fail
      refine (alive_any w HT.out).mono ?_
      rintro e w1 ⟨rfl, hb1⟩
      go_wp2_with fail
      go_ret
      exact ⟨rfl, hb1⟩
end Go.Proofs.YtbjofbkncpedmaaDoor
