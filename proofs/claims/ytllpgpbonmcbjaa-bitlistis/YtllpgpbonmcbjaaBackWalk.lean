/-
  The walk of BitlistBack.
-/
import Derived.Test.YtllpgpbonmcbjaaAlive
import Derived.Test.YtllpgpbonmcbjaaSame
namespace Go.Proofs.Ytllpgpbonmcbjaa
open Go.RowKit

def bstr (l : List UInt8) : ByteArray := ⟨l.toArray⟩
theorem bstr_size (l : List UInt8) : (bstr l).size = l.length := by simp [bstr, ByteArray.size]
theorem bstr_toList (l : List UInt8) : (bstr l).data.toList = l := by simp [bstr]
theorem bstr_self (s : ByteArray) : bstr s.data.toList = s := by apply ByteArray.ext; simp [bstr]

/-- Put of nothing ahead, as a text. -/
theorem put_str (w : World) (u : Value) (l : List Bool) (hu : Row w w.heap.size u l) (hl : l.length ≤ 1000) :
    Calls Try.prog 9 #[.slice none 0 0, u] w fun e w' => ∃ v', e = .returned v' ∧ Sem.run Try.prog (convert 24 9 v') w' = .ok (.string (bstr (enc l))) w' ∧ Below w.heap.size w w' :=
  (put_nil w u l hu hl).mono fun _ _ ⟨v', h1, h2, h3⟩ => ⟨v', h1, h2.string (P := Try.prog) 24 9 5 Try.underlying24 Try.underlying5 Try.underlying9, h3⟩

theorem Made.row {w : World} {g : Nat} {l : List Bool} (h : Made w g l) (hl : l.length ≤ 1000) : Row w w.heap.size (.slice (some ⟨g, 0, none⟩) l.length l.length) l :=
  (h.held (base := g) (Nat.le_refl _) (by unfold maxLen; omega)).row

theorem Made.keep {w w' : World} {g : Nat} {l : List Bool} (h : Made w g l) (hb : Below w.heap.size w w') : Made w' g l :=
  ⟨Nat.lt_of_lt_of_le h.lt hb.size, fun j x hj => (hb.cell (p := ⟨g, j, none⟩) h.lt).trans (h.cells j x hj), fun j hj => (hb.frozen (p := ⟨g, j, none⟩) h.lt).trans (h.free j hj)⟩

set_option maxHeartbeats 1000000 in
theorem back_in (w : World) (ao : Option Addr) (n cap : Nat) (l : List Bool) (s : ByteArray) (hn : l.length = n) (hu : Row w w.heap.size (.slice ao n cap) l) (hl : n ≤ 500) (hs : s.size ≤ 100) :
    Calls Try.prog 4 #[.slice ao n cap, .string s] w fun e w' => e = .returned (.bool true) ∧ Below w.heap.size w w' := by
  have HN := Lib.hid hn
  have HU := Lib.hid hu
  clear hn hu
  have c1 : ¬ ((500 : Int) < (n : Int)) := by omega
  have c2 : ¬ ((100 : Int) < (s.size : Int)) := by omega
  go_enter Try.func4, Try.ntmps4
  go_wp2_with fail
  refine (alive_any w).mono ?_
  rintro e w1 ⟨rfl, hb1⟩
  go_wp2_with fail
  refine (put_str w1 _ l ((HU.out.keep hb1).more hb1.size) (by rw [HN.out]; omega)).mono ?_
  rintro e w2 ⟨v2, rfl, hs2, hb2⟩
  have hb2' := hb1.trans (hb2.mono hb1.size)
  have hlen : (bstr (enc l)).size ≤ 1000 := by rw [bstr_size, enc_length, HN.out]; omega
  have hil := isLen_enc l
  have hde := dec_enc l
  rw [← bstr_toList (enc l)] at hil hde
  obtain ⟨E, hE⟩ : ∃ E, E = bstr (enc l) := ⟨_, rfl⟩
  rw [← hE] at hs2 hlen hil hde
  have HE := Lib.hid hE
  have HIL := Lib.hid hil
  have HDE := Lib.hid hde
  have HB2 := Lib.hid hb2'
  clear hE hil hde hb2'
  go_wp2_with fail
  have hg := get_yes w2 E n l.length hlen HIL.out (by rw [HN.out]; exact Int.le_refl _)
  rw [HDE.out, HN.out] at hg
  refine hg.mono ?_
  clear hg
  rintro e w3 ⟨rfl, hm3, hb3⟩
  have hb3' := HB2.out.trans (hb3.mono HB2.out.size)
  have hr3 := hm3.row (by rw [HN.out]; omega)
  rw [HN.out] at hr3
  have HQ := Lib.hid (same_yes w3 w3.heap.size _ _ l (Nat.le_refl _) hr3 ((HU.out.keep hb3').more hb3'.size) (by rw [HN.out]; omega))
  have HB3 := Lib.hid hb3'
  clear hm3 hr3 hb3' hb3 hb2 hs2
  go_wp2_with fail
  refine HQ.out.mono ?_
  rintro e w4 ⟨rfl, hb4⟩
  have HB4 := Lib.hid (HB3.out.trans (hb4.mono HB3.out.size))
  clear hb4
  go_wp2_with fail
  refine (put_str w4 _ l ((HU.out.keep HB4.out).more HB4.out.size) (by rw [HN.out]; omega)).mono ?_
  rintro e w5 ⟨v5, rfl, hs5, hb5⟩
  have HB5 := Lib.hid (HB4.out.trans (hb5.mono HB4.out.size))
  rw [← HE.out] at hs5
  clear hb5
  have d1 : (0 : Int) ≤ (n : Int) := by omega
  go_wp2_with fail
  refine (get_over w5 E _ l.length hlen HIL.out (by rw [HN.out]; omega)).mono ?_
  rintro e w6 ⟨rfl, rfl⟩
  clear hs5
  go_wp2_with fail
  rcases isLen_or s with hbad | ⟨m, hm, _⟩
  · refine (get_bad w5 s 1000 (by omega) hbad).mono ?_
    rintro e w6 ⟨rfl, rfl⟩
    go_wp2
    go_ret
    exact ⟨rfl, HB5.out⟩
  · have hsz := hm.size
    rw [Array.length_toList] at hsz
    have hm1 : m ≤ 800 := by change _ = s.size at hsz; omega
    have hen := enc_dec hm
    have hdl := dec_length (leN s.data.toList) m
    refine (get_yes w5 s 1000 m (by omega) hm (by omega)).mono ?_
    rintro e w6 ⟨rfl, hm6, hb6⟩
    have HB6 := Lib.hid (HB5.out.trans (hb6.mono HB5.out.size))
    have hr6 := hm6.row (by rw [hdl]; omega)
    rw [hdl] at hr6
    have HQ2 := Lib.hid (put_str w6 _ _ hr6 (by rw [hdl]; omega))
    rw [hen, bstr_self] at HQ2
    clear hm6 hb6 hr6 hsz hen hdl hm
    go_wp2_with fail
    refine HQ2.out.mono ?_
    rintro e w7 ⟨v7, rfl, hs7, hb7⟩
    go_wp2
    go_ret
    exact ⟨rfl, HB6.out.trans (hb7.mono HB6.out.size)⟩

set_option maxHeartbeats 400000 in
theorem back_out (w : World) (ao : Option Addr) (n cap : Nat) (s : ByteArray) (h : 500 < n ∨ 100 < s.size) :
    Calls Try.prog 4 #[.slice ao n cap, .string s] w fun e w' => e = .returned (.bool true) ∧ Below w.heap.size w w' := by
  by_cases c1 : (500 : Int) < (n : Int)
  · go_enter Try.func4, Try.ntmps4
    go_wp2_with fail
    refine (alive_any w).mono ?_
    rintro e w1 ⟨rfl, hb1⟩
    go_wp2
    go_ret
    exact ⟨rfl, hb1⟩
  · have c2 : (100 : Int) < (s.size : Int) := by omega
    go_enter Try.func4, Try.ntmps4
    go_wp2_with fail
    refine (alive_any w).mono ?_
    rintro e w1 ⟨rfl, hb1⟩
    go_wp2
    go_ret
    exact ⟨rfl, hb1⟩

theorem back_all (w : World) (ao : Option Addr) (n cap : Nat) (l : List Bool) (s : ByteArray) (hn : l.length = n) (hu : Row w w.heap.size (.slice ao n cap) l) :
    Calls Try.prog 4 #[.slice ao n cap, .string s] w fun e w' => e = .returned (.bool true) ∧ Below w.heap.size w w' := by
  by_cases h : 500 < n ∨ 100 < s.size
  · exact back_out w ao n cap s h
  · exact back_in w ao n cap l s hn hu (by omega) (by omega)

end Go.Proofs.Ytllpgpbonmcbjaa
