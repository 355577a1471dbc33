/-
  WireReads, walked, where the document's Decode answers as Decode does (its contract is handed in).
-/
import Derived.Test.YtickcajihaejkaaBackWalk7
namespace Go.Proofs.Ytickcajihaejkaa
open Go.RowKit
set_option maxRecDepth 100000

set_option maxHeartbeats 8000000 in
theorem reads_of (hd : ∀ (w : World) (s : ByteArray), s.size ≤ 500 → Calls Try.prog 10 #[.string s] w (DecPost w s)) (w : World) (s : ByteArray) :
    Calls Try.prog 3 #[.string s] w fun e w' => e = .returned (.bool true) ∧ Below w.heap.size w w' := by
  have HD := Lib.hid hd
  clear hd
  go_enter Try.func3, Try.ntmps3
  go_wp2_with fail
  refine (alive_any w).mono ?_
  rintro e w1 ⟨rfl, hb1⟩
  have HB1 := Lib.hid hb1
  have hg1 := hb1.size
  clear hb1
  by_cases hs : 500 < (s.size : Int)
  · go_wp2_with fail
    go_ret
    exact ⟨rfl, HB1.out⟩
  have hs' : s.size ≤ 500 := by omega
  go_wp2_with fail
  refine (decode_any w1 s (by omega)).mono ?_
  rintro e w2 ⟨o, sx, rfl, hrd, hrow, hb2⟩
  have HF := Lib.hid (reads_fits hrd)
  have HRD := Lib.hid hrd
  obtain ⟨w3, hw3, hk3, hr3, hb3⟩ := stored w2 (o.getD zeroMsg) sx hrow
  have HZ := Lib.hid (zero_new w2)
  have HO := Lib.hid hrow.one
  have HW3 := Lib.hid hw3
  have HK3 := Lib.hid hk3
  have HR3 := Lib.hid hr3
  have HB3 := Lib.hid (HB1.out.trans ((hb2.trans (hb3.mono hb2.size)).mono hg1))
  have hg3 : w.heap.size ≤ w3.heap.size := Nat.le_trans (Nat.le_trans hg1 hb2.size) hb3.size
  clear hrd hrow hb2 hw3 hk3 hr3 hb3 HB1 hg1
  go_upto_region 6 with ((with_reducible refine wpList_store_msg (.tmp 3) (.tmp 15) ?_ ?_ w2.heap.size zeroMsg (o.getD zeroMsg) (.slice none 0 0) sx ?_ ?_ ?_ zeroMsg_fits HF.out ?_ ?_); rfl; rfl; rfl; rfl; exact HZ.out; exact HO.out)
  rw [zcells_lit, HW3.out]
  clear HZ HO HW3
  generalize w2.heap.size = c at *
  go_wp2_with fail
  refine (HD.out w3 s hs').mono ?_
  rintro e w4 ⟨o', sy, rfl, hrd, hrow, hb4⟩
  obtain rfl : o' = o := hrd.unique HRD.out
  have hlen : (o'.getD zeroMsg).l.length ≤ 1000 := by
    cases o' with
    | none => simp [zeroMsg]
    | some X => have := msg_bits hrd.1; simp only [Option.getD_some]; omega
  obtain ⟨w5, hw5, hk5, hr5, hb5⟩ := stored w4 (o'.getD zeroMsg) sy hrow
  have hb35 := hb4.trans (hb5.mono hb4.size)
  have HZ := Lib.hid (zero_new w4)
  have HO := Lib.hid hrow.one
  have HW5 := Lib.hid hw5
  have HK5 := Lib.hid (HK3.out.below hb35 HK3.out.lt)
  have HR5 := Lib.hid (HR3.out.bits hb35)
  have HC5 := Lib.hid hk5
  have HQ5 := Lib.hid hr5
  have HB5 := Lib.hid (HB3.out.trans (hb35.mono hg3))
  have hg5 : w.heap.size ≤ w5.heap.size := Nat.le_trans hg3 hb35.size
  clear hrd hrow hb4 hw5 hk5 hr5 hb5 hb35 HB3 hg3 HK3 HR3 HRD
  go_upto_region 7 with ((with_reducible refine wpList_store_msg (.tmp 5) (.tmp 20) ?_ ?_ w4.heap.size zeroMsg (o'.getD zeroMsg) (.slice none 0 0) sy ?_ ?_ ?_ zeroMsg_fits HF.out ?_ ?_); rfl; rfl; rfl; rfl; exact HZ.out; exact HO.out)
  rw [zcells_lit, HW5.out]
  clear HZ HO HW5
  generalize w4.heap.size = c2 at *
  generalize o'.getD zeroMsg = X at *
  generalize o'.isSome = y at *
  go_wp2_with (first
    | ((with_reducible refine wpList_load_msgG (.tmp 3) ?_ ?_ c X sx ?_ HK5.out HF.out ?_); rfl; rfl; rfl)
    | ((with_reducible refine wpList_load_msgG (.tmp 5) ?_ ?_ c2 X sy ?_ HC5.out HF.out ?_); rfl; rfl; rfl))
  refine (msame_any w5 X X sx sy HF.out HF.out HR5.out HQ5.out hlen).mono ?_
  rintro e w6 ⟨rfl, hb6⟩
  rw [show msgSame X X = true from (msgSame_iff X X).2 rfl]
  have HB6 := Lib.hid (HB5.out.trans (hb6.mono hg5))
  clear hb6
  go_wp2_with fail
  go_ret
  exact ⟨rfl, HB6.out⟩
end Go.Proofs.Ytickcajihaejkaa
