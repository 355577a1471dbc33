/-
  What alive answers: true.
-/
import Derived.Test.YtmkdcpnnnlihfaaDoorMacOf
namespace Go.Proofs.YtmkdcpnnnlihfaaDoor
open Go.RowKit

def jefe : List UInt8 := [74, 101, 102, 101]
def want1 : List UInt8 := [119, 104, 97, 116, 32, 100, 111, 32, 121, 97, 32, 119, 97, 110, 116, 32]
def want2 : List UInt8 := [102, 111, 114, 32, 110, 111, 116, 104, 105, 110, 103, 63]
theorem jefe_tag : tag jefe (want1 ++ want2) = [0x5b, 0xdc, 0xc1, 0x46, 0xbf, 0x60, 0x75, 0x4e, 0x6a, 0x04, 0x24, 0x26, 0x08, 0x95, 0x75, 0xc7] := by decide +kernel

set_option maxHeartbeats 1000000 in
theorem alive_any (w : World) (hT : Tabs w) : Calls Tryd.prog 7 #[] w fun e w' => e = .returned (.bool true) ∧ Below w.heap.size w w' := by
  have hst := str_two w want1 want2
  have hB1 : Below w.heap.size w (w.alloc (.cells #[.string ⟨want1.toArray⟩, .string ⟨want2.toArray⟩] 9)) := (Below.refl _ _).alloc (Nat.le_refl _) _
  have hm := macOf_any _ jefe _ 2 2 w.heap.size 0 [want1, want2] (hT.below hB1 hT.size) (by decide) rfl (by omega) hst (by decide)
  have HM := Lib.hid hm
  have HB1 := Lib.hid hB1
  have hzA := (zero_of_info Tryd.zero24).1
  clear hm hB1 hst hT
  go_enter Tryd.func7, Tryd.ntmps7
  go_wp2_with fail
  refine HM.out.mono ?_
  rintro e w2 ⟨rfl, hb2⟩
  have hB2 := HB1.out.trans (hb2.mono HB1.out.size)
  rw [show [want1, want2].flatten = want1 ++ want2 by simp, jefe_tag]
  clear HM
  obtain ⟨T, hT⟩ : ∃ T : List UInt8, T = [0x5b, 0xdc, 0xc1, 0x46, 0xbf, 0x60, 0x75, 0x4e, 0x6a, 0x04, 0x24, 0x26, 0x08, 0x95, 0x75, 0xc7] := ⟨_, rfl⟩
  rw [← hT]
  have htk : T.length = 16 := by rw [hT]; rfl
  have hn := Blk.new w2 24 (zb 16).toArray
  have hr := hn.setRow (bv T)
  have q0 := (hr.cell 0).trans (show (bv T)[0]? = some (.int .u8 91) by rw [hT]; rfl)
  have q1 := (hr.cell 1).trans (show (bv T)[1]? = some (.int .u8 220) by rw [hT]; rfl)
  have q15 := (hr.cell 15).trans (show (bv T)[15]? = some (.int .u8 199) by rw [hT]; rfl)
  have HN := Lib.hid hn
  have HB2 := Lib.hid (below_setRow (hB2.alloc hB2.size (.cells (zb 16).toArray 24)) hB2.size (bv T).toArray)
  have HZT := Lib.hid (show (Tryd.prog.info? 24).map (·.size) = some (bv T).length by rw [bv_length, htk]; exact Tryd.size24)
  have HLL := Lib.hid (show 0 + (bv T).length ≤ (zb 16).toArray.toList.length by rw [bv_length, htk]; simp [zb_length])
  have HP := Lib.hid (splice_all (zb 16).toArray.toList (bv T) (by rw [bv_length, htk]; simp [zb_length]))
  clear hn hr hT hb2 hB2 HB1
  go_wp2_with ((with_reducible refine wpList_store_part ?_ 24 (.tmp 1) (.tmp 3) ?_ w2.heap.size 0 (bv T) ?_ ?_ 24 _ HN.out HZT.out HLL.out (bv_one _) ?_); rfl; rfl; rfl; rfl; rw [HP.out])
  go_ret
  exact ⟨rfl, HB2.out⟩
end Go.Proofs.YtmkdcpnnnlihfaaDoor
