/-
  The statements' first question, alive: it answers yes, and touches nothing that was there.
-/
import Derived.Test.YtickcajihaejkaaDoorWEnc
import Derived.Test.YtickcajihaejkaaDoorWDec
namespace Go.Proofs.YtickcajihaejkaaDoor
open Go.RowKit
set_option maxRecDepth 10000

def alMsg : Msg := ⟨2, 7, List.replicate 32 0, 3, 0, [], List.replicate 16 0⟩
theorem alMsg_fits : alMsg.Fits := ⟨by simp [alMsg], by simp [alMsg], by simp [alMsg]⟩
theorem alMsg_good : msgGood alMsg = true := by decide
theorem alMsg_built : Tryd.prog.built 29 [(0, .int .i64 2), (1, .int .i64 7), (3, .int .i64 3)] = some (mc alMsg (.slice none 0 0)).toArray := by kernel_rfl
theorem alMsg_len : (⟨(encB alMsg).toArray⟩ : ByteArray).size = 55 := by
  have h := msgB_length (msg_ranged alMsg_good alMsg_fits)
  simp only [ByteArray.size, List.size_toArray]
  rw [show encB alMsg = msgB alMsg by simp [encB, alMsg_good], h]
  rfl

set_option maxHeartbeats 4000000 in
theorem alive_any (w : World) : Calls Tryd.prog 4 #[] w fun e w' => e = .returned (.bool true) ∧ Below w.heap.size w w' := by
  have HE := Lib.hid (encode_any w alMsg (.slice none 0 0) alMsg_fits (BRow.nil _ _))
  rw [alMsg_good] at HE
  have hsz := alMsg_len
  have hdl : (⟨(encB alMsg).toArray⟩ : ByteArray).data.toList = msgB alMsg := by simp [encB, alMsg_good]
  obtain ⟨s, hs⟩ : ∃ s : ByteArray, ⟨(encB alMsg).toArray⟩ = s := ⟨_, rfl⟩
  rw [hs] at HE hsz hdl
  have HDL := Lib.hid hdl
  clear hs hdl
  go_enter Tryd.func4, Tryd.ntmps4
  go_wp2_with ((with_reducible refine wpList_build_msg ?_ 29 #[(0, .const (.int .i64 2)), (1, .const (.int .i64 7)), (3, .const (.int .i64 3))] ?_ (mc alMsg (.slice none 0 0)).toArray ?_ ?_); rfl; rfl; (simp only [List.map_toArray, List.map_cons, List.map_nil]; exact alMsg_built))
  refine HE.out.mono ?_
  rintro e w1 ⟨rfl, hb1⟩
  have HB1 := Lib.hid hb1
  clear hb1 HE
  go_wp2_with fail
  refine (decode_any w1 s (by omega)).mono ?_
  rintro e w2 ⟨o, sl, rfl, hrd, hrow, hb2⟩
  have ho : o = some alMsg := by rw [HDL.out] at hrd; exact hrd.unique (Reads.own alMsg_good alMsg_fits)
  subst ho
  simp only [Option.getD_some, Option.isSome_some] at hrow ⊢
  have HROW := Lib.hid hrow
  have HB2 := Lib.hid (HB1.out.trans (hb2.mono HB1.out.size))
  have HZ := Lib.hid (zero_new w2)
  have HK := Lib.hid (HZ.out.setRow (mc alMsg sl))
  have HB3 := Lib.hid (below_setRow (HB2.out.alloc HB2.out.size (.cells zcells 29)) HB2.out.size (mc alMsg sl).toArray)
  have HR3 := Lib.hid (hrow.bits (below_setRow ((Below.refl _ _).alloc (Nat.le_refl _) (.cells zcells 29)) (Nat.le_refl _) (mc alMsg sl).toArray))
  clear hrow hb2 hrd HB1 HB2 HDL
  obtain ⟨w3, hw3⟩ : ∃ x, (w2.alloc (.cells zcells 29)).setRow w2.heap.size (mc alMsg sl).toArray = x := ⟨_, rfl⟩
  rw [hw3] at HK HB3 HR3
  have HW3 := Lib.hid hw3
  clear hw3
  obtain ⟨c0, c1, c34, c35, c36⟩ := HK.out.msg alMsg_fits
  have c1' : w3.cell? ⟨w2.heap.size, 1, none⟩ = some (.int .i64 7) := c1
  have c34' : w3.cell? ⟨w2.heap.size, 34, none⟩ = some (.int .i64 3) := c34
  clear c0 c1 c34 c35 c36
  have HG := Lib.hid (wgood_any w3 alMsg sl alMsg_fits HR3.out)
  rw [alMsg_good] at HG
  go_upto_region 3 with ((with_reducible refine wpList_store_msg (.tmp 3) (.tmp 13) ?_ ?_ w2.heap.size zeroMsg alMsg (.slice none 0 0) sl ?_ ?_ ?_ zeroMsg_fits alMsg_fits ?_ ?_); rfl; rfl; rfl; rfl; exact HZ.out; exact HROW.out.one)
  rw [zcells_lit, HW3.out]
  clear HZ HROW
  go_wp2_with ((with_reducible refine wpList_load_msgG (.tmp 3) ?_ ?_ w2.heap.size alMsg sl ?_ HK.out alMsg_fits ?_); rfl; rfl; rfl)
  refine HG.out.mono ?_
  rintro e w4 ⟨rfl, hb4⟩
  have HB4 := Lib.hid (HB3.out.trans (hb4.mono HB3.out.size))
  clear hb4
  go_wp2_with fail
  go_ret
  exact ⟨rfl, HB4.out⟩
end Go.Proofs.YtickcajihaejkaaDoor
