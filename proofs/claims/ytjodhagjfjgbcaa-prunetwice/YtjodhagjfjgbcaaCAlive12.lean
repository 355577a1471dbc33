/-
  The texts Alive12, one behind the other.
-/
import Derived.Test.YtjodhagjfjgbcaaCMade12
import Derived.Test.YtjodhagjfjgbcaaTwiceM18
import Derived.Lib.BytesEntry
/-
  The tree of three, cut (alive).
-/
namespace Go.Proofs.Ytjodhagjfjgbcaa
open Go Go.RowKit
set_option maxRecDepth 10000
attribute [local go_sem] root_eqW

theorem wpList_build_many {P : Program} {ops : Array Oper} {rest : List Oper} {o : Oper} {a : Act} {w : World} {Q : Exit → Act → World → Prop} (hgd : o.guard = none) (t e : TypeId) (len : Nat) (parts : Array (Nat × Operand)) (ho : o.op = .buildSlice t len parts)
    (ie : TypeInfo) (z : Value) {s : Nat} (hs : 0 < s) (rows : List (List Value)) (hr : ∀ r ∈ rows, r.length = s)
    (hu : P.underlying t = some (.slice e)) (hie : P.info? e = some ie) (hz : ie.zero = some z) (hsz : ie.size = s) (hlen : len = rows.length) (hpos : 0 < len) (hsmall : len * s ≤ 2 ^ 24)
    (hp : (parts.toList.map fun x => (x.1, a.eval x.2)) = ((aggs rows).zipIdx 0).map fun x => (x.2, x.1))
    (h : wpList P ops Q rest (a.put o.dst (.slice (some ⟨w.heap.size, 0, none⟩) len len)) (w.alloc (.cells rows.flatten.toArray e))) : wpList P ops Q (o :: rest) a w := by
  refine wpList_plain hgd fun K hK => ?_
  unfold Oper.wp execOp
  simp only [ho, Sem.run_bind, run_build_rows w t e len _ ie z hs rows hr hu hie hz hsz hlen hpos hsmall (show (parts.map fun (i, x) => (i, a.eval x)).toList = _ by rw [Array.toList_map]; exact hp), Result.andThen_ok]
  exact hK _ _ h
theorem Try.infoBk : (Try.prog.info? 64).map (fun i => (i.zero, i.size, i.bytes)) = some (some (.agg (bkv bk0).toArray), 4, 32) := by kernel_rfl
def alB : List Bk := [⟨1, 0, 1, 5⟩, ⟨2, 0, 1, 3⟩, ⟨3, 1, 2, 4⟩]
def alT : List Nd := [(nmN 0, 0, -1), (nmN 1, 1, 0), (nmN 2, 1, 0), (nmN 3, 2, 1)]
def alU : List Nd := [(nmN 1, 1, -1), (nmN 3, 2, 0)]
theorem al_play : play alB = true := by decide +kernel
theorem al_tree : mkT alB = alT := by decide +kernel
theorem al_own : mkO alB = [0, 5, 3, 4] := by decide +kernel
theorem al_plc : plc alT (nmN 1) = ((1 : Nat) : Int) := by decide +kernel
theorem al_cut : cutT alT 1 = alU := by decide +kernel
theorem al_cuo : cutO alT [0, 5, 3, 4] 1 = [5, 4] := by decide +kernel
theorem al_wt : tellZ alU ([5, 4] : List Int).length (nmN 1) 0 (wtW alU [5, 4]) = 9 := by decide +kernel
theorem al_head : pnm alU (hdW alU [5, 4] : Int) = nmN 3 := by decide +kernel

set_option maxHeartbeats 8000000 in
theorem alive_any (w : World) : Calls Try.prog 8 #[] w fun e w' => e = .returned (.bool true) ∧ Below w.heap.size w w' := by
  obtain ⟨i0, hi0, hz0, hs0, hb0⟩ := info_parts Try.infoBk
  have HL1 := Lib.hid (nmN_len 1)
  have HL3 := Lib.hid (nmN_len 3)
  have H4 := Lib.hid (show 0 < 4 by decide)
  have HR := Lib.hid (show ∀ r ∈ [bkv ⟨1, 0, 1, 5⟩, bkv ⟨2, 0, 1, 3⟩, bkv ⟨3, 1, 2, 4⟩], r.length = 4 from fun r hr => by simp at hr; rcases hr with rfl | rfl | rfl <;> rfl)
  have H24 := Lib.hid (show 3 * 4 ≤ 2 ^ 24 by decide)
  have hbx : Below w.heap.size w (w.alloc (.cells (bks alB).toArray 64)) := (Below.refl _ _).alloc (Nat.le_refl _) _
  have HB := Lib.hid hbx
  have HL := Lib.hid (show Lies (w.alloc (.cells (bks alB).toArray 64)) (w.alloc (.cells (bks alB).toArray 64)).heap.size (some ⟨w.heap.size, 0, none⟩) w.heap.size 0 (bks alB) from ⟨fun _ => rfl, fun _ => by simp, fun j u hj => by rw [Nat.zero_add, (Blk.new w 64 (bks alB).toArray).cell]; exact hj⟩)
  clear hbx
  go_enter Try.func8, Try.ntmps8
  go_wp2_with ((with_reducible refine wpList_build_many ?_ 22 64 3 #[(0, .tmp 9), (1, .tmp 10), (2, .tmp 11)] ?_ i0 (.agg (bkv bk0).toArray) (s := 4) H4.out [bkv ⟨1, 0, 1, 5⟩, bkv ⟨2, 0, 1, 3⟩, bkv ⟨3, 1, 2, 4⟩] HR.out Try.underlying22 hi0 hz0 hs0 ?_ ?_ H24.out ?_ ?_); rfl; rfl; rfl; decide; rfl)
  rw [show bkv ⟨1, 0, 1, 5⟩ ++ (bkv ⟨2, 0, 1, 3⟩ ++ bkv ⟨3, 1, 2, 4⟩) = bks alB from rfl]
  generalize w.alloc (.cells (bks alB).toArray 64) = w1 at HB HL ⊢
  refine (made_any w1 (some ⟨w.heap.size, 0, none⟩) 3 3 w.heap.size 0 alB rfl HL.out).mono ?_
  rintro e w2 (⟨hp, _⟩ | ⟨tb, wb, rb, _, rfl, ho⟩)
  · rw [al_play] at hp; cases hp
  obtain ⟨⟨G, F, M, R, mb, ht, hw, _⟩, hbc⟩ := ho
  rw [al_tree] at ht hw
  rw [al_own] at hw
  have HT := Lib.hid ht
  have HW := Lib.hid hw
  replace HB := Lib.hid (HB.out.trans (hbc.mono HB.out.size))
  clear ht hw hbc HL
  go_wp2_with fail
  refine (name_any w2 1).mono ?_
  rintro e w3 ⟨rfl, hbc⟩
  replace HT := Lib.hid (HT.out.below hbc)
  replace HW := Lib.hid (HW.out.below hbc)
  replace HB := Lib.hid (HB.out.trans (hbc.mono HB.out.size))
  clear hbc
  go_wp2_with fail
  refine (pall_ok w3 G tb alT 100 F wb [0, 5, 3, 4] (nmN 1) 1 al_plc HT.out HW.out rfl HL1.out).mono ?_
  rintro e w4 ⟨U, ub, V, vb, rfl, hu, hv, _, hbc⟩
  rw [al_cut] at hu hv
  rw [al_cuo] at hv
  have HU := Lib.hid hu
  have HV := Lib.hid hv
  replace HB := Lib.hid (HB.out.trans (hbc.mono HB.out.size))
  clear hbc hu hv HT HW
  go_wp2_with fail
  refine (len_any w4 U ub alU 100 HU.out).mono ?_
  rintro e w4 ⟨rfl, rfl⟩
  go_wp2_with fail
  refine (name_any w4 1).mono ?_
  rintro e w5 ⟨rfl, hbc⟩
  replace HU := Lib.hid (HU.out.below hbc)
  replace HV := Lib.hid (HV.out.below hbc)
  replace HB := Lib.hid (HB.out.trans (hbc.mono HB.out.size))
  clear hbc
  go_wp2_with fail
  refine (wt_any w5 U ub alU 100 V vb [5, 4] (nmN 1) HU.out HV.out HL1.out).mono ?_
  rintro e w6 ⟨rfl, hbc⟩
  rw [al_wt]
  replace HU := Lib.hid (HU.out.below hbc)
  replace HV := Lib.hid (HV.out.below hbc)
  replace HB := Lib.hid (HB.out.trans (hbc.mono HB.out.size))
  clear hbc
  go_wp2_with fail
  refine (head_any w6 U ub alU 100 V vb [5, 4] HU.out HV.out).mono ?_
  rintro e w7 ⟨rfl, hbc⟩
  rw [al_head]
  replace HB := Lib.hid (HB.out.trans (hbc.mono HB.out.size))
  clear hbc HU HV
  go_wp2_with fail
  refine (name_any w7 3).mono ?_
  rintro e w8 ⟨rfl, hbc⟩
  replace HB := Lib.hid (HB.out.trans (hbc.mono HB.out.size))
  clear hbc
  have he := root_eqW w8 (nmN 3) (nmN 3) HL3.out HL3.out
  rw [show (nmN 3 == nmN 3) = true from beq_self_eq_true _] at he
  go_wp2_with fail
  go_ret
  exact ⟨rfl, HB.out⟩
end Go.Proofs.Ytjodhagjfjgbcaa
