/-
  The texts Begun11, one behind the other.
-/
import Derived.Test.YtpamifdcbnkcdaaDoesM15
/-
  begun: a tree of one block, its weights, and the document's of both.
-/
namespace Go.Proofs.Ytpamifdcbnkcdaa
open Go Go.RowKit
set_option maxRecDepth 10000

def root11 : List Nd := [(nmN 0, 0, -1)]
def prv (tb wb rb : Nat) : List Value := [.pointer (some ⟨tb, 0, none⟩), .pointer (some ⟨wb, 0, none⟩), .pointer (some ⟨rb, 0, none⟩)]
theorem Try.sizePair : (Try.prog.info? 37).map (·.size) = some 3 := by kernel_rfl
theorem Try.aggPair (w : World) : (isAgg 37).run Try.prog w = .ok true w := by
  unfold isAgg
  rw [Sem.run_bind, run_underlying Try.underlying37 w]
  rfl
theorem run_load_pair {w : World} {g tb wb rb : Nat} {ty : TypeId} (h : Blk w g ty (prv tb wb rb)) : (Instr.loadAt 37 (.pointer (some ⟨g, 0, none⟩))).run Try.prog w = .ok (.agg (prv tb wb rb).toArray) w :=
  run_loadAt_agg (g := g) (off := 0) (cs := prv tb wb rb) (fun j v hj => by rw [Nat.zero_add, h.cell]; exact hj) 37 Try.aggPair Try.sizePair
theorem ret_pair {fn : Func} {p : Tmp} (h : fn.results = #[.cell p 37]) {a : Act} {w : World} {g tb wb rb : Nat} (hp : a.tmps.getD p undef = .pointer (some ⟨g, 0, none⟩)) (hg : Blk w g 37 (prv tb wb rb)) (hd : a.defers = [])
    {R : Ending → World → Prop} (hR : R (.returned (.agg (prv tb wb rb).toArray)) w) : bodyPost Try.prog fn R .ret a w := by
  refine bodyPost_ret ?_ hd hR
  rw [results_cell h, hp]
  have hlo := run_load_pair hg
  simp only [Instr.loadAt, Instr.sureAddr, Sem.run_bind, Sem.run_pure, Result.andThen] at hlo
  simp only [asAddr, Sem.run_pure, Result.andThen_ok]
  rw [hlo]

set_option maxHeartbeats 4000000 in
theorem begun_any (w : World) : Calls Try.prog 16 #[] w fun e w' => ∃ tb wb mb rb, e = .returned (.agg (prv tb wb rb).toArray) ∧ PSX w.heap.size [] w' tb wb mb rb root11 root11 [0] [0] ∧ Below w.heap.size w w' := by
  have hb1 : Below w.heap.size w (w.alloc (.cells #[.pointer none, .pointer none, .pointer none] 37)) := (Below.refl _ w).alloc (Nat.le_refl _) _
  have HX := Lib.hid (Blk.new w 37 #[.pointer none, .pointer none, .pointer none])
  have HB := Lib.hid hb1
  obtain ⟨X, hX⟩ : ∃ X, X = w.heap.size := ⟨_, rfl⟩
  have HXE := Lib.hid (show w.heap.size ≤ X by omega)
  rw [← hX] at HX
  clear hb1
  go_enter Try.func16, Try.ntmps16
  go_upto_region 1 with fail
  rw [← hX]
  generalize w.alloc (.cells #[.pointer none, .pointer none, .pointer none] 37) = w1 at HX HB ⊢
  clear hX
  go_wp2_with fail
  refine (name_any w1 0).mono ?_
  rintro e w2 ⟨rfl, hbc⟩
  replace HX := Lib.hid (HX.out.below hbc HX.out.lt)
  replace HB := Lib.hid (HB.out.trans (hbc.mono HB.out.size))
  clear hbc
  go_wp2_with fail
  refine (new_ok w2 (nmN 0) 0 256 (nmN_len 0) (by decide) (by decide) (by decide) (by decide)).mono ?_
  rintro e w3 ⟨G, tb, rfl, ht, hg, hbc⟩
  have HXG := Lib.hid (show X ∉ G from fun hm => by have := hg X hm; have := HX.out.lt; omega)
  replace HX := Lib.hid (HX.out.below hbc HX.out.lt)
  have HT := Lib.hid (show Tre w3 G tb root11 256 from ht)
  have HHG := Lib.hid (hg.mono HB.out.size)
  replace HB := Lib.hid (HB.out.trans (hbc.mono HB.out.size))
  clear hbc ht hg
  go_wp2_with fail
  refine (name_any w3 0).mono ?_
  rintro e w4 ⟨rfl, hbc⟩
  replace HX := Lib.hid (HX.out.below hbc HX.out.lt)
  replace HT := Lib.hid (HT.out.below hbc)
  replace HB := Lib.hid (HB.out.trans (hbc.mono HB.out.size))
  clear hbc
  go_wp2_with fail
  refine (refnew_ok w4 (nmN 0) 0 256 (nmN_len 0) (by decide) (by decide) (by decide) (by decide)).mono ?_
  rintro e w5 ⟨M, mb, rfl, hm, hg, hbc⟩
  have HXM := Lib.hid (show X ∉ M from fun hm => by have := hg X hm; have := HX.out.lt; omega)
  replace HX := Lib.hid (HX.out.below hbc HX.out.lt)
  have HAGM := Lib.hid (Away.high HT.out.low hg)
  replace HT := Lib.hid (HT.out.below hbc)
  have HM := Lib.hid (show Ref w5 M mb root11 256 from hm)
  have HHM := Lib.hid (hg.mono HB.out.size)
  replace HB := Lib.hid (HB.out.trans (hbc.mono HB.out.size))
  clear hbc hm hg
  go_wp2_with fail
  refine (wnew_any w5 G tb root11 256 HT.out).mono ?_
  rintro e w6 ⟨F, wb, rfl, hw, hg, hbc⟩
  have HXF2 := Lib.hid (show X ∉ F from fun hm => by have := hg X hm; have := HX.out.lt; omega)
  replace HX := Lib.hid (HX.out.below hbc HX.out.lt)
  have HAGF := Lib.hid (Away.high HT.out.low hg)
  have HAMF := Lib.hid (Away.high HM.out.low hg)
  replace HT := Lib.hid (HT.out.below hbc)
  replace HM := Lib.hid (HM.out.below hbc)
  have HW := Lib.hid (show WgtG w6 F wb tb root11 [0] from hw)
  have HHF := Lib.hid (hg.mono HB.out.size)
  replace HB := Lib.hid (HB.out.trans (hbc.mono HB.out.size))
  clear hbc hw hg
  go_wp2_with fail
  refine (rwnew_any w6 M mb root11 256 HM.out).mono ?_
  rintro e w7 ⟨R, rb, rfl, hr, hg, hbc⟩
  have HXR := Lib.hid (show X ∉ R from fun hm => by have := hg X hm; have := HX.out.lt; omega)
  replace HX := Lib.hid (HX.out.below hbc HX.out.lt)
  have HAGR := Lib.hid (Away.high HT.out.low hg)
  have HAMR := Lib.hid (Away.high HM.out.low hg)
  have HAFR := Lib.hid (Away.high HW.out.low hg)
  replace HT := Lib.hid (HT.out.below hbc)
  replace HM := Lib.hid (HM.out.below hbc)
  replace HW := Lib.hid (HW.out.below hbc)
  have HR := Lib.hid (show RWk w7 R rb mb [0] ([0] : List Int).length from hr)
  have HHR := Lib.hid (hg.mono HB.out.size)
  replace HB := Lib.hid (HB.out.trans (hbc.mono HB.out.size))
  clear hbc hr hg
  have HSP := Lib.hid (show splice [.pointer none, .pointer none, .pointer none] 0 (prv tb wb rb) = prv tb wb rb from splice_all _ _ rfl)
  have HXF := Lib.hid (HX.out.setRow (prv tb wb rb))
  have HBF := Lib.hid (below_row HB.out HXE.out (prv tb wb rb).toArray)
  have HI := Lib.hid (show (Try.prog.info? 37).map (·.size) = some (prv tb wb rb).length from Try.sizePair)
  have H1 := Lib.hid (show ∀ v ∈ prv tb wb rb, v.oneCell' = true from fun v hv => by simp [prv] at hv; rcases hv with rfl | rfl | rfl <;> rfl)
  have HL := Lib.hid (show 0 + (prv tb wb rb).length ≤ ([.pointer none, .pointer none, .pointer none] : List Value).length from Nat.le_refl _)
  go_wp2_with ((with_reducible refine wpList_store_part ?_ 37 (.tmp 0) (.tmp 20) ?_ X 0 (prv tb wb rb) ?_ ?_ 37 _ HX.out HI.out HL.out H1.out ?_); rfl; rfl; rfl; rfl; rw [HSP.out])
  refine ret_pair rfl rfl HXF.out rfl ?_
  have hk : Kept [X] w7 (w7.setRow X (prv tb wb rb).toArray) := (Kept.refl _ _).setRow (.inl (by simp)) _
  have ax : ∀ {Z : List Nat}, X ∉ Z → Away Z [X] := fun h x hx hm => by simp at hm; subst hm; exact h hx
  exact ⟨tb, wb, mb, rb, rfl, ⟨⟨G, F, M, R, ⟨HT.out.keep hk (ax HXG.out), HW.out.keep hk (ax HXF2.out), HM.out.keep hk (ax HXM.out), HR.out.keep hk (ax HXR.out), OwnG.none.zeros 1, Nat.le_refl _, HHG.out, HHF.out, HHM.out, HHR.out, HAGF.out, HAGM.out, HAGR.out, HAMF.out.symm, HAFR.out, HAMR.out, fun x hx => (by cases hx), fun x hx => (by cases hx), fun x hx => (by cases hx), fun x hx => (by cases hx)⟩⟩, fun x hx => (by cases hx), HBF.out.size⟩, HBF.out⟩
end Go.Proofs.Ytpamifdcbnkcdaa
