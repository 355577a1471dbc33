/-
  The texts WMem, WGood, one behind the other.
-/
import Derived.Test.YtjodhagjfjgbcaaLeavesM4
import Derived.Test.YtjodhagjfjgbcaaLeavesM10
import Derived.Test.YtjodhagjfjgbcaaCWClone
/-
  Weights in memory: the tree's pointer, then own weights, sums, best children: three slices of its own.
-/
namespace Go.Proofs.Ytjodhagjfjgbcaa
open Go Go.RowKit
set_option maxRecDepth 10000

def wItems (v1 v2 v3 : Value) (own sums best : List Int) : List (Nat × Value × List Value) := [(1, v1, zv own), (1, v2, zv sums), (1, v3, zv best)]
/-- The weights at block b, of the tree at block tb, are these; F: the blocks that are their own. -/
def Wgt (w : World) (F : List Nat) (b tb : Nat) (own sums best : List Int) : Prop := ∃ v1 v2 v3, Slp w F b 89 [.pointer (some ⟨tb, 0, none⟩)] (wItems v1 v2 v3 own sums best) []
section
variable {w w' : World} {F G : List Nat} {b tb : Nat} {own sums best : List Int}
theorem Wgt.keep (h : Wgt w F b tb own sums best) (hk : Kept G w w') (hF : Away F G) : Wgt w' F b tb own sums best := by
  obtain ⟨v1, v2, v3, h⟩ := h
  exact ⟨v1, v2, v3, h.keep hk hF⟩
theorem Wgt.below (h : Wgt w F b tb own sums best) (hb : Below w.heap.size w w') : Wgt w' F b tb own sums best := h.keep (Kept.of_below [] hb) (fun _ _ hx => by cases hx)
theorem Wgt.low (h : Wgt w F b tb own sums best) : Low w F := by
  obtain ⟨v1, v2, v3, h⟩ := h
  exact h.low
end

/-- Its three slices. -/
structure WgtS (w : World) (F : List Nat) (b tb : Nat) (own sums best : List Int) (a1 a2 a3 : Option Addr) (c1 c2 c3 g1 g2 g3 o1 o2 o3 : Nat) : Prop where
  slp : Slp w F b 89 [.pointer (some ⟨tb, 0, none⟩)] (wItems (.slice a1 own.length c1) (.slice a2 sums.length c2) (.slice a3 best.length c3) own sums best) []
  l1 : Lies w w.heap.size a1 g1 o1 (zv own)
  l2 : Lies w w.heap.size a2 g2 o2 (zv sums)
  l3 : Lies w w.heap.size a3 g3 o3 (zv best)
theorem Wgt.open {w : World} {F : List Nat} {b tb : Nat} {own sums best : List Int} (h : Wgt w F b tb own sums best) : ∃ a1 a2 a3 c1 c2 c3 g1 g2 g3 o1 o2 o3, WgtS w F b tb own sums best a1 a2 a3 c1 c2 c3 g1 g2 g3 o1 o2 o3 := by
  obtain ⟨v1, v2, v3, h⟩ := h
  have w1 := h.wide (1, v1, zv own) (by simp [wItems])
  have w2 := h.wide (1, v2, zv sums) (by simp [wItems])
  have w3 := h.wide (1, v3, zv best) (by simp [wItems])
  obtain ⟨a1, n1, c1, g1, o1, rfl, e1, l1⟩ := w1.lies
  obtain ⟨a2, n2, c2, g2, o2, rfl, e2, l2⟩ := w2.lies
  obtain ⟨a3, n3, c3, g3, o3, rfl, e3, l3⟩ := w3.lies
  rw [zv_length] at e1 e2 e3
  obtain rfl : n1 = own.length := by omega
  obtain rfl : n2 = sums.length := by omega
  obtain rfl : n3 = best.length := by omega
  exact ⟨a1, a2, a3, c1, c2, c3, g1, g2, g3, o1, o2, o3, h, l1, l2, l3⟩
section
variable {w w' : World} {F : List Nat} {b tb : Nat} {own sums best : List Int} {a1 a2 a3 : Option Addr} {c1 c2 c3 g1 g2 g3 o1 o2 o3 : Nat}
theorem WgtS.wgt (h : WgtS w F b tb own sums best a1 a2 a3 c1 c2 c3 g1 g2 g3 o1 o2 o3) : Wgt w F b tb own sums best := ⟨_, _, _, h.slp⟩
theorem WgtS.below (h : WgtS w F b tb own sums best a1 a2 a3 c1 c2 c3 g1 g2 g3 o1 o2 o3) (hb : Below w.heap.size w w') : WgtS w' F b tb own sums best a1 a2 a3 c1 c2 c3 g1 g2 g3 o1 o2 o3 := ⟨h.slp.below hb, h.l1.below hb, h.l2.below hb, h.l3.below hb⟩
theorem WgtS.blk (h : WgtS w F b tb own sums best a1 a2 a3 c1 c2 c3 g1 g2 g3 o1 o2 o3) : Blk w b 89 [.pointer (some ⟨tb, 0, none⟩), .slice a1 own.length c1, .slice a2 sums.length c2, .slice a3 best.length c3] := h.slp.blk
theorem WgtS.cell0 (h : WgtS w F b tb own sums best a1 a2 a3 c1 c2 c3 g1 g2 g3 o1 o2 o3) : w.cell? ⟨b, 0, none⟩ = some (.pointer (some ⟨tb, 0, none⟩)) := h.blk.cell 0
theorem WgtS.cell1 (h : WgtS w F b tb own sums best a1 a2 a3 c1 c2 c3 g1 g2 g3 o1 o2 o3) : w.cell? ⟨b, 1, none⟩ = some (.slice a1 own.length c1) := h.blk.cell 1
theorem WgtS.cell2 (h : WgtS w F b tb own sums best a1 a2 a3 c1 c2 c3 g1 g2 g3 o1 o2 o3) : w.cell? ⟨b, 2, none⟩ = some (.slice a2 sums.length c2) := h.blk.cell 2
theorem WgtS.cell3 (h : WgtS w F b tb own sums best a1 a2 a3 c1 c2 c3 g1 g2 g3 o1 o2 o3) : w.cell? ⟨b, 3, none⟩ = some (.slice a3 best.length c3) := h.blk.cell 3
theorem WgtS.nb1 (h : WgtS w F b tb own sums best a1 a2 a3 c1 c2 c3 g1 g2 g3 o1 o2 o3) : b ∉ ownL (.slice a1 own.length c1) := fun hx => h.slp.nb _ (show (1, _, zv own) ∈ _ by simp [wItems]) (mem_ownL.1 hx)
theorem WgtS.wide1 (h : WgtS w F b tb own sums best a1 a2 a3 c1 c2 c3 g1 g2 g3 o1 o2 o3) : Wide 1 w 0 (.slice a1 own.length c1) (zv own) := h.slp.wide (1, _, zv own) (by simp [wItems])
theorem WgtS.inF1 (h : WgtS w F b tb own sums best a1 a2 a3 c1 c2 c3 g1 g2 g3 o1 o2 o3) : ∀ x ∈ ownL (.slice a1 own.length c1), x ∈ F := fun x hx => h.slp.inv (1, .slice a1 own.length c1, zv own) (by simp [wItems]) x (mem_ownL.1 hx)
/-- Own weights have grown, or others are stored in their place. -/
theorem WgtS.own1 (h : WgtS w F b tb own sums best a1 a2 a3 c1 c2 c3 g1 g2 g3 o1 o2 o3) {v' : Value} {own' : List Int} (hk : Kept (ownL (.slice a1 own.length c1)) w w') (hw : Wide 1 w' 0 v' (zv own')) (h0 : 0 < own'.length)
    (ho : v'.ownBlock = (Value.slice a1 own.length c1).ownBlock ∨ ∃ j, v'.ownBlock = some j ∧ w.heap.size ≤ j) :
    Wgt (w'.setCell ⟨b, 1, none⟩ v') (ownL v' ++ F) b tb own' sums best ∧ Kept F w (w'.setCell ⟨b, 1, none⟩ v') ∧ NewF w F (ownL v' ++ F) := by
  have := h.slp.stored (i := 0) rfl hk hw (by rw [zv_length]; exact h0) ho
  exact ⟨⟨v', _, _, this.1⟩, this.2⟩
theorem WgtS.sums1 (h : WgtS w F b tb own sums best a1 a2 a3 c1 c2 c3 g1 g2 g3 o1 o2 o3) {v' : Value} {sums' : List Int} (hb : Below w.heap.size w w') (hw : Wide 1 w' w.heap.size v' (zv sums')) (h0 : 0 < sums'.length) :
    Wgt (w'.setCell ⟨b, 2, none⟩ v') (ownL v' ++ F) b tb own sums' best ∧ Kept F w (w'.setCell ⟨b, 2, none⟩ v') ∧ NewF w F (ownL v' ++ F) := by
  have := h.slp.stored (i := 1) rfl (Kept.of_below _ hb) (hw.mono (Nat.zero_le _)) (by rw [zv_length]; exact h0) (.inr (wide_owned hw (by rw [zv_length]; exact h0)))
  exact ⟨⟨_, v', _, this.1⟩, this.2⟩
theorem WgtS.best1 (h : WgtS w F b tb own sums best a1 a2 a3 c1 c2 c3 g1 g2 g3 o1 o2 o3) {v' : Value} {best' : List Int} (hb : Below w.heap.size w w') (hw : Wide 1 w' w.heap.size v' (zv best')) (h0 : 0 < best'.length) :
    Wgt (w'.setCell ⟨b, 3, none⟩ v') (ownL v' ++ F) b tb own sums best' ∧ Kept F w (w'.setCell ⟨b, 3, none⟩ v') ∧ NewF w F (ownL v' ++ F) := by
  have := h.slp.stored (i := 2) rfl (Kept.of_below _ hb) (hw.mono (Nat.zero_le _)) (by rw [zv_length]; exact h0) (.inr (wide_owned hw (by rw [zv_length]; exact h0)))
  exact ⟨⟨_, _, v', this.1⟩, this.2⟩
theorem WgtS.own2 (h : WgtS w F b tb own sums best a1 a2 a3 c1 c2 c3 g1 g2 g3 o1 o2 o3) {v' : Value} {own' : List Int} (hb : Below w.heap.size w w') (hw : Wide 1 w' w.heap.size v' (zv own')) (h0 : 0 < own'.length) :
    Wgt (w'.setCell ⟨b, 1, none⟩ v') (ownL v' ++ F) b tb own' sums best ∧ Kept F w (w'.setCell ⟨b, 1, none⟩ v') ∧ NewF w F (ownL v' ++ F) :=
  h.own1 (Kept.of_below _ hb) (hw.mono (Nat.zero_le _)) h0 (.inr (wide_owned hw (by rw [zv_length]; exact h0)))
/-- One of the sums is set; one of the best children. -/
theorem WgtS.setSum (h : WgtS w F b tb own sums best a1 a2 a3 c1 c2 c3 g1 g2 g3 o1 o2 o3) {j : Nat} (hj : j < sums.length) (x : Int) :
    Wgt (w.setCell ⟨g2, o2 + j, none⟩ (.int .i64 x)) F b tb own (sums.set j x) best ∧ Kept F w (w.setCell ⟨g2, o2 + j, none⟩ (.int .i64 x)) := by
  have ha := h.l2.addr (by rw [zv_length]; omega)
  subst ha
  have := h.slp.setAt (i := 1) (j := j) rfl (by rw [zv_length]; exact hj) (.int .i64 x)
  rw [zv_set] at this
  exact ⟨⟨_, _, _, this.1⟩, this.2⟩
theorem WgtS.setBest (h : WgtS w F b tb own sums best a1 a2 a3 c1 c2 c3 g1 g2 g3 o1 o2 o3) {j : Nat} (hj : j < best.length) (x : Int) :
    Wgt (w.setCell ⟨g3, o3 + j, none⟩ (.int .i64 x)) F b tb own sums (best.set j x) ∧ Kept F w (w.setCell ⟨g3, o3 + j, none⟩ (.int .i64 x)) := by
  have ha := h.l3.addr (by rw [zv_length]; omega)
  subst ha
  have := h.slp.setAt (i := 2) (j := j) rfl (by rw [zv_length]; exact hj) (.int .i64 x)
  rw [zv_set] at this
  exact ⟨⟨_, _, _, this.1⟩, this.2⟩
/-- The element at a place, in memory. -/
theorem lies_z {w : World} {ao : Option Addr} {g off j : Nat} {n : Int} {l : List Int} (h : Lies w w.heap.size ao g off (zv l)) (hx : l[j]? = some n) : ao = some ⟨g, off, none⟩ ∧ w.cell? ⟨g, off + j, none⟩ = some (.int .i64 n) := Lies.zv h (Below.refl _ _) hx
/-- What is set there may be. -/
theorem lies_free (h : WgtS w F b tb own sums best a1 a2 a3 c1 c2 c3 g1 g2 g3 o1 o2 o3) {j : Nat} (hj : j < sums.length) : w.frozen? ⟨g2, o2 + j, none⟩ = false := by
  obtain ⟨n', cap', g', off', ao', e, hw⟩ := h.slp.wide (1, .slice a2 sums.length c2, zv sums) (by simp [wItems])
  have ha := h.l2.addr (by rw [zv_length]; omega)
  injection e with e1 e2 e3
  have hc : 0 < cap' := by have := hw.le; omega
  have ha' := hw.addr hc
  rw [← e1, ha] at ha'
  injection ha' with ha'
  injection ha' with ha1 ha2
  subst ha1; subst ha2
  exact hw.free j (by have := hw.le; omega)
theorem lies_free3 (h : WgtS w F b tb own sums best a1 a2 a3 c1 c2 c3 g1 g2 g3 o1 o2 o3) {j : Nat} (hj : j < best.length) : w.frozen? ⟨g3, o3 + j, none⟩ = false := by
  obtain ⟨n', cap', g', off', ao', e, hw⟩ := h.slp.wide (1, .slice a3 best.length c3, zv best) (by simp [wItems])
  have ha := h.l3.addr (by rw [zv_length]; omega)
  injection e with e1 e2 e3
  have hc : 0 < cap' := by have := hw.le; omega
  have ha' := hw.addr hc
  rw [← e1, ha] at ha'
  injection ha' with ha'
  injection ha' with ha1 ha2
  subst ha1; subst ha2
  exact hw.free j (by have := hw.le; omega)
end
end Go.Proofs.Ytjodhagjfjgbcaa

/-
  good: whether a weight may be so great; together: whether all may be at once.
-/
namespace Go.Proofs.Ytjodhagjfjgbcaa
open Go Go.RowKit
set_option maxRecDepth 10000

theorem good_wt (w : World) (n : Int) : Calls Try.prog 61 #[.int .i64 n] w fun e w' => e = .returned (.bool (decide (okZ n))) ∧ w' = w := by
  go_enter Try.func61, Try.ntmps61
  by_cases h1 : 0 ≤ n
  · by_cases h2 : n < 4611686018427387904
    · go_wp2_with fail
      go_ret
      exact ⟨by rw [decide_eq_true (show okZ n from ⟨h1, h2⟩)]; rfl, rfl⟩
    · go_wp2_with fail
      go_ret
      exact ⟨by rw [decide_eq_false (show ¬ okZ n from fun hh => by have := hh.2; omega)]; rfl, rfl⟩
  · go_wp2_with fail
    go_ret
    exact ⟨by rw [decide_eq_false (show ¬ okZ n from fun hh => by have := hh.1; omega)]; rfl, rfl⟩

theorem totW_take {l : List Int} {k : Nat} {x : Int} (h : l[k]? = some x) : totW (l.take (k + 1)) = totW (l.take k) + x := by
  rw [List.take_add_one, h]
  exact totW_append _ _
theorem AllOk.take {l : List Int} (h : AllOk l) (k : Nat) : AllOk (l.take k) := fun x hx => h x (List.mem_of_mem_take hx)
theorem AllOk.tot_nonneg {l : List Int} (h : AllOk l) : 0 ≤ totW l := smZ_nonneg _ fun j _ => (h.owZ j).1
theorem AllOk.tot_take {l : List Int} (h : AllOk l) : ∀ (d k : Nat), l.length ≤ k + d → totW (l.take k) ≤ totW l
  | 0, k, hk => by rw [List.take_of_length_le (by omega)]; exact Int.le_refl _
  | d + 1, k, hk => by
    have ih := AllOk.tot_take h d (k + 1) (by omega)
    by_cases hkl : k < l.length
    · have hx := List.getElem?_eq_getElem hkl
      rw [totW_take hx] at ih
      have := (h _ (List.mem_of_getElem? hx)).1
      omega
    · rw [List.take_of_length_le (by omega)]; exact Int.le_refl _

set_option maxHeartbeats 4000000 in
theorem together_wt (w : World) (ao : Option Addr) (cap g off : Nat) (l : List Int) (hA : AllOk l) (hm : l.length ≤ 1000) (h : Lies w w.heap.size ao g off (zv l)) :
    Calls Try.prog 62 #[.slice ao l.length cap] w fun e w' => e = .returned (.bool (decide (totW l < 4611686018427387904))) ∧ w' = w := by
  have HL := Lib.hid h
  have HA := Lib.hid hA
  clear h hA
  go_enter Try.func62, Try.ntmps62
  go_wp2_with fail
  go_loopw [3, 8] (fun s i wr => ∃ k : Nat, k ≤ l.length ∧ i = .int .i64 k ∧ s = .int .i64 (totW (l.take k)) ∧ Hid (totW (l.take k) < 4611686018427387904) ∧ wr = w) (fun _ i _ => l.length - (intOf i).toNat)
  case atStart => exact ⟨0, Nat.zero_le _, rfl, rfl, Lib.hid (by rw [List.take_zero, totW_nil]; decide), rfl⟩
  case round =>
    obtain ⟨k, hk, rfl, rfl, HS, rfl⟩ := hrel
    by_cases hlt : k < l.length
    · obtain ⟨x, hx⟩ : ∃ x, l[k]? = some x := ⟨_, List.getElem?_eq_getElem hlt⟩
      obtain ⟨ha, e1⟩ := lies_z HL.out hx
      subst ha
      have hok := HA.out x (List.mem_of_getElem? hx)
      have hnn := (HA.out.take k).tot_nonneg
      have hs := HS.out
      have HT := Lib.hid (totW_take hx)
      have HM := Lib.hid (HA.out.tot_take (l.length) (k + 1) (by omega))
      obtain ⟨s, hse⟩ : ∃ s, s = totW (l.take k) := ⟨_, rfl⟩
      rw [← hse] at HT hs hnn ⊢
      have hadd : wrap64 (s + x) = s + x := by unfold wrap64; have := hok.1; have := hok.2; omega
      have HX := Lib.hid hok
      have HB := Lib.hid (And.intro hs hnn)
      have HWR := Lib.hid (show wrap64 ((k : Int) + 1) = ((k + 1 : Nat) : Int) by unfold wrap64; omega)
      clear hok hnn hs hse hx
      go_wp2_with fail
      refine (good_wt wr (s + x)).mono ?_
      rintro e w' ⟨rfl, hw'⟩
      have hw' := hw'.symm
      subst hw'
      by_cases h2 : s + x < 4611686018427387904
      · have hd : decide (okZ (s + x)) = true := decide_eq_true ⟨by have := HX.out.1; have := HB.out.2; omega, h2⟩
        rw [hd]
        go_wp2_with fail
        go_roundw
        case rel => exact ⟨k + 1, by omega, by first | (rw [HWR.out]) | rw [Int.natCast_succ], by rw [HT.out], Lib.hid (by rw [HT.out]; exact h2), by first | rfl | trivial⟩
        case measure => exact measK l.length k 1 _ (by first | exact HWR.out | rw [Int.natCast_succ]) hlt (by omega)
      · have hd : decide (okZ (s + x)) = false := decide_eq_false (fun hh => h2 hh.2)
        rw [hd]
        go_wp2_with fail
        go_ret
        exact ⟨by rw [decide_eq_false (show ¬ totW l < 4611686018427387904 by have := HM.out; rw [HT.out] at this; omega)]; rfl, rfl⟩
    · obtain rfl : k = l.length := by omega
      go_wp2_with fail
      go_ret
      have hs := HS.out
      rw [List.take_length] at hs
      exact ⟨by rw [decide_eq_true hs]; rfl, rfl⟩
end Go.Proofs.Ytjodhagjfjgbcaa
