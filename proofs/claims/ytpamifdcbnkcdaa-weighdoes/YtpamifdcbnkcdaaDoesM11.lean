/-
  The texts RWMem, RWNew, one behind the other.
-/
import Derived.Test.YtpamifdcbnkcdaaDoesM4
import Derived.Test.YtpamifdcbnkcdaaDoesM6
import Derived.Test.YtpamifdcbnkcdaaCWClone
import Derived.Test.YtpamifdcbnkcdaaDoesM10
import Derived.Test.YtpamifdcbnkcdaaDoesM1
import Derived.Test.YtpamifdcbnkcdaaDoesM3
/-
  The document's own weights (tollerref11) in memory: the tree's pointer, own weights, how many blocks are known.
-/
namespace Go.Proofs.Ytpamifdcbnkcdaa
open Go Go.RowKit
set_option maxRecDepth 10000

/-- The document's weights at block b, of its tree at block tb; so many are known. -/
def RWk (w : World) (F : List Nat) (b tb : Nat) (own : List Int) (known : Nat) : Prop := ∃ v, Slp w F b 48 [.pointer (some ⟨tb, 0, none⟩)] [(1, v, zv own)] [.int .i64 (known : Int)]
section
variable {w w' : World} {F G : List Nat} {b tb known : Nat} {own : List Int}
theorem RWk.keep (h : RWk w F b tb own known) (hk : Kept G w w') (hF : Away F G) : RWk w' F b tb own known := by
  obtain ⟨v, h⟩ := h
  exact ⟨v, h.keep hk hF⟩
theorem RWk.below (h : RWk w F b tb own known) (hb : Below w.heap.size w w') : RWk w' F b tb own known := h.keep (Kept.of_below [] hb) (fun _ _ hx => by cases hx)
theorem RWk.low (h : RWk w F b tb own known) : Low w F := by
  obtain ⟨v, h⟩ := h
  exact h.low
end
structure RWs (w : World) (F : List Nat) (b tb : Nat) (own : List Int) (known : Nat) (a1 : Option Addr) (c1 g1 o1 : Nat) : Prop where
  slp : Slp w F b 48 [.pointer (some ⟨tb, 0, none⟩)] [(1, .slice a1 own.length c1, zv own)] [.int .i64 (known : Int)]
  l1 : Lies w w.heap.size a1 g1 o1 (zv own)
theorem RWk.open {w : World} {F : List Nat} {b tb known : Nat} {own : List Int} (h : RWk w F b tb own known) : ∃ a1 c1 g1 o1, RWs w F b tb own known a1 c1 g1 o1 := by
  obtain ⟨v1, h⟩ := h
  have w1 := h.wide (1, v1, zv own) (by simp)
  obtain ⟨a1, n1, c1, g1, o1, rfl, e1, l1⟩ := w1.lies
  rw [zv_length] at e1
  obtain rfl : n1 = own.length := by omega
  exact ⟨a1, c1, g1, o1, h, l1⟩
section
variable {w w' : World} {F : List Nat} {b tb known : Nat} {own : List Int} {a1 : Option Addr} {c1 g1 o1 : Nat}
theorem RWs.rwk (h : RWs w F b tb own known a1 c1 g1 o1) : RWk w F b tb own known := ⟨_, h.slp⟩
theorem RWs.below (h : RWs w F b tb own known a1 c1 g1 o1) (hb : Below w.heap.size w w') : RWs w' F b tb own known a1 c1 g1 o1 := ⟨h.slp.below hb, h.l1.below hb⟩
theorem RWs.blk (h : RWs w F b tb own known a1 c1 g1 o1) : Blk w b 48 [.pointer (some ⟨tb, 0, none⟩), .slice a1 own.length c1, .int .i64 (known : Int)] := h.slp.blk
theorem RWs.cell0 (h : RWs w F b tb own known a1 c1 g1 o1) : w.cell? ⟨b, 0, none⟩ = some (.pointer (some ⟨tb, 0, none⟩)) := h.blk.cell 0
theorem RWs.cell1 (h : RWs w F b tb own known a1 c1 g1 o1) : w.cell? ⟨b, 1, none⟩ = some (.slice a1 own.length c1) := h.blk.cell 1
theorem RWs.cell2 (h : RWs w F b tb own known a1 c1 g1 o1) : w.cell? ⟨b, 2, none⟩ = some (.int .i64 (known : Int)) := h.blk.cell 2
theorem RWs.wide1 (h : RWs w F b tb own known a1 c1 g1 o1) : Wide 1 w 0 (.slice a1 own.length c1) (zv own) := h.slp.wide (1, _, zv own) (by simp)
theorem RWs.nb1 (h : RWs w F b tb own known a1 c1 g1 o1) : b ∉ ownL (.slice a1 own.length c1) := fun hx => h.slp.nb _ (show (1, _, zv own) ∈ _ by simp) (mem_ownL.1 hx)
theorem RWs.inF1 (h : RWs w F b tb own known a1 c1 g1 o1) : ∀ x ∈ ownL (.slice a1 own.length c1), x ∈ F := fun x hx => h.slp.inv (1, .slice a1 own.length c1, zv own) (by simp) x (mem_ownL.1 hx)
theorem RWs.own1 (h : RWs w F b tb own known a1 c1 g1 o1) {v' : Value} {own' : List Int} (hk : Kept (ownL (.slice a1 own.length c1)) w w') (hw : Wide 1 w' 0 v' (zv own')) (h0 : 0 < own'.length)
    (ho : v'.ownBlock = (Value.slice a1 own.length c1).ownBlock ∨ ∃ j, v'.ownBlock = some j ∧ w.heap.size ≤ j) :
    RWk (w'.setCell ⟨b, 1, none⟩ v') (ownL v' ++ F) b tb own' known ∧ Kept F w (w'.setCell ⟨b, 1, none⟩ v') ∧ NewF w F (ownL v' ++ F) := by
  have := h.slp.stored (i := 0) rfl hk hw (by rw [zv_length]; exact h0) ho
  exact ⟨⟨v', this.1⟩, this.2⟩
theorem RWs.own2 (h : RWs w F b tb own known a1 c1 g1 o1) {v' : Value} {own' : List Int} (hb : Below w.heap.size w w') (hw : Wide 1 w' w.heap.size v' (zv own')) (h0 : 0 < own'.length) :
    RWk (w'.setCell ⟨b, 1, none⟩ v') (ownL v' ++ F) b tb own' known ∧ Kept F w (w'.setCell ⟨b, 1, none⟩ v') ∧ NewF w F (ownL v' ++ F) :=
  h.own1 (Kept.of_below _ hb) (hw.mono (Nat.zero_le _)) h0 (.inr (wide_owned hw (by rw [zv_length]; exact h0)))
theorem RWs.know (h : RWs w F b tb own known a1 c1 g1 o1) (n : Nat) : RWk (w.setCell ⟨b, 2, none⟩ (.int .i64 (n : Int))) F b tb own n ∧ Kept F w (w.setCell ⟨b, 2, none⟩ (.int .i64 (n : Int))) := by
  have := h.slp.tailed 0 (.int .i64 (n : Int))
  exact ⟨⟨_, this.1⟩, this.2⟩
end
theorem rwk_start (w : World) (tb b g : Nat) (own : List Int) (cap : Nat) (hg : Wide 1 w 0 (.slice (some ⟨g, 0, none⟩) own.length cap) (zv own)) (hgl : g < w.heap.size) (hb : b = w.heap.size) (F : List Nat) (hF : F = [g, b]) (known : Nat) :
    RWk (w.alloc (.cells #[.pointer (some ⟨tb, 0, none⟩), .slice (some ⟨g, 0, none⟩) own.length cap, .int .i64 (known : Int)] 48)) F b tb own known := by
  subst hb; subst hF
  refine ⟨.slice (some ⟨g, 0, none⟩) own.length cap, ?_, fun x hx => ?_, fun x hx => ?_, ?_, by simp, fun x hx k hk => ?_, fun x hx => ?_⟩
  · exact Blk.new w 48 #[.pointer (some ⟨tb, 0, none⟩), .slice (some ⟨g, 0, none⟩) own.length cap, .int .i64 (known : Int)]
  · simp only [List.mem_cons, List.not_mem_nil, or_false] at hx
    subst hx
    exact hg.alloc _
  · simp only [List.mem_cons, List.not_mem_nil, or_false] at hx
    subst hx
    simp [Value.ownBlock]; omega
  · intro i j x y hij hx hy k hk
    have h1 := (List.getElem?_eq_some_iff.1 hx).1
    have h2 := (List.getElem?_eq_some_iff.1 hy).1
    simp at h1 h2
    omega
  · simp only [List.mem_cons, List.not_mem_nil, or_false] at hx
    subst hx
    simp [Value.ownBlock] at hk
    simp [hk]
  · simp at hx ⊢
    omega
end Go.Proofs.Ytpamifdcbnkcdaa

/-
  The document's own weights: New.
-/
namespace Go.Proofs.Ytpamifdcbnkcdaa
open Go Go.RowKit
set_option maxRecDepth 10000

set_option maxHeartbeats 4000000 in
theorem rwnew_any (w : World) (G : List Nat) (m : Nat) (t : List Nd) (most : Int) (hT : Ref w G m t most) :
    Calls Try.prog 38 #[.pointer (some ⟨m, 0, none⟩)] w fun e w' => ∃ F b, e = .returned (.pointer (some ⟨b, 0, none⟩)) ∧ RWk w' F b m (List.replicate t.length 0) t.length ∧ High w.heap.size F ∧ Below w.heap.size w w' := by
  obtain ⟨i0, hi0, hz0, hz1, hz2⟩ := info_parts Try.info3
  have htl : t.length ≤ 256 := by have := hT.1.room; have := hT.1.most256; omega
  have htp := hT.1.pos
  obtain ⟨a1, a2, a3, k1, k2, k3, g1, g2, g3, o1, o2, o3, h⟩ := hT.open
  have HH := Lib.hid h
  have hmk := fun W => run_makeSlice (P := Try.prog) W 43 3 i0 (.int .i64 0) Try.underlying43 hi0 hz0 .i64 .i64 (t.length : Int) (t.length : Int) (by omega) (by omega) (by rw [hz1]; simp; omega) (by rw [hz2]; omega) (by omega)
  simp only [hz1, Nat.mul_one, Int.toNat_natCast] at hmk
  have HMK := Lib.hid hmk
  clear h hmk hT
  go_enter Try.func38, Try.ntmps38
  go_upto_region 1 with fail
  refine wp_region_free (P := Try.prog) 12 (fun w' => Below w.heap.size w w') (fun oq v w' => match oq with
      | 0 => v = .pointer (some ⟨m, 0, none⟩)
      | 1 => v = .pointer (some ⟨m, 0, none⟩)
      | 2 => v = .pointer (some ⟨m, 0, none⟩)
      | 3 => v = .pointer (some ⟨m, 0, none⟩)
      | 4 => v = .slice a1 t.length k1
      | 5 => v = .int .i64 (t.length : Int)
      | 6 => ∃ g, v = .slice (some ⟨g, 0, none⟩) t.length t.length ∧ Blk w' g 3 (zv (List.replicate t.length 0)) ∧ w.heap.size ≤ g
      | 7 => v = .pointer (some ⟨m, 0, none⟩)
      | 8 => v = .pointer (some ⟨m, 0, none⟩)
      | 9 => v = .pointer (some ⟨m, 0, none⟩)
      | 10 => v = .slice a1 t.length k1
      | 11 => v = .int .i64 (t.length : Int)
      | _ => True) (by kernel_rfl) (by kernel_rfl) (Below.refl _ _).drew ?gb ?vb ?steps ?fin
  case gb => exact fun a b h1 h2 => h1.trans (h2.mono h1.size)
  case vb =>
    intro oq v a b h hb
    match oq with
    | 0 => exact h
    | 1 => exact h
    | 2 => exact h
    | 3 => exact h
    | 4 => exact h
    | 5 => exact h
    | 6 => obtain ⟨g, h1, h2, h3⟩ := h; exact ⟨g, h1, h2.below hb h2.lt, h3⟩
    | 7 => exact h
    | 8 => exact h
    | 9 => exact h
    | 10 => exact h
    | 11 => exact h
    | _ + 12 => trivial
  case steps =>
    intro vals
    simp only [List.take_succ_cons, List.take_zero, freeSteps, Act.put, List.setIfInBounds_toArray, List.set_cons_zero, List.set_cons_succ, Nat.reduceAdd]
    refine ⟨fun w8 hG hW => ?_, fun w8 hG hW => ?_, fun w8 hG hW => ?_, fun w8 hG hW => ?_, fun w8 hG hW => ?_, fun w8 hG hW => ?_, fun w8 hG hW => ?_, fun w8 hG hW => ?_, fun w8 hG hW => ?_, fun w8 hG hW => ?_, fun w8 hG hW => ?_, fun w8 hG hW => ?_, trivial⟩
    · clear hW
      refine stepAt_value rfl rfl rfl (.pointer (some ⟨m, 0, none⟩)) w8 ?_ ⟨rfl, Below.refl _ _⟩
      go_simp
    · clear hW
      refine stepAt_value rfl rfl rfl (.pointer (some ⟨m, 0, none⟩)) w8 ?_ ⟨rfl, Below.refl _ _⟩
      go_simp
    · have q1 := hW 1 (by decide)
      simp only at q1
      rw [q1]
      clear hW
      refine stepAt_value rfl rfl rfl (.pointer (some ⟨m, 0, none⟩)) w8 ?_ ⟨rfl, Below.refl _ _⟩
      go_simp
    · have q2 := hW 2 (by decide)
      simp only at q2
      rw [q2]
      clear hW
      refine stepAt_value rfl rfl rfl (.pointer (some ⟨m, 0, none⟩)) w8 ?_ ⟨rfl, Below.refl _ _⟩
      go_simp
    · have q3 := hW 3 (by decide)
      simp only at q3
      rw [q3]
      clear hW
      have cc := (HH.out.below hG).cell0
      refine stepAt_value rfl rfl rfl (.slice a1 t.length k1) w8 ?_ ⟨rfl, Below.refl _ _⟩
      go_simp
    · have q4 := hW 4 (by decide)
      simp only at q4
      rw [q4]
      clear hW
      refine stepAt_value rfl rfl rfl (.int .i64 (t.length : Int)) w8 ?_ ⟨rfl, Below.refl _ _⟩
      go_simp
    · have q5 := hW 5 (by decide)
      simp only at q5
      rw [q5]
      clear hW
      have hmk := HMK.out w8
      refine stepAt_value rfl rfl rfl (.slice (some ⟨w8.heap.size, 0, none⟩) t.length t.length) (w8.alloc (.cells (madeCells #[.int .i64 0] t.length) 3)) (by go_simp) ⟨⟨w8.heap.size, rfl, by rw [← made_zeros]; exact Blk.new w8 3 _, hG.size⟩, (Below.refl _ _).alloc (Nat.le_refl _) _⟩
    · clear hW
      refine stepAt_value rfl rfl rfl (.pointer (some ⟨m, 0, none⟩)) w8 ?_ ⟨rfl, Below.refl _ _⟩
      go_simp
    · have q7 := hW 7 (by decide)
      simp only at q7
      rw [q7]
      clear hW
      refine stepAt_value rfl rfl rfl (.pointer (some ⟨m, 0, none⟩)) w8 ?_ ⟨rfl, Below.refl _ _⟩
      go_simp
    · have q8 := hW 8 (by decide)
      simp only at q8
      rw [q8]
      clear hW
      refine stepAt_value rfl rfl rfl (.pointer (some ⟨m, 0, none⟩)) w8 ?_ ⟨rfl, Below.refl _ _⟩
      go_simp
    · have q9 := hW 9 (by decide)
      simp only at q9
      rw [q9]
      clear hW
      have cc := (HH.out.below hG).cell0
      refine stepAt_value rfl rfl rfl (.slice a1 t.length k1) w8 ?_ ⟨rfl, Below.refl _ _⟩
      go_simp
    · have q10 := hW 10 (by decide)
      simp only at q10
      rw [q10]
      clear hW
      refine stepAt_value rfl rfl rfl (.int .i64 (t.length : Int)) w8 ?_ ⟨rfl, Below.refl _ _⟩
      go_simp
  case fin =>
    intro vals w9 hB hV
    have q0 := hV 0 (by omega)
    have q11 := hV 11 (by omega)
    obtain ⟨g, q6, hg, hgl⟩ := hV 6 (by omega)
    simp only at q0 q11
    simp only [List.take_succ_cons, List.take_zero, List.drop_succ_cons, List.drop_zero, putAll, Act.put, List.setIfInBounds_toArray, List.set_cons_zero, List.set_cons_succ, Nat.reduceAdd]
    rw [q0, q6, q11]
    clear hV q0 q6 q11
    have hw := hg.wide 0 (Nat.zero_le _) (by rw [List.length_replicate]; omega)
    rw [List.length_replicate] at hw
    have HS := Lib.hid (rwk_start w9 m w9.heap.size g (List.replicate t.length 0) t.length (by rw [List.length_replicate]; exact hw) hg.lt rfl [g, w9.heap.size] rfl t.length)
    rw [List.length_replicate] at HS
    have HB := Lib.hid (hB.alloc hB.size (.cells #[.pointer (some ⟨m, 0, none⟩), .slice (some ⟨g, 0, none⟩) t.length t.length, .int .i64 (t.length : Int)] 48))
    have HHI := Lib.hid (show High w.heap.size [g, w9.heap.size] from fun x hx => by have := hB.size; simp at hx; omega)
    clear hg hgl hw hB
    generalize vals 1 = y1
    generalize vals 2 = y2
    generalize vals 3 = y3
    generalize vals 4 = y4
    generalize vals 5 = y5
    generalize vals 7 = y7
    generalize vals 8 = y8
    generalize vals 9 = y9
    generalize vals 10 = y10
    go_wp2_with fail
    go_ret
    exact ⟨_, _, rfl, HS.out, HHI.out, HB.out⟩
end Go.Proofs.Ytpamifdcbnkcdaa
