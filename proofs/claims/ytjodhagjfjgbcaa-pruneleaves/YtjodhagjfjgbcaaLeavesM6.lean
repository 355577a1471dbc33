/-
  The texts Tre, TPut, TAdd, one behind the other.
-/
import Derived.Test.YtjodhagjfjgbcaaCTKey
import Derived.Test.YtjodhagjfjgbcaaLeavesM2
import Derived.Deep.QuietTactic
import Derived.BigQuiet
import Derived.Deep.Cut
import Derived.Test.YtjodhagjfjgbcaaLeavesM4
import Derived.Test.YtjodhagjfjgbcaaLeavesM1
/-
  The program's tree in memory: its blocks in a slice, their places in a map; what each of its calls that only read answers.
-/
namespace Go.Proofs.Ytjodhagjfjgbcaa
open Go.RowKit
set_option maxRecDepth 10000

structure TreM (w : World) (F : List Nat) (b m : Nat) (v : Value) (t tm : List Nd) (most : Int) : Prop where
  nds : Nds t
  blk : Blk w b 87 [v, .map (some m), .int .i64 most]
  wide : Wide 34 w 0 v (nv t)
  map : ∃ D : DataW Unit, w.ownsMap Try.prog 24 (plainElem Try.prog 3) m tm.length D ∧ Says D tm
  vb : v.ownBlock ≠ some b
  vm : v.ownBlock ≠ some m
  bm : b ≠ m
  inb : b ∈ F
  inm : m ∈ F
  inv : ∀ j, v.ownBlock = some j → j ∈ F
  low : Low w F
abbrev TreR (w : World) (F : List Nat) (b m : Nat) (v : Value) (t : List Nd) (most : Int) : Prop := TreM w F b m v t t most
/-- The tree at block b is this one; F: the blocks that are its own. -/
def Tre (w : World) (F : List Nat) (b : Nat) (t : List Nd) (most : Int) : Prop := Good t most ∧ ∃ m v, TreR w F b m v t most

theorem TreM.keep {w w' : World} {F G : List Nat} {b m : Nat} {v : Value} {t tm : List Nd} {most : Int} (h : TreM w F b m v t tm most) (hk : Kept G w w') (hF : Away F G) : TreM w' F b m v t tm most := by
  obtain ⟨D, hD, hS⟩ := h.map
  refine ⟨h.nds, h.blk.kept hk (hF b h.inb), h.wide.kept hk (fun j hj => hF j (h.inv j hj)), ⟨D, ?_, hS⟩, h.vb, h.vm, h.bm, h.inb, h.inm, h.inv, h.low.keep hk.size⟩
  obtain ⟨es, clock, hb, Fi, hs, hDD⟩ := hD
  exact ⟨es, clock, (hk.block m (h.low m h.inm) (hF m h.inm)).trans hb, Fi, hs, hDD⟩
theorem Tre.keep {w w' : World} {F G : List Nat} {b : Nat} {t : List Nd} {most : Int} (h : Tre w F b t most) (hk : Kept G w w') (hF : Away F G) : Tre w' F b t most := by
  obtain ⟨G0, m, v, h⟩ := h
  exact ⟨G0, m, v, h.keep hk hF⟩
theorem TreM.below {w w' : World} {F : List Nat} {b m : Nat} {v : Value} {t tm : List Nd} {most : Int} (h : TreM w F b m v t tm most) (hb : Below w.heap.size w w') : TreM w' F b m v t tm most := h.keep (Kept.of_below [] hb) (fun _ _ hx => by cases hx)
theorem Tre.below {w w' : World} {F : List Nat} {b : Nat} {t : List Nd} {most : Int} (h : Tre w F b t most) (hb : Below w.heap.size w w') : Tre w' F b t most := h.keep (Kept.of_below [] hb) (fun _ _ hx => by cases hx)
theorem Tre.low {w : World} {F : List Nat} {b : Nat} {t : List Nd} {most : Int} (h : Tre w F b t most) : Low w F := by
  obtain ⟨_, m, v, h⟩ := h
  exact h.low

/-- A look-up in the map of places. -/
theorem look_yes {w : World} {m n : Nat} {D : DataW Unit} {t : List Nd} (h : w.ownsMap Try.prog 24 (plainElem Try.prog 3) m n D) (hS : Says D t) {r : List UInt8} (hr : r.length = 32) (hm : r ∈ rs t) :
    (Instr.lookup 85 (.map (some m)) (.agg (bv r).toArray) true).run Try.prog w = .ok (.tuple #[.int .i64 (plc t r), .bool true]) w := by
  obtain ⟨v, ps, hrun, hv⟩ := h.look_ok Try.keyed Try.underlying85 (Try.zeroInt w) (plainElem_int Try.underlying3 (by decide)) (key_root hr)
  obtain ⟨c, rfl, hc, _⟩ := plainElem_int_inv Try.underlying3 hv
  rw [hS.at' r hr hm] at hc
  simp only [Prod.mk.injEq, DataW.lit.injEq, Lit.int.injEq, true_and] at hc
  rw [hrun, hS.has r hr, ← hc.1]
  simp [hm]
theorem look_no {w : World} {m n : Nat} {D : DataW Unit} {t : List Nd} (h : w.ownsMap Try.prog 24 (plainElem Try.prog 3) m n D) (hS : Says D t) {r : List UInt8} (hr : r.length = 32) (hm : r ∉ rs t) :
    (Instr.lookup 85 (.map (some m)) (.agg (bv r).toArray) true).run Try.prog w = .ok (.tuple #[.int .i64 0, .bool false]) w := by
  obtain ⟨v, ps, hrun, hv⟩ := h.look_ok Try.keyed Try.underlying85 (Try.zeroInt w) (plainElem_int Try.underlying3 (by decide)) (key_root hr)
  obtain ⟨c, rfl, hc, _⟩ := plainElem_int_inv Try.underlying3 hv
  have hh := hS.has r hr
  rw [decide_eq_false hm] at hh
  rw [Go.Maps.atKey_of_not_has hh] at hc
  simp only [Prod.mk.injEq, DataW.lit.injEq, Lit.int.injEq, true_and] at hc
  rw [hrun, hh, ← hc.1]

theorem place_any (w : World) (F : List Nat) (b : Nat) (t : List Nd) (most : Int) (r : List UInt8) (h : Tre w F b t most) (hr : r.length = 32) :
    Calls Try.prog 23 #[.pointer (some ⟨b, 0, none⟩), .agg (bv r).toArray] w fun e w' => e = .returned (.int .i64 (plc t r)) ∧ Below w.heap.size w w' := by
  obtain ⟨G0, m, v, h⟩ := h
  have hb1 : Below w.heap.size w (w.alloc (.cells (bv r).toArray 24)) := (Below.refl _ w).alloc (Nat.le_refl _) _
  have h1 := h.below hb1
  have hx := Blk.new w 24 (bv r).toArray
  obtain ⟨X, hX⟩ : ∃ X, X = w.heap.size := ⟨_, rfl⟩
  rw [List.toList_toArray, ← hX] at hx
  have HX := Lib.hid hx
  have H1 := Lib.hid h1
  have HB := Lib.hid hb1
  have HXe := Lib.hid hX
  clear h h1 hx
  go_enter Try.func23, Try.ntmps23
  go_upto_region 3 with fail
  rw [← HXe.out]
  generalize w.alloc (.cells (bv r).toArray 24) = w1 at H1 HX HB ⊢
  clear hX hb1
  have c1 := H1.out.blk.cell 1
  have HLD := Lib.hid (show ∀ w', (∃ nq, w' = w1.drewN nq) → ∀ j v, (bv r)[j]? = some v → w'.cell? ⟨X, 0 + j, none⟩ = some v by
    rintro w' ⟨nq, rfl⟩
    exact (HX.out.drewN nq).rootAll)
  obtain ⟨D, hD, hS⟩ := H1.out.map
  by_cases hm : r ∈ rs t
  · have hlk := fun nq => look_yes (w := w1.drewN nq) hD hS hr hm
    refine wp_region_quiet_lit (by kernel_rfl) (by kernel_rfl) ?_
    repeat (first | ((with_reducible refine wpQuiet_load_name (.tmp 3) ?_ ?_ X 0 r ?_ hr HLD.out ?_); rfl; rfl; rfl; simp only [Act.put, List.setIfInBounds_toArray, List.set_cons_zero, List.set_cons_succ]) | go_big_quiet_step (fail))
    refine wpQuiet_nil ?_
    rintro _ ⟨nq, rfl⟩
    go_wp2_with fail
    go_ret
    exact ⟨rfl, below_dN HB.out _⟩
  · have hlk := fun nq => look_no (w := w1.drewN nq) hD hS hr hm
    have HP := Lib.hid (plc_none hm)
    refine wp_region_quiet_lit (by kernel_rfl) (by kernel_rfl) ?_
    repeat (first | ((with_reducible refine wpQuiet_load_name (.tmp 3) ?_ ?_ X 0 r ?_ hr HLD.out ?_); rfl; rfl; rfl; simp only [Act.put, List.setIfInBounds_toArray, List.set_cons_zero, List.set_cons_succ]) | go_big_quiet_step (fail))
    refine wpQuiet_nil ?_
    rintro _ ⟨nq, rfl⟩
    go_wp2_with fail
    go_ret
    exact ⟨by rw [HP.out]; rfl, below_dN HB.out _⟩

theorem place_nil (w : World) (r : List UInt8) :
    Calls Try.prog 23 #[.pointer none, .agg (bv r).toArray] w fun e w' => e = .returned (.int .i64 (-1)) ∧ Below w.heap.size w w' := by
  have HB := Lib.hid (show Below w.heap.size w (w.alloc (.cells (bv r).toArray 24)) from (Below.refl _ w).alloc (Nat.le_refl _) _)
  go_enter Try.func23, Try.ntmps23
  go_wp2_with fail
  go_ret
  exact ⟨rfl, HB.out⟩

theorem Tre.slice {w : World} {F : List Nat} {b : Nat} {t : List Nd} {most : Int} (h : Tre w F b t most) : ∃ m ao cap bb off, TreR w F b m (.slice ao t.length cap) t most ∧ Lies w w.heap.size ao bb off (nv t) := by
  obtain ⟨G, m, v, h⟩ := h
  obtain ⟨ao, n, cap, bb, off, rfl, hn, hl⟩ := h.wide.lies
  rw [nv_length t h.nds] at hn
  obtain rfl : t.length = n := by omega
  exact ⟨m, ao, cap, bb, off, h, hl⟩

theorem len_any (w : World) (F : List Nat) (b : Nat) (t : List Nd) (most : Int) (h : Tre w F b t most) :
    Calls Try.prog 27 #[.pointer (some ⟨b, 0, none⟩)] w fun e w' => e = .returned (.int .i64 (t.length : Int)) ∧ w' = w := by
  obtain ⟨m, ao, cap, bb, off, h, _⟩ := h.slice
  have c0 := h.blk.cell 0
  clear h
  go_enter Try.func27, Try.ntmps27
  go_wp2_with fail
  go_ret
  exact ⟨rfl, rfl⟩
theorem len_nil (w : World) :
    Calls Try.prog 27 #[.pointer none] w fun e w' => e = .returned (.int .i64 0) ∧ w' = w := by
  go_enter Try.func27, Try.ntmps27
  go_wp2_with fail
  go_ret
  exact ⟨rfl, rfl⟩
theorem room_any (w : World) (F : List Nat) (b : Nat) (t : List Nd) (most : Int) (h : Tre w F b t most) :
    Calls Try.prog 16 #[.pointer (some ⟨b, 0, none⟩)] w fun e w' => e = .returned (.int .i64 (most - (t.length : Int))) ∧ ∃ n, w' = w.drewN n := by
  have g1 := h.1.most1
  have g2 := h.1.most256
  have g3 := h.1.room
  obtain ⟨m, ao, cap, bb, off, h, _⟩ := h.slice
  have c0 := h.blk.cell 0
  have c2 := h.blk.cell 2
  have HW := Lib.hid (show wrap64 (most - (t.length : Int)) = most - (t.length : Int) by unfold wrap64; omega)
  clear h
  go_enter Try.func16, Try.ntmps16
  go_wp2_with fail
  go_quiet (fail)
  go_wp2_with fail
  go_ret
  exact ⟨by first | rfl | (rw [← HW.out]; rfl), _, rfl⟩
theorem room_nil (w : World) :
    Calls Try.prog 16 #[.pointer none] w fun e w' => e = .returned (.int .i64 0) ∧ w' = w := by
  go_enter Try.func16, Try.ntmps16
  go_wp2_with fail
  go_ret
  exact ⟨rfl, rfl⟩

/-- What Node answers: the block, or none. -/
def nodeOr (t : List Nd) (i : Int) : Nd := (nodeAt t i).getD (zero32, 0, -1)
theorem Nds.nodeOr {t : List Nd} (h : Nds t) (i : Int) : (nodeOr t i).1.length = 32 := by
  unfold Go.Proofs.Ytjodhagjfjgbcaa.nodeOr
  cases hn : nodeAt t i with
  | none => simp [zero32]
  | some n => obtain ⟨k, _, hk⟩ := nodeAt_some hn; exact h n (List.mem_of_getElem? hk)
theorem zero_cells : (ndv nd0) = [.int .u8 0, .int .u8 0, .int .u8 0, .int .u8 0, .int .u8 0, .int .u8 0, .int .u8 0, .int .u8 0, .int .u8 0, .int .u8 0, .int .u8 0, .int .u8 0, .int .u8 0, .int .u8 0, .int .u8 0, .int .u8 0, .int .u8 0, .int .u8 0, .int .u8 0, .int .u8 0, .int .u8 0, .int .u8 0, .int .u8 0, .int .u8 0, .int .u8 0, .int .u8 0, .int .u8 0, .int .u8 0, .int .u8 0, .int .u8 0, .int .u8 0, .int .u8 0, .int .i64 0, .int .i64 0] := rfl

theorem node_any (w : World) (F : List Nat) (b : Nat) (t : List Nd) (most : Int) (i : Int) (h : Tre w F b t most) :
    Calls Try.prog 19 #[.pointer (some ⟨b, 0, none⟩), .int .i64 i] w fun e w' => e = .returned (.tuple #[.agg (ndv (nodeOr t i)).toArray, .bool (nodeAt t i).isSome]) ∧ Below w.heap.size w w' := by
  have HB := Lib.hid (show Below w.heap.size w (w.alloc (.cells (ndv nd0).toArray 51)) from (Below.refl _ w).alloc (Nat.le_refl _) _)
  have h1 := h.below HB.out
  have hx := Blk.new w 51 (ndv nd0).toArray
  obtain ⟨X, hX⟩ : ∃ X, X = w.heap.size := ⟨_, rfl⟩
  rw [List.toList_toArray, ← hX] at hx
  have HX := Lib.hid hx
  have H1 := Lib.hid h1
  have HXe := Lib.hid hX
  clear h h1 hx
  go_enter Try.func19, Try.ntmps19
  go_upto_region 1 with fail
  rw [← HXe.out]
  rw [zero_cells] at H1 HX HB
  generalize w.alloc (.cells _ 51) = w1 at H1 HX HB ⊢
  rw [← zero_cells] at HX
  clear hX
  by_cases hi : 0 ≤ i ∧ i < (t.length : Int)
  · obtain ⟨k, rfl⟩ : ∃ k : Nat, i = (k : Int) := ⟨i.toNat, by omega⟩
    have hk : k < t.length := by omega
    have hn : t[k]? = some t[k] := List.getElem?_eq_getElem hk
    obtain ⟨n, hnn⟩ : ∃ n, n = t[k] := ⟨_, rfl⟩
    rw [← hnn] at hn
    have HNA := Lib.hid (show nodeAt t (k : Int) = some n by rw [nodeAt_nat]; exact hn)
    have HLE := Lib.hid (len_any w1 F b t most H1.out)
    obtain ⟨m, ao, cap, bb, off, hR, hl⟩ := H1.out.slice
    have ha := hl.node_addr hR.nds hn
    have HC := Lib.hid (hl.node hR.nds hn)
    have HNL := Lib.hid (hR.nds n (List.mem_of_getElem? hn))
    have HXL := Lib.hid (show nd0.1.length = 32 by simp [nd0, zero32])
    subst ha
    have c0 := hR.blk.cell 0
    have d1 : ¬ ((t.length : Int) ≤ (k : Int)) := by omega
    have HR := Lib.hid hR
    clear hR hl hn hnn hi
    go_wp2_with (first
      | (go_at_call 27; refine HLE.out.mono ?_; rintro e w' ⟨rfl, rfl⟩)
      | ((with_reducible refine wpList_load_node (.tmp 20) ?_ ?_ bb (off + k * 34) n ?_ HNL.out HC.out ?_); rfl; rfl; rfl)
      | ((with_reducible refine wpList_store_node (.tmp 4) (.tmp 21) ?_ ?_ X nd0 n ?_ ?_ HX.out HXL.out HNL.out ?_); rfl; rfl; rfl; rfl))
    refine ret_node rfl rfl (HX.out.setRow (ndv n)) HNL.out rfl ?_
    exact ⟨by rw [nodeOr, HNA.out]; rfl, below_row HB.out (by rw [HXe.out]; exact Nat.le_refl _) _⟩
  · have HNA := Lib.hid (show nodeAt t i = none by
      by_cases h0 : i < 0
      · exact nodeAt_neg h0
      · obtain ⟨k, rfl⟩ : ∃ k : Nat, i = (k : Int) := ⟨i.toNat, by omega⟩
        rw [nodeAt_nat]
        exact List.getElem?_eq_none (by omega))
    have HLE := Lib.hid (len_any w1 F b t most H1.out)
    have HBU := Lib.hid (built_none (-1))
    have HXL := Lib.hid (show nd0.1.length = 32 by simp [nd0, zero32])
    have HNL := Lib.hid (show ((zero32, 0, -1) : Nd).1.length = 32 by simp [zero32])
    by_cases h0 : i < 0
    · clear hi
      go_wp2_with (first
        | ((with_reducible refine wpList_build_any 51 _ ?_ ?_ _ HBU.out ?_); rfl; rfl)
        | ((with_reducible refine wpList_store_node (.tmp 4) (.tmp 14) ?_ ?_ X nd0 (zero32, 0, -1) ?_ ?_ HX.out HXL.out HNL.out ?_); rfl; rfl; rfl; rfl))
      refine ret_node rfl rfl (HX.out.setRow (ndv (zero32, 0, -1))) HNL.out rfl ?_
      exact ⟨by rw [nodeOr, HNA.out]; rfl, below_row HB.out (by rw [HXe.out]; exact Nat.le_refl _) _⟩
    · have d1 : (t.length : Int) ≤ i := by omega
      clear hi
      go_wp2_with (first
        | (go_at_call 27; refine HLE.out.mono ?_; rintro e w' ⟨rfl, rfl⟩)
        | ((with_reducible refine wpList_build_any 51 _ ?_ ?_ _ HBU.out ?_); rfl; rfl)
        | ((with_reducible refine wpList_store_node (.tmp 4) (.tmp 14) ?_ ?_ X nd0 (zero32, 0, -1) ?_ ?_ HX.out HXL.out HNL.out ?_); rfl; rfl; rfl; rfl))
      refine ret_node rfl rfl (HX.out.setRow (ndv (zero32, 0, -1))) HNL.out rfl ?_
      exact ⟨by rw [nodeOr, HNA.out]; rfl, below_row HB.out (by rw [HXe.out]; exact Nat.le_refl _) _⟩
end Go.Proofs.Ytjodhagjfjgbcaa

/-
  The program's put (a block laid behind all others), New and Add.
-/
namespace Go.Proofs.Ytjodhagjfjgbcaa
open Go.RowKit
set_option maxRecDepth 10000

/-- What the store of the new slice leaves. -/
theorem TreM.stored {w w' : World} {F : List Nat} {b m : Nat} {v v' : Value} {t tm : List Nd} {most : Int} {n : Nd} (h : TreM w F b m v t tm most) (hk : Kept (ownL v) w w') (hw : Wide 34 w' 0 v' (nv t ++ ndv n)) (hl : n.1.length = 32)
    (ho : v'.ownBlock = v.ownBlock ∨ ∃ j, v'.ownBlock = some j ∧ w.heap.size ≤ j) :
    TreM (w'.setCell ⟨b, 0, none⟩ v') (ownL v' ++ F) b m v' (t ++ [n]) tm most ∧ Kept F w (w'.setCell ⟨b, 0, none⟩ v') ∧ NewF w F (ownL v' ++ F) := by
  have hF : ∀ x ∈ ownL v, x ∈ F := fun x hx => h.inv x (mem_ownL.1 hx)
  have hbv : b ∉ ownL v := fun hx => h.vb (mem_ownL.1 hx)
  have hmv : m ∉ ownL v := fun hx => h.vm (mem_ownL.1 hx)
  have hbl := h.low b h.inb
  have hml := h.low m h.inm
  have hb' : v'.ownBlock ≠ some b := fun e => by
    rcases ho with h1 | ⟨j, h1, h2⟩
    · exact h.vb (h1.symm.trans e)
    · rw [h1] at e; cases e; omega
  have hm' : v'.ownBlock ≠ some m := fun e => by
    rcases ho with h1 | ⟨j, h1, h2⟩
    · exact h.vm (h1.symm.trans e)
    · rw [h1] at e; cases e; omega
  have hk2 : Kept [b] w' (w'.setCell ⟨b, 0, none⟩ v') := (Kept.refl _ _).setCell _ _ (.inl (by simp))
  have hk1 : Kept F w w' := hk.mono hF
  have hnew : NewF w F (ownL v' ++ F) := fun x hx => by
    rcases List.mem_append.1 hx with hx | hx
    · rcases ho with h1 | ⟨j, h1, h2⟩
      · exact .inl (h.inv x (h1 ▸ mem_ownL.1 hx))
      · rw [mem_ownL, h1] at hx; cases hx; exact .inr h2
    · exact .inl hx
  have hx0 : 0 < (nv t ++ ndv n).length := by rw [List.length_append, ndv_length hl]; omega
  obtain ⟨D, hD, hS⟩ := h.map
  refine ⟨⟨fun x hx => ?_, ((h.blk.kept hk hbv).set 0 v'), ?_, ⟨D, ?_, hS⟩, hb', hm', h.bm, List.mem_append_right _ h.inb, List.mem_append_right _ h.inm, fun j hj => List.mem_append_left _ (mem_ownL.2 hj), fun x hx => ?_⟩,
    hk1.setCell _ _ (.inl h.inb), hnew⟩
  · rcases List.mem_append.1 hx with hx | hx
    · exact h.nds x hx
    · simp at hx; rw [hx]; exact hl
  · rw [nv_append, nv_sole]
    exact hw.kept hk2 (fun j hj hx => by simp at hx; subst hx; exact hb' hj)
  · have hkk : Kept [b] w (w'.setCell ⟨b, 0, none⟩ v') → True := fun _ => trivial
    obtain ⟨es, clock, hb, Fi, hs, hDD⟩ := hD
    exact ⟨es, clock, (hk2.block m (Nat.lt_of_lt_of_le hml hk.size) (by simp; exact fun e => h.bm e.symm)).trans ((hk.block m hml hmv).trans hb), Fi, hs, hDD⟩
  · rcases List.mem_append.1 hx with hx | hx
    · have := hw.ownLt hx0 x (mem_ownL.1 hx)
      simp [World.setCell]; exact this
    · have := h.low x hx
      have := hk.size
      simp [World.setCell]; omega

theorem TreM.mapped {w w' : World} {F : List Nat} {b m : Nat} {v : Value} {t : List Nd} {most : Int} {n : Nd} (h : TreR w F b m v t most) {D : DataW Unit} (hD : w'.ownsMap Try.prog 24 (plainElem Try.prog 3) m (t.length + 1) D) (hS : Says D (t ++ [n])) (hg : w.grownBy w' (some m)) :
    TreM w' F b m v t (t ++ [n]) most := by
  have hk : Kept [m] w w' := Kept.of_grown _ hg (fun k hk => by cases hk; simp)
  exact ⟨h.nds, h.blk.kept hk (by simp; exact h.bm), h.wide.kept hk (fun j hj hx => by simp at hx; subst hx; exact h.vm hj), ⟨D, by simpa using hD, hS⟩, h.vb, h.vm, h.bm, h.inb, h.inm, h.inv, h.low.keep hk.size⟩

set_option maxHeartbeats 4000000 in
theorem put_any (w : World) (F : List Nat) (b m : Nat) (v : Value) (t : List Nd) (most : Int) (n : Nd) (h : TreR w F b m v t most) (hn : n.1 ∉ rs t) (hl : n.1.length = 32) (ht : t.length ≤ 1000) :
    Calls Try.prog 49 #[.pointer (some ⟨b, 0, none⟩), .agg (ndv n).toArray] w fun e w' => e = .returned (.tuple #[]) ∧ ∃ F' v', TreR w' F' b m v' (t ++ [n]) most ∧ Kept F w w' ∧ NewF w F F' := by
  obtain ⟨i0, hi0, hz0, hz1, hz2⟩ := info_parts Try.infoNode
  have hzc : (Value.agg (ndv nd0).toArray).cells.size = 34 := by simp [Value.cells, ndv_length, nd0, zero32]
  have hb1 : Below w.heap.size w (w.alloc (.cells (ndv n).toArray 51)) := (Below.refl _ w).alloc (Nat.le_refl _) _
  have hx := Blk.new w 51 (ndv n).toArray
  obtain ⟨X, hX⟩ : ∃ X, X = w.heap.size := ⟨_, rfl⟩
  rw [List.toList_toArray, ← hX] at hx
  have HX := Lib.hid hx
  have H1 := Lib.hid (h.below hb1)
  have HB := Lib.hid hb1
  have HXe := Lib.hid hX
  have HLow := Lib.hid h.low
  have HN := Lib.hid hn
  have HL := Lib.hid hl
  clear h hx hn
  go_enter Try.func49, Try.ntmps49
  go_upto_region 1 with fail
  rw [← HXe.out]
  generalize w.alloc (.cells (ndv n).toArray 51) = w1 at H1 HX HB ⊢
  clear hX hb1
  obtain ⟨ao, n0, cap, bb, off, e0, hn0, hl0⟩ := H1.out.wide.lies
  subst e0
  rw [nv_length t H1.out.nds] at hn0
  obtain rfl : t.length = n0 := by omega
  have c0 := H1.out.blk.cell 0
  have c1 := H1.out.blk.cell 1
  have HLD := Lib.hid (show ∀ w', (∃ nq, w' = w1.drewN nq) → ∀ j v, (bv n.1)[j]? = some v → w'.cell? ⟨X, 0 + j, none⟩ = some v by
    rintro w' ⟨nq, rfl⟩
    exact (HX.out.drewN nq).nodeName)
  refine wp_region_draws_tail 11 (by kernel_rfl) (by kernel_rfl) ?_
  simp only [List.take_succ_cons, List.take_zero, List.drop_succ_cons, List.drop_zero]
  repeat (first | ((with_reducible refine wpQuiet_load_name (.tmp 8) ?_ ?_ X 0 n.1 ?_ hl HLD.out ?_); rfl; rfl; rfl; simp only [Act.put, List.setIfInBounds_toArray, List.set_cons_zero, List.set_cons_succ]) | go_big_quiet_step (fail))
  refine wpQuiet_nil ?_
  rintro _ ⟨nq, rfl⟩
  have H2 := Lib.hid (H1.out.below (below_dN (Below.refl _ _) nq))
  have HB2 := Lib.hid (below_dN HB.out nq)
  have HX2 := Lib.hid (HX.out.drewN nq)
  generalize w1.drewN nq = w2 at H2 HB2 HX2 ⊢
  clear c0 c1 HLD H1 HB HX hl0
  obtain ⟨D, hD, hS⟩ := H2.out.map
  have HD := Lib.hid hD
  have HS := Lib.hid hS
  clear hD hS
  refine wpList_mapUpdate_own _ rfl _ _ _ 85 rfl 24 3 Try.keyed Try.underlying85 _ m t.length D rfl HD.out (by unfold maxLen; omega) (.agg (bv n.1).toArray) (.int .i64 (t.length : Int)) _ rfl rfl (key_root hl) (.lit (.int .i64 (t.length : Int))) [] (plainElem_int Try.underlying3 (by simp [Lit.wf, IntKind.min, IntKind.max, IntKind.bits, IntKind.signed]; omega)) ?_
  intro w3 hown3 hg3
  have H3 := Lib.hid (TreM.mapped H2.out hown3 (HS.out.snoc HD.out.isMap HN.out hl) hg3)
  have HK3 := Lib.hid ((Kept.of_below F HB2.out).trans (Kept.of_grown F hg3 (fun k hk => by cases hk; exact H2.out.inm)) (NewF.refl _ _))
  have HX3 := Lib.hid (show Blk w3 X 51 (ndv n) from (hg3.block X HX2.out.lt (fun e => by
    have h1 := HLow.out m H2.out.inm
    have h2 := HXe.out
    cases e; omega)).trans HX2.out)
  clear hown3 hg3 H2 HB2 HX2 HD HS
  go_upto_region 2 with fail
  have HBLK := Lib.hid H3.out.blk
  have HCE := Lib.hid (show [Value.slice ao t.length cap, .map (some m), .int .i64 most][0]? = some (.slice ao t.length cap) from rfl)
  have HWD := Lib.hid H3.out.wide
  have HNB := Lib.hid (show b ∉ ownL (.slice ao t.length cap) from fun hx => H3.out.vb (mem_ownL.1 hx))
  have HXO := Lib.hid (show X ∉ ownL (.slice ao t.length cap) from fun hx => by
    have h1 := HLow.out X (H3.out.inv X (mem_ownL.1 hx))
    have h2 := HXe.out
    omega)
  refine wp_region_freeK (P := Try.prog) 10 (fun w' => Kept (ownL (.slice ao t.length cap)) w3 w' ∧ Wide 34 w' 0 (.slice ao t.length cap) (nv t)) (fun oq v w' => match oq with
      | 0 => v = .pointer (some ⟨b, 0, none⟩)
      | 1 => v = .pointer (some ⟨b, 0, none⟩)
      | 2 => v = .pointer (some ⟨b, 0, none⟩)
      | 3 => v = .pointer (some ⟨b, 0, none⟩)
      | 4 => v = .slice ao t.length cap
      | 5 => v = .agg (ndv n).toArray
      | 6 => ∃ g, v = .slice (some ⟨g, 0, none⟩) 1 1 ∧ Lies w' w'.heap.size (some ⟨g, 0, none⟩) g 0 (ndv n)
      | 7 => Wide 34 w' 0 v (nv t ++ ndv n) ∧ (v.ownBlock = Value.ownBlock (.slice ao t.length cap) ∨ ∃ j, v.ownBlock = some j ∧ w3.heap.size ≤ j)
      | 8 => v = .pointer (some ⟨b, 0, none⟩)
      | 9 => v = .pointer (some ⟨b, 0, none⟩)
      | _ => True) (fun hh oq => match oq with
      | 6 => hh 7
      | _ => false) [] (by kernel_rfl) (by kernel_rfl) (by kernel_rfl) ⟨(Kept.refl _ _).drew, HWD.out.below (Below.refl _ _).drew⟩ ?gb ?vb ?db ?steps ?fin
  case gb => exact fun a b h1 h2 => ⟨h1.1.then h2, h1.2.below h2⟩
  case vb =>
    intro oq v a b h hb
    match oq with
    | 0 => exact h
    | 1 => exact h
    | 2 => exact h
    | 3 => exact h
    | 4 => exact h
    | 5 => exact h
    | 6 => (obtain ⟨g, h1, h2⟩ := h; exact ⟨g, h1, h2.below hb⟩)
    | 7 => exact ⟨h.1.below hb, h.2⟩
    | 8 => exact h
    | 9 => exact h
    | _ + 10 => trivial
  case db =>
    intro hh i oq h
    split at h
    · exact turnOn_of h
    · cases h
  case steps =>
    intro vals
    simp only [List.take_succ_cons, List.take_zero, freeStepsK, Act.put, List.setIfInBounds_toArray, List.set_cons_zero, List.set_cons_succ, Nat.reduceAdd]
    refine ⟨fun hh w8 hi hK hG hW hV => ?_, fun hh w8 hi hK hG hW hV => ?_, fun hh w8 hi hK hG hW hV => ?_, fun hh w8 hi hK hG hW hV => ?_, fun hh w8 hi hK hG hW hV => ?_, fun hh w8 hi hK hG hW hV => ?_, fun hh w8 hi hK hG hW hV => ?_, fun hh w8 hi hK hG hW hV => ?_, fun hh w8 hi hK hG hW hV => ?_, fun hh w8 hi hK hG hW hV => ?_, trivial⟩
    · clear hW hV hK hi
      refine stepAt_value rfl rfl rfl (.pointer (some ⟨b, 0, none⟩)) w8 ?_ ⟨rfl, .inl (Below.refl _ _)⟩
      go_simp
    · clear hW hV hK hi
      refine stepAt_value rfl rfl rfl (.pointer (some ⟨b, 0, none⟩)) w8 ?_ ⟨rfl, .inl (Below.refl _ _)⟩
      go_simp
    · have q1 := hV 1 (hW 1 (by decide)) rfl
      simp only at q1
      rw [q1]
      clear hW hV hK hi
      refine stepAt_value rfl rfl rfl (.pointer (some ⟨b, 0, none⟩)) w8 ?_ ⟨rfl, .inl (Below.refl _ _)⟩
      go_simp
    · have q2 := hV 2 (hW 2 (by decide)) rfl
      simp only at q2
      rw [q2]
      clear hW hV hK hi
      refine stepAt_value rfl rfl rfl (.pointer (some ⟨b, 0, none⟩)) w8 ?_ ⟨rfl, .inl (Below.refl _ _)⟩
      go_simp
    · have q3 := hV 3 (hW 3 (by decide)) rfl
      simp only at q3
      rw [q3]
      clear hW hV hK hi
      have c := ((HBLK.out.kept hG.1 HNB.out).cell 0).trans HCE.out
      refine stepAt_value rfl rfl rfl (.slice ao t.length cap) w8 ?_ ⟨rfl, .inl (Below.refl _ _)⟩
      go_simp
    · clear hW hV hK hi
      refine stepAt_load_run rfl rfl rfl _ _ rfl _ _ rfl (run_load_node HL.out (HX3.out.kept hG.1 HXO.out).nodeAll) ⟨rfl, .inl (Below.refl _ _)⟩
    · have q5 := hV 5 (hW 5 (by decide)) rfl
      simp only at q5
      rw [q5]
      clear hW hV hK hi
      refine stepAt_build_rows rfl rfl rfl 84 51 1 _ rfl i0 (.agg (ndv nd0).toArray) (s := 34) (by omega) [ndv n] (fun rr hrr => by simp at hrr; rw [hrr]; exact (ndv_length HL.out)) Try.underlying84 hi0 hz0 hz1 rfl (by omega) (by omega) rfl ⟨⟨w8.heap.size, rfl, ?_⟩, .inl ((Below.refl _ _).alloc (Nat.le_refl _) _)⟩
      rw [show ([ndv n] : List (List Value)).flatten = ndv n by simp]
      exact ⟨fun _ => rfl, fun _ => by simp, fun j u hj => by rw [Nat.zero_add]; exact ((Blk.new w8 51 (ndv n).toArray).cell j).trans hj⟩
    · have q4 := hV 4 (hW 4 (by decide)) rfl
      simp only at q4
      obtain ⟨g, q6, hl6⟩ := hV 6 (hW 6 (by decide)) hi
      rw [q4, q6]
      refine stepAt_append_wide2 rfl rfl rfl _ _ 84 84 rfl rfl hG.2 (by omega) 51 i0 (.agg (ndv nd0).toArray) 48 Try.underlying84 hi0 hz0 hz1 hz2 hzc _ rfl 1 (ndv n) (hl6.src 1 84 51 Try.underlying84 ((ndv_length HL.out)) (ndv_one n) (by omega)) ?_ ?_ (Nat.zero_le _) fun v' w' h1 h2 h3 => ⟨⟨h1, ?_⟩, .inr ⟨⟨hG.1.trans (Kept.of_grown _ h2.grown (fun j hj => mem_ownL.2 hj)) (NewF.refl _ _), h3⟩, fun j hj hd => ?_⟩⟩
      · rw [nv_length t H3.out.nds]; unfold maxLen; omega
      · rw [nv_length t H3.out.nds]; omega
      · rcases h2.own with h | ⟨j, h, hj⟩
        · exact .inl h
        · exact .inr ⟨j, h, Nat.le_trans hG.1.size hj⟩
      · match j, hj, hd with
        | 0, hj, _ => exact hV 0 hj rfl
        | 1, hj, _ => exact hV 1 hj rfl
        | 2, hj, _ => exact hV 2 hj rfl
        | 3, hj, _ => exact hV 3 hj rfl
        | 4, hj, _ => exact hV 4 hj rfl
        | 5, hj, _ => exact hV 5 hj rfl
        | 6, _, hd => simp only [turnOn_self] at hd; cases hd
        | 7, hj, _ => rw [hi] at hj; cases hj
        | 8, hj, _ => exact hV 8 hj rfl
        | 9, hj, _ => exact hV 9 hj rfl
        | _ + 10, _, _ => trivial
    · have q0 := hV 0 (hW 0 (by decide)) rfl
      simp only at q0
      rw [q0]
      clear hW hV hK hi
      refine stepAt_value rfl rfl rfl (.pointer (some ⟨b, 0, none⟩)) w8 ?_ ⟨rfl, .inl (Below.refl _ _)⟩
      go_simp
    · have q8 := hV 8 (hW 8 (by decide)) rfl
      simp only at q8
      rw [q8]
      clear hW hV hK hi
      refine stepAt_value rfl rfl rfl (.pointer (some ⟨b, 0, none⟩)) w8 ?_ ⟨rfl, .inl (Below.refl _ _)⟩
      go_simp
  case fin =>
    intro hh vals w10 hall hG hV
    have q7 := hV 7 (hall 7 (by omega)) rfl
    have q9 := hV 9 (hall 9 (by omega)) rfl
    simp only at q7 q9
    simp only [List.take_succ_cons, List.take_zero, List.drop_succ_cons, List.drop_zero, putAll, Act.put, List.setIfInBounds_toArray, List.set_cons_zero, List.set_cons_succ, Nat.reduceAdd]
    rw [q9]
    have HG := Lib.hid hG.1
    have HW7 := Lib.hid q7.1
    have HO7 := Lib.hid q7.2
    clear hV q7 q9 hG hall
    generalize vals 0 = x0
    generalize vals 1 = x1
    generalize vals 2 = x2
    generalize vals 3 = x3
    generalize vals 4 = x4
    generalize vals 5 = x5
    generalize vals 6 = x6
    generalize vals 8 = x8
    obtain ⟨v7, hv7⟩ : ∃ v7, vals 7 = v7 := ⟨_, rfl⟩
    rw [hv7] at HW7 HO7 ⊢
    clear hv7
    obtain ⟨ao7, n7, cap7, b7, off7, e7, _, _⟩ := HW7.out.lies
    subst e7
    have c9 := (HBLK.out.kept HG.out HNB.out).cell 0
    have f9 := (HBLK.out.kept HG.out HNB.out).free 0
    go_wp2_with fail
    go_end0
    obtain ⟨r1, r2, r3⟩ := H3.out.stored HG.out HW7.out HL.out HO7.out
    exact ⟨rfl, _, ⟨_, r1⟩, HK3.out.trans r2 (NewF.refl _ _), fun x hx => (r3 x hx).imp id (Nat.le_trans HK3.out.size)⟩
end Go.Proofs.Ytjodhagjfjgbcaa

/-
  The program's New and Add.
-/
namespace Go.Proofs.Ytjodhagjfjgbcaa
open Go.RowKit
set_option maxRecDepth 10000

theorem blk_zero (w : World) : Blk (w.alloc (.cells #[.int .u8 0, .int .u8 0, .int .u8 0, .int .u8 0, .int .u8 0, .int .u8 0, .int .u8 0, .int .u8 0, .int .u8 0, .int .u8 0, .int .u8 0, .int .u8 0, .int .u8 0, .int .u8 0, .int .u8 0, .int .u8 0, .int .u8 0, .int .u8 0, .int .u8 0, .int .u8 0, .int .u8 0, .int .u8 0, .int .u8 0, .int .u8 0, .int .u8 0, .int .u8 0, .int .u8 0, .int .u8 0, .int .u8 0, .int .u8 0, .int .u8 0, .int .u8 0, .int .i64 0, .int .i64 0] 51)) w.heap.size 51 (ndv nd0) := Blk.new w _ (ndv nd0).toArray
theorem nd0_len : nd0.1.length = 32 := by simp [nd0, zero32]

theorem tre_start (w : World) (most : Int) (b m : Nat) (hb : b = w.heap.size + 1) (hm : m = w.heap.size) :
    TreR ((w.alloc (.map #[] 0)).alloc (.cells #[.slice none 0 0, .map (some m), .int .i64 most] 87)) [b, m] b m (.slice none 0 0) [] most := by
  subst hb hm
  refine ⟨fun x hx => (by cases hx), Blk.newAt (w.alloc (.map #[] 0)) _ #[.slice none 0 0, .map (some w.heap.size), .int .i64 most] _ (by simp), wide_nil0 34 _ 0, ⟨.map [], (World.ownsMap_made w _ _ _).alloc _, says_none⟩, by simp [Value.ownBlock], by simp [Value.ownBlock], by omega, by simp, by simp, fun j hj => by simp [Value.ownBlock] at hj, fun x hx => ?_⟩
  simp at hx
  rcases hx with rfl | rfl <;> simp <;> omega

theorem new_ok (w : World) (r : List UInt8) (s most : Int) (hr : r.length = 32) (h1 : 1 ≤ most) (h2 : most ≤ 256) (h3 : 0 ≤ s) (h4 : s ≤ 1073741824) :
    Calls Try.prog 28 #[.agg (bv r).toArray, .int .i64 s, .int .i64 most] w fun e w' => ∃ F b, e = .returned (.tuple #[.pointer (some ⟨b, 0, none⟩), .int .i64 0]) ∧ Tre w' F b [(r, s, -1)] most ∧ High w.heap.size F ∧ Below w.heap.size w w' := by
  have HX := Lib.hid (Blk.new w 24 (bv r).toArray)
  obtain ⟨X, hX⟩ : ∃ X, X = w.heap.size := ⟨_, rfl⟩
  have HXe := Lib.hid hX
  have HB := Lib.hid (show Below w.heap.size w (w.alloc (.cells (bv r).toArray 24)) from (Below.refl _ w).alloc (Nat.le_refl _) _)
  have HS := Lib.hid (show w.heap.size < (w.alloc (.cells (bv r).toArray 24)).heap.size by simp)
  have hmm := @run_makeMap Try.prog
  have d1 : ¬ (most < (1 : Int)) := by omega
  have d2 : ¬ ((256 : Int) < most) := by omega
  have d3 : ¬ (s < (0 : Int)) := by omega
  have d4 : ¬ ((1073741824 : Int) < s) := by omega
  go_enter Try.func28, Try.ntmps28
  go_upto_region 3 with fail
  rw [← hX] at HX ⊢
  generalize w.alloc (.cells (bv r).toArray 24) = w1 at HX HB HS ⊢
  have HT := Lib.hid (tre_start w1 most (w1.heap.size + 1) w1.heap.size rfl rfl)
  have HB3 := Lib.hid (show Below w.heap.size w ((w1.alloc (.map #[] 0)).alloc (.cells #[.slice none 0 0, .map (some w1.heap.size), .int .i64 most] 87)) from (HB.out.alloc (Nat.le_of_lt HS.out) _).alloc (by have := HS.out; simp; omega) _)
  have HX3 := Lib.hid ((HX.out.alloc (.map #[] 0)).alloc (.cells #[.slice none 0 0, .map (some w1.heap.size), .int .i64 most] 87))
  have HZ := Lib.hid (show w.heap.size < ((w1.alloc (.map #[] 0)).alloc (.cells #[.slice none 0 0, .map (some w1.heap.size), .int .i64 most] 87)).heap.size by have := HS.out; simp; omega)
  go_upto_region 4 with fail
  generalize (w1.alloc (.map #[] 0)).alloc (.cells #[.slice none 0 0, .map (some w1.heap.size), .int .i64 most] 87) = w3 at HT HB3 HX3 HZ ⊢
  obtain ⟨b, hb⟩ : ∃ b, b = w1.heap.size + 1 := ⟨_, rfl⟩
  obtain ⟨m, hm⟩ : ∃ m, m = w1.heap.size := ⟨_, rfl⟩
  have HF := Lib.hid (show High w.heap.size [b, m] from fun x hx => by
    have := HS.out
    simp at hx
    rcases hx with rfl | rfl <;> omega)
  rw [← hb, ← hm] at HT
  rw [← hb]
  rw [← hm]
  clear hb hm hX hmm HX HS HB
  have HBU := Lib.hid (built_node r s (-1) hr)
  have HXA := Lib.hid HX3.out.rootAll
  have HG := Lib.hid (Good.one hr h3 h4 h1 h2)
  go_wp2_with (first
    | ((with_reducible refine wpList_load_name (.tmp 3) ?_ ?_ X 0 r ?_ hr HXA.out ?_); rfl; rfl; rfl)
    | ((with_reducible refine wpList_build_l 51 #[(0, .tmp 28), (1, .tmp 29), (2, .const (.int .i64 (-1)))] _ _ HBU.out ?_ ?_ ?_ ?_); rfl; rfl; rfl))
  refine (put_any w3 [b, m] b m (.slice none 0 0) [] most (r, s, -1) HT.out (by simp [rs]) hr (by simp)).mono ?_
  rintro e w4 ⟨rfl, F', v', ht, hk, hn⟩
  have HT4 := Lib.hid ht
  have HK4 := Lib.hid hk
  have HN4 := Lib.hid hn
  clear ht hk hn
  go_wp2_with fail
  go_ret2
  exact ⟨F', b, rfl, ⟨HG.out, m, v', HT4.out⟩, HF.out.new HN4.out (Nat.le_of_lt HZ.out), HB3.out.trans (HK4.out.below (Nat.le_of_lt HZ.out) HF.out)⟩

theorem new_bad (w : World) (r : List UInt8) (s most : Int) (h : ¬ (1 ≤ most ∧ most ≤ 256 ∧ 0 ≤ s ∧ s ≤ 1073741824)) :
    Calls Try.prog 28 #[.agg (bv r).toArray, .int .i64 s, .int .i64 most] w fun e w' => e = .returned (.tuple #[.pointer none, .int .i64 1]) ∧ Below w.heap.size w w' := by
  have HB := Lib.hid (show Below w.heap.size w (w.alloc (.cells (bv r).toArray 24)) from (Below.refl _ w).alloc (Nat.le_refl _) _)
  go_enter Try.func28, Try.ntmps28
  by_cases h1 : most < 1
  · clear h
    go_wp2_with fail
    go_ret2
    exact ⟨rfl, HB.out⟩
  · by_cases h2 : 256 < most
    · clear h
      go_wp2_with fail
      go_ret2
      exact ⟨rfl, HB.out⟩
    · by_cases h3 : s < 0
      · clear h
        go_wp2_with fail
        go_ret2
        exact ⟨rfl, HB.out⟩
      · have h4 : (1073741824 : Int) < s := by omega
        clear h
        go_wp2_with fail
        go_ret2
        exact ⟨rfl, HB.out⟩

theorem add_nil (w : World) (r p : List UInt8) (s : Int) :
    Calls Try.prog 30 #[.pointer none, .agg (bv r).toArray, .agg (bv p).toArray, .int .i64 s] w fun e w' => e = .returned (.int .i64 2) ∧ Below w.heap.size w w' := by
  have HB := Lib.hid (show Below w.heap.size w ((w.alloc (.cells (bv r).toArray 24)).alloc (.cells (bv p).toArray 24)) from ((Below.refl _ w).alloc (Nat.le_refl _) _).alloc (by simp) _)
  go_enter Try.func30, Try.ntmps30
  go_wp2_with fail
  go_ret
  exact ⟨rfl, HB.out⟩

set_option maxHeartbeats 4000000 in
theorem add_any (w : World) (F : List Nat) (b : Nat) (t : List Nd) (most : Int) (r p : List UInt8) (s : Int) (h : Tre w F b t most) (hr : r.length = 32) (hp : p.length = 32) :
    Calls Try.prog 30 #[.pointer (some ⟨b, 0, none⟩), .agg (bv r).toArray, .agg (bv p).toArray, .int .i64 s] w fun e w' => e = .returned (.int .i64 (addT most t r p s).1) ∧ ∃ F', Tre w' F' b (addT most t r p s).2 most ∧ Kept F w w' ∧ NewF w F F' := by
  have hb1 : Below w.heap.size w ((w.alloc (.cells (bv r).toArray 24)).alloc (.cells (bv p).toArray 24)) := ((Below.refl _ w).alloc (Nat.le_refl _) _).alloc (by simp) _
  have HB := Lib.hid hb1
  have HX := Lib.hid ((Blk.new w 24 (bv r).toArray).alloc (.cells (bv p).toArray 24))
  have HY := Lib.hid (Blk.newAt (w.alloc (.cells (bv r).toArray 24)) 24 (bv p).toArray (w.heap.size + 1) (by simp))
  have H1 := Lib.hid (h.below hb1)
  have HLow := Lib.hid h.low
  obtain ⟨X, hX⟩ : ∃ X, X = w.heap.size := ⟨_, rfl⟩
  obtain ⟨Y, hY⟩ : ∃ Y, Y = w.heap.size + 1 := ⟨_, rfl⟩
  have HXX := Lib.hid (show w.heap.size ≤ X by omega)
  have HYX := Lib.hid (show w.heap.size ≤ Y by omega)
  have HG := Lib.hid h.1
  have g1 := h.1.most256
  have g3 := h.1.room
  clear hb1 h
  go_enter Try.func30, Try.ntmps30
  go_upto_region 1 with fail
  rw [← hY] at HY ⊢
  rw [← hX] at HX ⊢
  generalize (w.alloc (.cells (bv r).toArray 24)).alloc (.cells (bv p).toArray 24) = w1 at HB HX HY H1 ⊢
  clear hX hY
  have HXA := Lib.hid HX.out.rootAll
  rcases addT_cases most t r p s with ⟨h1, h⟩ | ⟨h1, h2, h⟩ | ⟨i, m, h1, h2, hi, h3, h⟩ | ⟨i, m, h1, h2, hi, h3, h4, h⟩ | ⟨i, m, h1, h2, hi, h3, h4, h5, h⟩ | ⟨i, m, h1, h2, hi, h3, h4, h5, h⟩
  · have HA := Lib.hid h
    have HP1 := Lib.hid (place_any w1 F b t most r H1.out hr)
    have d1 : ¬ (plc t r = -1) := by omega
    clear h
    go_wp2_with ((with_reducible refine wpList_load_name (.tmp 5) ?_ ?_ X 0 r ?_ hr HXA.out ?_); rfl; rfl; rfl)
    refine HP1.out.mono ?_
    rintro e w2 ⟨rfl, hb2⟩
    have HB2 := Lib.hid (HB.out.trans (hb2.mono HB.out.size))
    have H2 := Lib.hid (H1.out.below hb2)
    clear hb2 HP1 HXA HX HY
    go_wp2_with fail
    go_ret
    rw [HA.out]
    exact ⟨rfl, F, H2.out, Kept.of_below F HB2.out, NewF.refl _ _⟩
  · have HA := Lib.hid h
    have HP1 := Lib.hid (place_any w1 F b t most r H1.out hr)
    rw [h1] at HP1
    clear h h1
    go_wp2_with ((with_reducible refine wpList_load_name (.tmp 5) ?_ ?_ X 0 r ?_ hr HXA.out ?_); rfl; rfl; rfl)
    refine HP1.out.mono ?_
    rintro e w2 ⟨rfl, hb2⟩
    have HB2 := Lib.hid (HB.out.trans (hb2.mono HB.out.size))
    have H2 := Lib.hid (H1.out.below hb2)
    have HX2 := Lib.hid (HX.out.below hb2 HX.out.lt)
    have HYA := Lib.hid (HY.out.below hb2 HY.out.lt).rootAll
    have HP2 := Lib.hid (place_any w2 F b t most p H2.out hp)
    rw [h2] at HP2
    clear hb2 HP1 HXA HX HY h2
    go_wp2_with ((with_reducible refine wpList_load_name (.tmp 6) ?_ ?_ Y 0 p ?_ hp HYA.out ?_); rfl; rfl; rfl)
    refine HP2.out.mono ?_
    rintro e w3 ⟨rfl, hb3⟩
    have HB3 := Lib.hid (HB2.out.trans (hb3.mono HB2.out.size))
    have H3 := Lib.hid (H2.out.below hb3)
    have HX3 := Lib.hid (HX2.out.below hb3 HX2.out.lt)
    have HN := Lib.hid (node_any w3 F b t most (-1) H3.out)
    rw [nodeAt_neg (show (-1 : Int) < 0 by omega)] at HN
    obtain ⟨nd, hnd⟩ : ∃ nd, nd = nodeOr t (-1) := ⟨_, rfl⟩
    have HNL := Lib.hid (show nd.1.length = 32 by rw [hnd]; exact HG.out.nds.nodeOr _)
    rw [← hnd] at HN
    clear hb3 HP2 HYA H2 HX2 HB2 hnd
    go_wp2_with fail
    refine HN.out.mono ?_
    rintro e w4 ⟨rfl, hb4⟩
    have HB4 := Lib.hid (HB3.out.trans (hb4.mono HB3.out.size))
    have H4 := Lib.hid (H3.out.below hb4)
    have HX4 := Lib.hid (HX3.out.below hb4 HX3.out.lt)
    have HZ := Lib.hid (blk_zero w4)
    have HZL := Lib.hid nd0_len
    have HN5 := Lib.hid (HZ.out.setRow (ndv nd))
    have hb5 : Below w4.heap.size w4 ((w4.alloc (.cells #[.int .u8 0, .int .u8 0, .int .u8 0, .int .u8 0, .int .u8 0, .int .u8 0, .int .u8 0, .int .u8 0, .int .u8 0, .int .u8 0, .int .u8 0, .int .u8 0, .int .u8 0, .int .u8 0, .int .u8 0, .int .u8 0, .int .u8 0, .int .u8 0, .int .u8 0, .int .u8 0, .int .u8 0, .int .u8 0, .int .u8 0, .int .u8 0, .int .u8 0, .int .u8 0, .int .u8 0, .int .u8 0, .int .u8 0, .int .u8 0, .int .u8 0, .int .u8 0, .int .i64 0, .int .i64 0] 51)).setRow w4.heap.size (ndv nd).toArray) := below_row ((Below.refl _ _).alloc (Nat.le_refl _) _) (Nat.le_refl _) _
    have HB5 := Lib.hid (HB4.out.trans (hb5.mono HB4.out.size))
    have H5 := Lib.hid (H4.out.below hb5)
    have HX5 := Lib.hid (HX4.out.below hb5 HX4.out.lt)
    clear hb4 HN H3 HX3 HB3 hb5
    go_upto_region 7 with ((with_reducible refine wpList_store_node (.tmp 10) (.tmp 25) ?_ ?_ w4.heap.size nd0 nd ?_ ?_ HZ.out HZL.out HNL.out ?_); rfl; rfl; rfl; rfl)
    generalize (w4.alloc (.cells #[.int .u8 0, .int .u8 0, .int .u8 0, .int .u8 0, .int .u8 0, .int .u8 0, .int .u8 0, .int .u8 0, .int .u8 0, .int .u8 0, .int .u8 0, .int .u8 0, .int .u8 0, .int .u8 0, .int .u8 0, .int .u8 0, .int .u8 0, .int .u8 0, .int .u8 0, .int .u8 0, .int .u8 0, .int .u8 0, .int .u8 0, .int .u8 0, .int .u8 0, .int .u8 0, .int .u8 0, .int .u8 0, .int .u8 0, .int .u8 0, .int .u8 0, .int .u8 0, .int .i64 0, .int .i64 0] 51)).setRow w4.heap.size (ndv nd).toArray = w5 at HN5 HB5 H5 HX5 ⊢
    have c32 := HN5.out.nodeSlot HNL.out
    clear HZ HB4 H4 HX4
    go_wp2_with fail
    go_ret
    rw [HA.out]
    exact ⟨rfl, F, H5.out, Kept.of_below F HB5.out, NewF.refl _ _⟩
  · have HA := Lib.hid h
    have HP1 := Lib.hid (place_any w1 F b t most r H1.out hr)
    rw [h1] at HP1
    clear h h1
    go_wp2_with ((with_reducible refine wpList_load_name (.tmp 5) ?_ ?_ X 0 r ?_ hr HXA.out ?_); rfl; rfl; rfl)
    refine HP1.out.mono ?_
    rintro e w2 ⟨rfl, hb2⟩
    have HB2 := Lib.hid (HB.out.trans (hb2.mono HB.out.size))
    have H2 := Lib.hid (H1.out.below hb2)
    have HX2 := Lib.hid (HX.out.below hb2 HX.out.lt)
    have HYA := Lib.hid (HY.out.below hb2 HY.out.lt).rootAll
    have HP2 := Lib.hid (place_any w2 F b t most p H2.out hp)
    rw [h2] at HP2
    clear hb2 HP1 HXA HX HY h2
    go_wp2_with ((with_reducible refine wpList_load_name (.tmp 6) ?_ ?_ Y 0 p ?_ hp HYA.out ?_); rfl; rfl; rfl)
    refine HP2.out.mono ?_
    rintro e w3 ⟨rfl, hb3⟩
    have HB3 := Lib.hid (HB2.out.trans (hb3.mono HB2.out.size))
    have H3 := Lib.hid (H2.out.below hb3)
    have HX3 := Lib.hid (HX2.out.below hb3 HX2.out.lt)
    have HN := Lib.hid (node_any w3 F b t most (i : Int) H3.out)
    rw [show nodeAt t (i : Int) = some m by rw [nodeAt_nat]; exact hi] at HN
    obtain ⟨nd, hnd⟩ : ∃ nd, nd = nodeOr t (i : Int) := ⟨_, rfl⟩
    have HNL := Lib.hid (show nd.1.length = 32 by rw [hnd]; exact HG.out.nds.nodeOr _)
    have HND := Lib.hid (show nd = m by rw [hnd, nodeOr, nodeAt_nat, hi]; rfl)
    have HI := Lib.hid hi
    clear hi
    rw [← hnd] at HN
    clear hb3 HP2 HYA H2 HX2 HB2 hnd
    go_wp2_with fail
    refine HN.out.mono ?_
    rintro e w4 ⟨rfl, hb4⟩
    have HB4 := Lib.hid (HB3.out.trans (hb4.mono HB3.out.size))
    have H4 := Lib.hid (H3.out.below hb4)
    have HX4 := Lib.hid (HX3.out.below hb4 HX3.out.lt)
    have HZ := Lib.hid (blk_zero w4)
    have HZL := Lib.hid nd0_len
    have HN5 := Lib.hid (HZ.out.setRow (ndv nd))
    have hb5 : Below w4.heap.size w4 ((w4.alloc (.cells #[.int .u8 0, .int .u8 0, .int .u8 0, .int .u8 0, .int .u8 0, .int .u8 0, .int .u8 0, .int .u8 0, .int .u8 0, .int .u8 0, .int .u8 0, .int .u8 0, .int .u8 0, .int .u8 0, .int .u8 0, .int .u8 0, .int .u8 0, .int .u8 0, .int .u8 0, .int .u8 0, .int .u8 0, .int .u8 0, .int .u8 0, .int .u8 0, .int .u8 0, .int .u8 0, .int .u8 0, .int .u8 0, .int .u8 0, .int .u8 0, .int .u8 0, .int .u8 0, .int .i64 0, .int .i64 0] 51)).setRow w4.heap.size (ndv nd).toArray) := below_row ((Below.refl _ _).alloc (Nat.le_refl _) _) (Nat.le_refl _) _
    have HB5 := Lib.hid (HB4.out.trans (hb5.mono HB4.out.size))
    have H5 := Lib.hid (H4.out.below hb5)
    have HX5 := Lib.hid (HX4.out.below hb5 HX4.out.lt)
    clear hb4 HN H3 HX3 HB3 hb5
    go_upto_region 7 with ((with_reducible refine wpList_store_node (.tmp 10) (.tmp 25) ?_ ?_ w4.heap.size nd0 nd ?_ ?_ HZ.out HZL.out HNL.out ?_); rfl; rfl; rfl; rfl)
    generalize (w4.alloc (.cells #[.int .u8 0, .int .u8 0, .int .u8 0, .int .u8 0, .int .u8 0, .int .u8 0, .int .u8 0, .int .u8 0, .int .u8 0, .int .u8 0, .int .u8 0, .int .u8 0, .int .u8 0, .int .u8 0, .int .u8 0, .int .u8 0, .int .u8 0, .int .u8 0, .int .u8 0, .int .u8 0, .int .u8 0, .int .u8 0, .int .u8 0, .int .u8 0, .int .u8 0, .int .u8 0, .int .u8 0, .int .u8 0, .int .u8 0, .int .u8 0, .int .u8 0, .int .u8 0, .int .i64 0, .int .i64 0] 51)).setRow w4.heap.size (ndv nd).toArray = w5 at HN5 HB5 H5 HX5 ⊢
    have c32 := HN5.out.nodeSlot HNL.out
    rw [HND.out] at c32
    clear HZ HB4 H4 HX4
    go_wp2_with fail
    go_ret
    rw [HA.out]
    exact ⟨rfl, F, H5.out, Kept.of_below F HB5.out, NewF.refl _ _⟩
  · have HA := Lib.hid h
    have HP1 := Lib.hid (place_any w1 F b t most r H1.out hr)
    rw [h1] at HP1
    clear h h1
    go_wp2_with ((with_reducible refine wpList_load_name (.tmp 5) ?_ ?_ X 0 r ?_ hr HXA.out ?_); rfl; rfl; rfl)
    refine HP1.out.mono ?_
    rintro e w2 ⟨rfl, hb2⟩
    have HB2 := Lib.hid (HB.out.trans (hb2.mono HB.out.size))
    have H2 := Lib.hid (H1.out.below hb2)
    have HX2 := Lib.hid (HX.out.below hb2 HX.out.lt)
    have HYA := Lib.hid (HY.out.below hb2 HY.out.lt).rootAll
    have HP2 := Lib.hid (place_any w2 F b t most p H2.out hp)
    rw [h2] at HP2
    clear hb2 HP1 HXA HX HY h2
    go_wp2_with ((with_reducible refine wpList_load_name (.tmp 6) ?_ ?_ Y 0 p ?_ hp HYA.out ?_); rfl; rfl; rfl)
    refine HP2.out.mono ?_
    rintro e w3 ⟨rfl, hb3⟩
    have HB3 := Lib.hid (HB2.out.trans (hb3.mono HB2.out.size))
    have H3 := Lib.hid (H2.out.below hb3)
    have HX3 := Lib.hid (HX2.out.below hb3 HX2.out.lt)
    have HN := Lib.hid (node_any w3 F b t most (i : Int) H3.out)
    rw [show nodeAt t (i : Int) = some m by rw [nodeAt_nat]; exact hi] at HN
    obtain ⟨nd, hnd⟩ : ∃ nd, nd = nodeOr t (i : Int) := ⟨_, rfl⟩
    have HNL := Lib.hid (show nd.1.length = 32 by rw [hnd]; exact HG.out.nds.nodeOr _)
    have HND := Lib.hid (show nd = m by rw [hnd, nodeOr, nodeAt_nat, hi]; rfl)
    have HI := Lib.hid hi
    clear hi
    rw [← hnd] at HN
    clear hb3 HP2 HYA H2 HX2 HB2 hnd
    go_wp2_with fail
    refine HN.out.mono ?_
    rintro e w4 ⟨rfl, hb4⟩
    have HB4 := Lib.hid (HB3.out.trans (hb4.mono HB3.out.size))
    have H4 := Lib.hid (H3.out.below hb4)
    have HX4 := Lib.hid (HX3.out.below hb4 HX3.out.lt)
    have HZ := Lib.hid (blk_zero w4)
    have HZL := Lib.hid nd0_len
    have HN5 := Lib.hid (HZ.out.setRow (ndv nd))
    have hb5 : Below w4.heap.size w4 ((w4.alloc (.cells #[.int .u8 0, .int .u8 0, .int .u8 0, .int .u8 0, .int .u8 0, .int .u8 0, .int .u8 0, .int .u8 0, .int .u8 0, .int .u8 0, .int .u8 0, .int .u8 0, .int .u8 0, .int .u8 0, .int .u8 0, .int .u8 0, .int .u8 0, .int .u8 0, .int .u8 0, .int .u8 0, .int .u8 0, .int .u8 0, .int .u8 0, .int .u8 0, .int .u8 0, .int .u8 0, .int .u8 0, .int .u8 0, .int .u8 0, .int .u8 0, .int .u8 0, .int .u8 0, .int .i64 0, .int .i64 0] 51)).setRow w4.heap.size (ndv nd).toArray) := below_row ((Below.refl _ _).alloc (Nat.le_refl _) _) (Nat.le_refl _) _
    have HB5 := Lib.hid (HB4.out.trans (hb5.mono HB4.out.size))
    have H5 := Lib.hid (H4.out.below hb5)
    have HX5 := Lib.hid (HX4.out.below hb5 HX4.out.lt)
    clear hb4 HN H3 HX3 HB3 hb5
    go_upto_region 7 with ((with_reducible refine wpList_store_node (.tmp 10) (.tmp 25) ?_ ?_ w4.heap.size nd0 nd ?_ ?_ HZ.out HZL.out HNL.out ?_); rfl; rfl; rfl; rfl)
    generalize (w4.alloc (.cells #[.int .u8 0, .int .u8 0, .int .u8 0, .int .u8 0, .int .u8 0, .int .u8 0, .int .u8 0, .int .u8 0, .int .u8 0, .int .u8 0, .int .u8 0, .int .u8 0, .int .u8 0, .int .u8 0, .int .u8 0, .int .u8 0, .int .u8 0, .int .u8 0, .int .u8 0, .int .u8 0, .int .u8 0, .int .u8 0, .int .u8 0, .int .u8 0, .int .u8 0, .int .u8 0, .int .u8 0, .int .u8 0, .int .u8 0, .int .u8 0, .int .u8 0, .int .u8 0, .int .i64 0, .int .i64 0] 51)).setRow w4.heap.size (ndv nd).toArray = w5 at HN5 HB5 H5 HX5 ⊢
    have c32 := HN5.out.nodeSlot HNL.out
    rw [HND.out] at c32
    clear HZ HB4 H4 HX4
    have d2 : ¬ (s ≤ m.2.1) := by omega
    go_wp2_with fail
    go_ret
    rw [HA.out]
    exact ⟨rfl, F, H5.out, Kept.of_below F HB5.out, NewF.refl _ _⟩
  · have HA := Lib.hid h
    have HP1 := Lib.hid (place_any w1 F b t most r H1.out hr)
    rw [h1] at HP1
    clear h h1
    go_wp2_with ((with_reducible refine wpList_load_name (.tmp 5) ?_ ?_ X 0 r ?_ hr HXA.out ?_); rfl; rfl; rfl)
    refine HP1.out.mono ?_
    rintro e w2 ⟨rfl, hb2⟩
    have HB2 := Lib.hid (HB.out.trans (hb2.mono HB.out.size))
    have H2 := Lib.hid (H1.out.below hb2)
    have HX2 := Lib.hid (HX.out.below hb2 HX.out.lt)
    have HYA := Lib.hid (HY.out.below hb2 HY.out.lt).rootAll
    have HP2 := Lib.hid (place_any w2 F b t most p H2.out hp)
    rw [h2] at HP2
    clear hb2 HP1 HXA HX HY h2
    go_wp2_with ((with_reducible refine wpList_load_name (.tmp 6) ?_ ?_ Y 0 p ?_ hp HYA.out ?_); rfl; rfl; rfl)
    refine HP2.out.mono ?_
    rintro e w3 ⟨rfl, hb3⟩
    have HB3 := Lib.hid (HB2.out.trans (hb3.mono HB2.out.size))
    have H3 := Lib.hid (H2.out.below hb3)
    have HX3 := Lib.hid (HX2.out.below hb3 HX2.out.lt)
    have HN := Lib.hid (node_any w3 F b t most (i : Int) H3.out)
    rw [show nodeAt t (i : Int) = some m by rw [nodeAt_nat]; exact hi] at HN
    obtain ⟨nd, hnd⟩ : ∃ nd, nd = nodeOr t (i : Int) := ⟨_, rfl⟩
    have HNL := Lib.hid (show nd.1.length = 32 by rw [hnd]; exact HG.out.nds.nodeOr _)
    have HND := Lib.hid (show nd = m by rw [hnd, nodeOr, nodeAt_nat, hi]; rfl)
    have HI := Lib.hid hi
    clear hi
    rw [← hnd] at HN
    clear hb3 HP2 HYA H2 HX2 HB2 hnd
    go_wp2_with fail
    refine HN.out.mono ?_
    rintro e w4 ⟨rfl, hb4⟩
    have HB4 := Lib.hid (HB3.out.trans (hb4.mono HB3.out.size))
    have H4 := Lib.hid (H3.out.below hb4)
    have HX4 := Lib.hid (HX3.out.below hb4 HX3.out.lt)
    have HZ := Lib.hid (blk_zero w4)
    have HZL := Lib.hid nd0_len
    have HN5 := Lib.hid (HZ.out.setRow (ndv nd))
    have hb5 : Below w4.heap.size w4 ((w4.alloc (.cells #[.int .u8 0, .int .u8 0, .int .u8 0, .int .u8 0, .int .u8 0, .int .u8 0, .int .u8 0, .int .u8 0, .int .u8 0, .int .u8 0, .int .u8 0, .int .u8 0, .int .u8 0, .int .u8 0, .int .u8 0, .int .u8 0, .int .u8 0, .int .u8 0, .int .u8 0, .int .u8 0, .int .u8 0, .int .u8 0, .int .u8 0, .int .u8 0, .int .u8 0, .int .u8 0, .int .u8 0, .int .u8 0, .int .u8 0, .int .u8 0, .int .u8 0, .int .u8 0, .int .i64 0, .int .i64 0] 51)).setRow w4.heap.size (ndv nd).toArray) := below_row ((Below.refl _ _).alloc (Nat.le_refl _) _) (Nat.le_refl _) _
    have HB5 := Lib.hid (HB4.out.trans (hb5.mono HB4.out.size))
    have H5 := Lib.hid (H4.out.below hb5)
    have HX5 := Lib.hid (HX4.out.below hb5 HX4.out.lt)
    clear hb4 HN H3 HX3 HB3 hb5
    go_upto_region 7 with ((with_reducible refine wpList_store_node (.tmp 10) (.tmp 25) ?_ ?_ w4.heap.size nd0 nd ?_ ?_ HZ.out HZL.out HNL.out ?_); rfl; rfl; rfl; rfl)
    generalize (w4.alloc (.cells #[.int .u8 0, .int .u8 0, .int .u8 0, .int .u8 0, .int .u8 0, .int .u8 0, .int .u8 0, .int .u8 0, .int .u8 0, .int .u8 0, .int .u8 0, .int .u8 0, .int .u8 0, .int .u8 0, .int .u8 0, .int .u8 0, .int .u8 0, .int .u8 0, .int .u8 0, .int .u8 0, .int .u8 0, .int .u8 0, .int .u8 0, .int .u8 0, .int .u8 0, .int .u8 0, .int .u8 0, .int .u8 0, .int .u8 0, .int .u8 0, .int .u8 0, .int .u8 0, .int .i64 0, .int .i64 0] 51)).setRow w4.heap.size (ndv nd).toArray = w5 at HN5 HB5 H5 HX5 ⊢
    have c32 := HN5.out.nodeSlot HNL.out
    rw [HND.out] at c32
    clear HZ HB4 H4 HX4
    have d2 : ¬ (s ≤ m.2.1) := by omega
    have d3 : ¬ ((1073741824 : Int) < s) := by omega
    go_wp2_with fail
    refine (room_any w5 F b t most H5.out).mono ?_
    rintro e w6 ⟨rfl, nq, rfl⟩
    have H6 := Lib.hid (H5.out.below (below_dN (Below.refl _ _) nq))
    have HB6 := Lib.hid (below_dN HB5.out nq)
    have HX6 := Lib.hid (HX5.out.drewN nq)
    generalize w5.drewN nq = w6 at H6 HB6 HX6 ⊢
    clear H5 HB5 HX5 HN5 c32
    have d4 : most - (t.length : Int) ≤ 0 := by omega
    go_wp2_with fail
    go_ret
    rw [HA.out]
    exact ⟨rfl, F, H6.out, Kept.of_below F HB6.out, NewF.refl _ _⟩
  · have HA := Lib.hid h
    have HP1 := Lib.hid (place_any w1 F b t most r H1.out hr)
    rw [h1] at HP1
    have HPR := Lib.hid h1
    clear h h1
    go_wp2_with ((with_reducible refine wpList_load_name (.tmp 5) ?_ ?_ X 0 r ?_ hr HXA.out ?_); rfl; rfl; rfl)
    refine HP1.out.mono ?_
    rintro e w2 ⟨rfl, hb2⟩
    have HB2 := Lib.hid (HB.out.trans (hb2.mono HB.out.size))
    have H2 := Lib.hid (H1.out.below hb2)
    have HX2 := Lib.hid (HX.out.below hb2 HX.out.lt)
    have HYA := Lib.hid (HY.out.below hb2 HY.out.lt).rootAll
    have HP2 := Lib.hid (place_any w2 F b t most p H2.out hp)
    rw [h2] at HP2
    clear hb2 HP1 HXA HX HY h2
    go_wp2_with ((with_reducible refine wpList_load_name (.tmp 6) ?_ ?_ Y 0 p ?_ hp HYA.out ?_); rfl; rfl; rfl)
    refine HP2.out.mono ?_
    rintro e w3 ⟨rfl, hb3⟩
    have HB3 := Lib.hid (HB2.out.trans (hb3.mono HB2.out.size))
    have H3 := Lib.hid (H2.out.below hb3)
    have HX3 := Lib.hid (HX2.out.below hb3 HX2.out.lt)
    have HN := Lib.hid (node_any w3 F b t most (i : Int) H3.out)
    rw [show nodeAt t (i : Int) = some m by rw [nodeAt_nat]; exact hi] at HN
    obtain ⟨nd, hnd⟩ : ∃ nd, nd = nodeOr t (i : Int) := ⟨_, rfl⟩
    have HNL := Lib.hid (show nd.1.length = 32 by rw [hnd]; exact HG.out.nds.nodeOr _)
    have HND := Lib.hid (show nd = m by rw [hnd, nodeOr, nodeAt_nat, hi]; rfl)
    have HI := Lib.hid hi
    clear hi
    rw [← hnd] at HN
    clear hb3 HP2 HYA H2 HX2 HB2 hnd
    go_wp2_with fail
    refine HN.out.mono ?_
    rintro e w4 ⟨rfl, hb4⟩
    have HB4 := Lib.hid (HB3.out.trans (hb4.mono HB3.out.size))
    have H4 := Lib.hid (H3.out.below hb4)
    have HX4 := Lib.hid (HX3.out.below hb4 HX3.out.lt)
    have HZ := Lib.hid (blk_zero w4)
    have HZL := Lib.hid nd0_len
    have HN5 := Lib.hid (HZ.out.setRow (ndv nd))
    have hb5 : Below w4.heap.size w4 ((w4.alloc (.cells #[.int .u8 0, .int .u8 0, .int .u8 0, .int .u8 0, .int .u8 0, .int .u8 0, .int .u8 0, .int .u8 0, .int .u8 0, .int .u8 0, .int .u8 0, .int .u8 0, .int .u8 0, .int .u8 0, .int .u8 0, .int .u8 0, .int .u8 0, .int .u8 0, .int .u8 0, .int .u8 0, .int .u8 0, .int .u8 0, .int .u8 0, .int .u8 0, .int .u8 0, .int .u8 0, .int .u8 0, .int .u8 0, .int .u8 0, .int .u8 0, .int .u8 0, .int .u8 0, .int .i64 0, .int .i64 0] 51)).setRow w4.heap.size (ndv nd).toArray) := below_row ((Below.refl _ _).alloc (Nat.le_refl _) _) (Nat.le_refl _) _
    have HB5 := Lib.hid (HB4.out.trans (hb5.mono HB4.out.size))
    have H5 := Lib.hid (H4.out.below hb5)
    have HX5 := Lib.hid (HX4.out.below hb5 HX4.out.lt)
    clear hb4 HN H3 HX3 HB3 hb5
    go_upto_region 7 with ((with_reducible refine wpList_store_node (.tmp 10) (.tmp 25) ?_ ?_ w4.heap.size nd0 nd ?_ ?_ HZ.out HZL.out HNL.out ?_); rfl; rfl; rfl; rfl)
    generalize (w4.alloc (.cells #[.int .u8 0, .int .u8 0, .int .u8 0, .int .u8 0, .int .u8 0, .int .u8 0, .int .u8 0, .int .u8 0, .int .u8 0, .int .u8 0, .int .u8 0, .int .u8 0, .int .u8 0, .int .u8 0, .int .u8 0, .int .u8 0, .int .u8 0, .int .u8 0, .int .u8 0, .int .u8 0, .int .u8 0, .int .u8 0, .int .u8 0, .int .u8 0, .int .u8 0, .int .u8 0, .int .u8 0, .int .u8 0, .int .u8 0, .int .u8 0, .int .u8 0, .int .u8 0, .int .i64 0, .int .i64 0] 51)).setRow w4.heap.size (ndv nd).toArray = w5 at HN5 HB5 H5 HX5 ⊢
    have c32 := HN5.out.nodeSlot HNL.out
    rw [HND.out] at c32
    clear HZ HB4 H4 HX4
    have d2 : ¬ (s ≤ m.2.1) := by omega
    have d3 : ¬ ((1073741824 : Int) < s) := by omega
    go_wp2_with fail
    refine (room_any w5 F b t most H5.out).mono ?_
    rintro e w6 ⟨rfl, nq, rfl⟩
    have H6 := Lib.hid (H5.out.below (below_dN (Below.refl _ _) nq))
    have HB6 := Lib.hid (below_dN HB5.out nq)
    have HX6 := Lib.hid (HX5.out.drewN nq)
    generalize w5.drewN nq = w6 at H6 HB6 HX6 ⊢
    clear H5 HB5 HX5 HN5 c32
    have d4 : ¬ (most - (t.length : Int) ≤ 0) := by omega
    have HXA := Lib.hid HX6.out.rootAll
    have HBU := Lib.hid (built_node r s (i : Int) hr)
    obtain ⟨G0, m0, v0, hT⟩ := H6.out
    have HPU := Lib.hid (put_any w6 F b m0 v0 t most (r, s, (i : Int)) hT (not_mem_of_plc HPR.out) hr (by omega))
    clear hT G0
    go_wp2_with (first
      | ((with_reducible refine wpList_load_name (.tmp 5) ?_ ?_ X 0 r ?_ hr HXA.out ?_); rfl; rfl; rfl)
      | ((with_reducible refine wpList_build_l 51 #[(0, .tmp 43), (1, .tmp 44), (2, .tmp 45)] _ _ HBU.out ?_ ?_ ?_ ?_); rfl; rfl; rfl))
    refine HPU.out.mono ?_
    rintro e w7 ⟨rfl, F', v', ht, hk, hn⟩
    have HT7 := Lib.hid ht
    have HK7 := Lib.hid hk
    have HN7 := Lib.hid hn
    clear ht hk hn HPU HXA HBU
    have HGA := Lib.hid (HG.out.add hr HPR.out HI.out h3 h4 h5)
    go_wp2_with fail
    go_ret
    rw [HA.out]
    exact ⟨rfl, F', ⟨HGA.out, m0, v', HT7.out⟩, (Kept.of_below F HB6.out).trans HK7.out (NewF.refl _ _), fun x hx => (HN7.out x hx).imp id (Nat.le_trans HB6.out.size)⟩
end Go.Proofs.Ytjodhagjfjgbcaa
