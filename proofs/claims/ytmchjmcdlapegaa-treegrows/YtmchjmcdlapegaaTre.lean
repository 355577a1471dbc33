/-
  The program's tree in memory: its blocks in a slice, their places in a map; what each of its calls that only read answers.
-/
import Derived.Test.YtmchjmcdlapegaaTKey
import Derived.Test.YtmchjmcdlapegaaKept
import Derived.Deep.QuietTactic
import Derived.BigQuiet
import Derived.Deep.Cut
namespace Go.Proofs.Ytmchjmcdlapegaa
open Go.RowKit
set_option maxRecDepth 10000

structure TreM (w : World) (F : List Nat) (b m : Nat) (v : Value) (t tm : List Nd) (most : Int) : Prop where
  nds : Nds t
  blk : Blk w b 62 [v, .map (some m), .int .i64 most]
  wide : Wide 34 w 0 v (nv t)
  map : ∃ D : DataW Unit, w.ownsMap Try.prog 23 (plainElem Try.prog 3) m tm.length D ∧ Says D tm
  vb : v.ownBlock ≠ some b
  vm : v.ownBlock ≠ some m
  bm : b ≠ m
  inb : b ∈ F
  inm : m ∈ F
  inv : ∀ j, v.ownBlock = some j → j ∈ F
  low : Low w F
abbrev TreR (w : World) (F : List Nat) (b m : Nat) (v : Value) (t : List Nd) (most : Int) : Prop := TreM w F b m v t t most
/-- The tree at block b is this one; F: the blocks that are its own. -/
def Tre (w : World) (F : List Nat) (b : Nat) (t : List Nd) (most : Int) : Prop := Good t most ∧ ∃ m v, TreR w F b m v t most

theorem TreM.keep {w w' : World} {F G : List Nat} {b m : Nat} {v : Value} {t tm : List Nd} {most : Int} (h : TreM w F b m v t tm most) (hk : Kept G w w') (hF : Away F G) : TreM w' F b m v t tm most := by
  obtain ⟨D, hD, hS⟩ := h.map
  refine ⟨h.nds, h.blk.kept hk (hF b h.inb), h.wide.kept hk (fun j hj => hF j (h.inv j hj)), ⟨D, ?_, hS⟩, h.vb, h.vm, h.bm, h.inb, h.inm, h.inv, h.low.keep hk.size⟩
  obtain ⟨es, clock, hb, Fi, hs, hDD⟩ := hD
  exact ⟨es, clock, (hk.block m (h.low m h.inm) (hF m h.inm)).trans hb, Fi, hs, hDD⟩
theorem Tre.keep {w w' : World} {F G : List Nat} {b : Nat} {t : List Nd} {most : Int} (h : Tre w F b t most) (hk : Kept G w w') (hF : Away F G) : Tre w' F b t most := by
  obtain ⟨G0, m, v, h⟩ := h
  exact ⟨G0, m, v, h.keep hk hF⟩
theorem TreM.below {w w' : World} {F : List Nat} {b m : Nat} {v : Value} {t tm : List Nd} {most : Int} (h : TreM w F b m v t tm most) (hb : Below w.heap.size w w') : TreM w' F b m v t tm most := h.keep (Kept.of_below [] hb) (fun _ _ hx => by cases hx)
theorem Tre.below {w w' : World} {F : List Nat} {b : Nat} {t : List Nd} {most : Int} (h : Tre w F b t most) (hb : Below w.heap.size w w') : Tre w' F b t most := h.keep (Kept.of_below [] hb) (fun _ _ hx => by cases hx)
theorem Tre.low {w : World} {F : List Nat} {b : Nat} {t : List Nd} {most : Int} (h : Tre w F b t most) : Low w F := by
  obtain ⟨_, m, v, h⟩ := h
  exact h.low

/-- A look-up in the map of places. -/
theorem look_yes {w : World} {m n : Nat} {D : DataW Unit} {t : List Nd} (h : w.ownsMap Try.prog 23 (plainElem Try.prog 3) m n D) (hS : Says D t) {r : List UInt8} (hr : r.length = 32) (hm : r ∈ rs t) :
    (Instr.lookup 60 (.map (some m)) (.agg (bv r).toArray) true).run Try.prog w = .ok (.tuple #[.int .i64 (plc t r), .bool true]) w := by
  obtain ⟨v, ps, hrun, hv⟩ := h.look_ok Try.keyed Try.underlying60 (Try.zeroInt w) (plainElem_int Try.underlying3 (by decide)) (key_root hr)
  obtain ⟨c, rfl, hc, _⟩ := plainElem_int_inv Try.underlying3 hv
  rw [hS.at' r hr hm] at hc
  simp only [Prod.mk.injEq, DataW.lit.injEq, Lit.int.injEq, true_and] at hc
  rw [hrun, hS.has r hr, ← hc.1]
  simp [hm]
theorem look_no {w : World} {m n : Nat} {D : DataW Unit} {t : List Nd} (h : w.ownsMap Try.prog 23 (plainElem Try.prog 3) m n D) (hS : Says D t) {r : List UInt8} (hr : r.length = 32) (hm : r ∉ rs t) :
    (Instr.lookup 60 (.map (some m)) (.agg (bv r).toArray) true).run Try.prog w = .ok (.tuple #[.int .i64 0, .bool false]) w := by
  obtain ⟨v, ps, hrun, hv⟩ := h.look_ok Try.keyed Try.underlying60 (Try.zeroInt w) (plainElem_int Try.underlying3 (by decide)) (key_root hr)
  obtain ⟨c, rfl, hc, _⟩ := plainElem_int_inv Try.underlying3 hv
  have hh := hS.has r hr
  rw [decide_eq_false hm] at hh
  rw [Go.Maps.atKey_of_not_has hh] at hc
  simp only [Prod.mk.injEq, DataW.lit.injEq, Lit.int.injEq, true_and] at hc
  rw [hrun, hh, ← hc.1]

theorem place_any (w : World) (F : List Nat) (b : Nat) (t : List Nd) (most : Int) (r : List UInt8) (h : Tre w F b t most) (hr : r.length = 32) :
    Calls Try.prog 11 #[.pointer (some ⟨b, 0, none⟩), .agg (bv r).toArray] w fun e w' => e = .returned (.int .i64 (plc t r)) ∧ Below w.heap.size w w' := by
  obtain ⟨G0, m, v, h⟩ := h
  have hb1 : Below w.heap.size w (w.alloc (.cells (bv r).toArray 23)) := (Below.refl _ w).alloc (Nat.le_refl _) _
  have h1 := h.below hb1
  have hx := Blk.new w 23 (bv r).toArray
  obtain ⟨X, hX⟩ : ∃ X, X = w.heap.size := ⟨_, rfl⟩
  rw [List.toList_toArray, ← hX] at hx
  have HX := Lib.hid hx
  have H1 := Lib.hid h1
  have HB := Lib.hid hb1
  have HXe := Lib.hid hX
  clear h h1 hx
  go_enter Try.func11, Try.ntmps11
  go_upto_region 3 with fail
  rw [← HXe.out]
  generalize w.alloc (.cells (bv r).toArray 23) = w1 at H1 HX HB ⊢
  clear hX hb1
  have c1 := H1.out.blk.cell 1
  have HLD := Lib.hid (show ∀ w', (∃ nq, w' = w1.drewN nq) → ∀ j v, (bv r)[j]? = some v → w'.cell? ⟨X, 0 + j, none⟩ = some v by
    rintro w' ⟨nq, rfl⟩
    exact (HX.out.drewN nq).rootAll)
  obtain ⟨D, hD, hS⟩ := H1.out.map
  by_cases hm : r ∈ rs t
  · have hlk := fun nq => look_yes (w := w1.drewN nq) hD hS hr hm
    refine wp_region_quiet_lit (by kernel_rfl) (by kernel_rfl) ?_
    repeat (first | ((with_reducible refine wpQuiet_load_name (.tmp 3) ?_ ?_ X 0 r ?_ hr HLD.out ?_); rfl; rfl; rfl; simp only [Act.put, List.setIfInBounds_toArray, List.set_cons_zero, List.set_cons_succ]) | go_big_quiet_step (fail))
    refine wpQuiet_nil ?_
    rintro _ ⟨nq, rfl⟩
    go_wp2_with fail
    go_ret
    exact ⟨rfl, below_dN HB.out _⟩
  · have hlk := fun nq => look_no (w := w1.drewN nq) hD hS hr hm
    have HP := Lib.hid (plc_none hm)
    refine wp_region_quiet_lit (by kernel_rfl) (by kernel_rfl) ?_
    repeat (first | ((with_reducible refine wpQuiet_load_name (.tmp 3) ?_ ?_ X 0 r ?_ hr HLD.out ?_); rfl; rfl; rfl; simp only [Act.put, List.setIfInBounds_toArray, List.set_cons_zero, List.set_cons_succ]) | go_big_quiet_step (fail))
    refine wpQuiet_nil ?_
    rintro _ ⟨nq, rfl⟩
    go_wp2_with fail
    go_ret
    exact ⟨by rw [HP.out]; rfl, below_dN HB.out _⟩

theorem place_nil (w : World) (r : List UInt8) :
    Calls Try.prog 11 #[.pointer none, .agg (bv r).toArray] w fun e w' => e = .returned (.int .i64 (-1)) ∧ Below w.heap.size w w' := by
  have HB := Lib.hid (show Below w.heap.size w (w.alloc (.cells (bv r).toArray 23)) from (Below.refl _ w).alloc (Nat.le_refl _) _)
  go_enter Try.func11, Try.ntmps11
  go_wp2_with fail
  go_ret
  exact ⟨rfl, HB.out⟩

theorem Tre.slice {w : World} {F : List Nat} {b : Nat} {t : List Nd} {most : Int} (h : Tre w F b t most) : ∃ m ao cap bb off, TreR w F b m (.slice ao t.length cap) t most ∧ Lies w w.heap.size ao bb off (nv t) := by
  obtain ⟨G, m, v, h⟩ := h
  obtain ⟨ao, n, cap, bb, off, rfl, hn, hl⟩ := h.wide.lies
  rw [nv_length t h.nds] at hn
  obtain rfl : t.length = n := by omega
  exact ⟨m, ao, cap, bb, off, h, hl⟩

theorem len_any (w : World) (F : List Nat) (b : Nat) (t : List Nd) (most : Int) (h : Tre w F b t most) :
    Calls Try.prog 12 #[.pointer (some ⟨b, 0, none⟩)] w fun e w' => e = .returned (.int .i64 (t.length : Int)) ∧ w' = w := by
  obtain ⟨m, ao, cap, bb, off, h, _⟩ := h.slice
  have c0 := h.blk.cell 0
  clear h
  go_enter Try.func12, Try.ntmps12
  go_wp2_with fail
  go_ret
  exact ⟨rfl, rfl⟩
theorem len_nil (w : World) :
    Calls Try.prog 12 #[.pointer none] w fun e w' => e = .returned (.int .i64 0) ∧ w' = w := by
  go_enter Try.func12, Try.ntmps12
  go_wp2_with fail
  go_ret
  exact ⟨rfl, rfl⟩
theorem room_any (w : World) (F : List Nat) (b : Nat) (t : List Nd) (most : Int) (h : Tre w F b t most) :
    Calls Try.prog 13 #[.pointer (some ⟨b, 0, none⟩)] w fun e w' => e = .returned (.int .i64 (most - (t.length : Int))) ∧ ∃ n, w' = w.drewN n := by
  have g1 := h.1.most1
  have g2 := h.1.most256
  have g3 := h.1.room
  obtain ⟨m, ao, cap, bb, off, h, _⟩ := h.slice
  have c0 := h.blk.cell 0
  have c2 := h.blk.cell 2
  have HW := Lib.hid (show wrap64 (most - (t.length : Int)) = most - (t.length : Int) by unfold wrap64; omega)
  clear h
  go_enter Try.func13, Try.ntmps13
  go_wp2_with fail
  go_quiet (fail)
  go_wp2_with fail
  go_ret
  exact ⟨by first | rfl | (rw [← HW.out]; rfl), _, rfl⟩
theorem room_nil (w : World) :
    Calls Try.prog 13 #[.pointer none] w fun e w' => e = .returned (.int .i64 0) ∧ w' = w := by
  go_enter Try.func13, Try.ntmps13
  go_wp2_with fail
  go_ret
  exact ⟨rfl, rfl⟩

/-- What Node answers: the block, or none. -/
def nodeOr (t : List Nd) (i : Int) : Nd := (nodeAt t i).getD (zero32, 0, -1)
theorem Nds.nodeOr {t : List Nd} (h : Nds t) (i : Int) : (nodeOr t i).1.length = 32 := by
  unfold Go.Proofs.Ytmchjmcdlapegaa.nodeOr
  cases hn : nodeAt t i with
  | none => simp [zero32]
  | some n => obtain ⟨k, _, hk⟩ := nodeAt_some hn; exact h n (List.mem_of_getElem? hk)
theorem zero_cells : (ndv nd0) = [.int .u8 0, .int .u8 0, .int .u8 0, .int .u8 0, .int .u8 0, .int .u8 0, .int .u8 0, .int .u8 0, .int .u8 0, .int .u8 0, .int .u8 0, .int .u8 0, .int .u8 0, .int .u8 0, .int .u8 0, .int .u8 0, .int .u8 0, .int .u8 0, .int .u8 0, .int .u8 0, .int .u8 0, .int .u8 0, .int .u8 0, .int .u8 0, .int .u8 0, .int .u8 0, .int .u8 0, .int .u8 0, .int .u8 0, .int .u8 0, .int .u8 0, .int .u8 0, .int .i64 0, .int .i64 0] := rfl

theorem node_any (w : World) (F : List Nat) (b : Nat) (t : List Nd) (most : Int) (i : Int) (h : Tre w F b t most) :
    Calls Try.prog 26 #[.pointer (some ⟨b, 0, none⟩), .int .i64 i] w fun e w' => e = .returned (.tuple #[.agg (ndv (nodeOr t i)).toArray, .bool (nodeAt t i).isSome]) ∧ Below w.heap.size w w' := by
  have HB := Lib.hid (show Below w.heap.size w (w.alloc (.cells (ndv nd0).toArray 51)) from (Below.refl _ w).alloc (Nat.le_refl _) _)
  have h1 := h.below HB.out
  have hx := Blk.new w 51 (ndv nd0).toArray
  obtain ⟨X, hX⟩ : ∃ X, X = w.heap.size := ⟨_, rfl⟩
  rw [List.toList_toArray, ← hX] at hx
  have HX := Lib.hid hx
  have H1 := Lib.hid h1
  have HXe := Lib.hid hX
  clear h h1 hx
  go_enter Try.func26, Try.ntmps26
  go_upto_region 1 with fail
  rw [← HXe.out]
  rw [zero_cells] at H1 HX HB
  generalize w.alloc (.cells _ 51) = w1 at H1 HX HB ⊢
  rw [← zero_cells] at HX
  clear hX
  by_cases hi : 0 ≤ i ∧ i < (t.length : Int)
  · obtain ⟨k, rfl⟩ : ∃ k : Nat, i = (k : Int) := ⟨i.toNat, by omega⟩
    have hk : k < t.length := by omega
    have hn : t[k]? = some t[k] := List.getElem?_eq_getElem hk
    obtain ⟨n, hnn⟩ : ∃ n, n = t[k] := ⟨_, rfl⟩
    rw [← hnn] at hn
    have HNA := Lib.hid (show nodeAt t (k : Int) = some n by rw [nodeAt_nat]; exact hn)
    have HLE := Lib.hid (len_any w1 F b t most H1.out)
    obtain ⟨m, ao, cap, bb, off, hR, hl⟩ := H1.out.slice
    have ha := hl.node_addr hR.nds hn
    have HC := Lib.hid (hl.node hR.nds hn)
    have HNL := Lib.hid (hR.nds n (List.mem_of_getElem? hn))
    have HXL := Lib.hid (show nd0.1.length = 32 by simp [nd0, zero32])
    subst ha
    have c0 := hR.blk.cell 0
    have d1 : ¬ ((t.length : Int) ≤ (k : Int)) := by omega
    have HR := Lib.hid hR
    clear hR hl hn hnn hi
    go_wp2_with (first
      | (go_at_call 12; refine HLE.out.mono ?_; rintro e w' ⟨rfl, rfl⟩)
      | ((with_reducible refine wpList_load_node (.tmp 20) ?_ ?_ bb (off + k * 34) n ?_ HNL.out HC.out ?_); rfl; rfl; rfl)
      | ((with_reducible refine wpList_store_node (.tmp 4) (.tmp 21) ?_ ?_ X nd0 n ?_ ?_ HX.out HXL.out HNL.out ?_); rfl; rfl; rfl; rfl))
    refine ret_node rfl rfl (HX.out.setRow (ndv n)) HNL.out rfl ?_
    exact ⟨by rw [nodeOr, HNA.out]; rfl, below_row HB.out (by rw [HXe.out]; exact Nat.le_refl _) _⟩
  · have HNA := Lib.hid (show nodeAt t i = none by
      by_cases h0 : i < 0
      · exact nodeAt_neg h0
      · obtain ⟨k, rfl⟩ : ∃ k : Nat, i = (k : Int) := ⟨i.toNat, by omega⟩
        rw [nodeAt_nat]
        exact List.getElem?_eq_none (by omega))
    have HLE := Lib.hid (len_any w1 F b t most H1.out)
    have HBU := Lib.hid (built_none (-1))
    have HXL := Lib.hid (show nd0.1.length = 32 by simp [nd0, zero32])
    have HNL := Lib.hid (show ((zero32, 0, -1) : Nd).1.length = 32 by simp [zero32])
    by_cases h0 : i < 0
    · clear hi
      go_wp2_with (first
        | ((with_reducible refine wpList_build_any 51 _ ?_ ?_ _ HBU.out ?_); rfl; rfl)
        | ((with_reducible refine wpList_store_node (.tmp 4) (.tmp 14) ?_ ?_ X nd0 (zero32, 0, -1) ?_ ?_ HX.out HXL.out HNL.out ?_); rfl; rfl; rfl; rfl))
      refine ret_node rfl rfl (HX.out.setRow (ndv (zero32, 0, -1))) HNL.out rfl ?_
      exact ⟨by rw [nodeOr, HNA.out]; rfl, below_row HB.out (by rw [HXe.out]; exact Nat.le_refl _) _⟩
    · have d1 : (t.length : Int) ≤ i := by omega
      clear hi
      go_wp2_with (first
        | (go_at_call 12; refine HLE.out.mono ?_; rintro e w' ⟨rfl, rfl⟩)
        | ((with_reducible refine wpList_build_any 51 _ ?_ ?_ _ HBU.out ?_); rfl; rfl)
        | ((with_reducible refine wpList_store_node (.tmp 4) (.tmp 14) ?_ ?_ X nd0 (zero32, 0, -1) ?_ ?_ HX.out HXL.out HNL.out ?_); rfl; rfl; rfl; rfl))
      refine ret_node rfl rfl (HX.out.setRow (ndv (zero32, 0, -1))) HNL.out rfl ?_
      exact ⟨by rw [nodeOr, HNA.out]; rfl, below_row HB.out (by rw [HXe.out]; exact Nat.le_refl _) _⟩
end Go.Proofs.Ytmchjmcdlapegaa
