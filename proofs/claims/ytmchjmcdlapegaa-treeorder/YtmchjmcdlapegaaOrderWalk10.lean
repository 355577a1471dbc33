/-
  The walk of TreeOrder.
-/
import Derived.Test.YtmchjmcdlapegaaMade10
import Derived.Test.YtmchjmcdlapegaaTree1
import Derived.Test.YtmchjmcdlapegaaOnceWalk10
import Derived.Test.YtmchjmcdlapegaaFreeInv
import Derived.Lib.BytesEntry
namespace Go.Proofs.Ytmchjmcdlapegaa
open Go Go.RowKit
set_option maxRecDepth 10000

theorem three1 (w : World) : Blk (((w.alloc (.cells #[.int .u8 0, .int .u8 0, .int .u8 0, .int .u8 0, .int .u8 0, .int .u8 0, .int .u8 0, .int .u8 0, .int .u8 0, .int .u8 0, .int .u8 0, .int .u8 0, .int .u8 0, .int .u8 0, .int .u8 0, .int .u8 0, .int .u8 0, .int .u8 0, .int .u8 0, .int .u8 0, .int .u8 0, .int .u8 0, .int .u8 0, .int .u8 0, .int .u8 0, .int .u8 0, .int .u8 0, .int .u8 0, .int .u8 0, .int .u8 0, .int .u8 0, .int .u8 0] 23)).alloc (.cells #[.int .u8 0, .int .u8 0, .int .u8 0, .int .u8 0, .int .u8 0, .int .u8 0, .int .u8 0, .int .u8 0, .int .u8 0, .int .u8 0, .int .u8 0, .int .u8 0, .int .u8 0, .int .u8 0, .int .u8 0, .int .u8 0, .int .u8 0, .int .u8 0, .int .u8 0, .int .u8 0, .int .u8 0, .int .u8 0, .int .u8 0, .int .u8 0, .int .u8 0, .int .u8 0, .int .u8 0, .int .u8 0, .int .u8 0, .int .u8 0, .int .u8 0, .int .u8 0] 23)).alloc (.cells #[.int .u8 0, .int .u8 0, .int .u8 0, .int .u8 0, .int .u8 0, .int .u8 0, .int .u8 0, .int .u8 0, .int .u8 0, .int .u8 0, .int .u8 0, .int .u8 0, .int .u8 0, .int .u8 0, .int .u8 0, .int .u8 0, .int .u8 0, .int .u8 0, .int .u8 0, .int .u8 0, .int .u8 0, .int .u8 0, .int .u8 0, .int .u8 0, .int .u8 0, .int .u8 0, .int .u8 0, .int .u8 0, .int .u8 0, .int .u8 0, .int .u8 0, .int .u8 0] 23)) w.heap.size 23 (bv zero32) := (two_zeros w).alloc _
theorem three2 (w : World) (r : List UInt8) : Blk ((((w.alloc (.cells #[.int .u8 0, .int .u8 0, .int .u8 0, .int .u8 0, .int .u8 0, .int .u8 0, .int .u8 0, .int .u8 0, .int .u8 0, .int .u8 0, .int .u8 0, .int .u8 0, .int .u8 0, .int .u8 0, .int .u8 0, .int .u8 0, .int .u8 0, .int .u8 0, .int .u8 0, .int .u8 0, .int .u8 0, .int .u8 0, .int .u8 0, .int .u8 0, .int .u8 0, .int .u8 0, .int .u8 0, .int .u8 0, .int .u8 0, .int .u8 0, .int .u8 0, .int .u8 0] 23)).alloc (.cells #[.int .u8 0, .int .u8 0, .int .u8 0, .int .u8 0, .int .u8 0, .int .u8 0, .int .u8 0, .int .u8 0, .int .u8 0, .int .u8 0, .int .u8 0, .int .u8 0, .int .u8 0, .int .u8 0, .int .u8 0, .int .u8 0, .int .u8 0, .int .u8 0, .int .u8 0, .int .u8 0, .int .u8 0, .int .u8 0, .int .u8 0, .int .u8 0, .int .u8 0, .int .u8 0, .int .u8 0, .int .u8 0, .int .u8 0, .int .u8 0, .int .u8 0, .int .u8 0] 23)).alloc (.cells #[.int .u8 0, .int .u8 0, .int .u8 0, .int .u8 0, .int .u8 0, .int .u8 0, .int .u8 0, .int .u8 0, .int .u8 0, .int .u8 0, .int .u8 0, .int .u8 0, .int .u8 0, .int .u8 0, .int .u8 0, .int .u8 0, .int .u8 0, .int .u8 0, .int .u8 0, .int .u8 0, .int .u8 0, .int .u8 0, .int .u8 0, .int .u8 0, .int .u8 0, .int .u8 0, .int .u8 0, .int .u8 0, .int .u8 0, .int .u8 0, .int .u8 0, .int .u8 0] 23)).setRow w.heap.size (bv r).toArray) (w.heap.size + 1) 23 (bv zero32) := by
  have h := two_zeros (w.alloc (.cells #[.int .u8 0, .int .u8 0, .int .u8 0, .int .u8 0, .int .u8 0, .int .u8 0, .int .u8 0, .int .u8 0, .int .u8 0, .int .u8 0, .int .u8 0, .int .u8 0, .int .u8 0, .int .u8 0, .int .u8 0, .int .u8 0, .int .u8 0, .int .u8 0, .int .u8 0, .int .u8 0, .int .u8 0, .int .u8 0, .int .u8 0, .int .u8 0, .int .u8 0, .int .u8 0, .int .u8 0, .int .u8 0, .int .u8 0, .int .u8 0, .int .u8 0, .int .u8 0] 23))
  rw [show (w.alloc (.cells #[.int .u8 0, .int .u8 0, .int .u8 0, .int .u8 0, .int .u8 0, .int .u8 0, .int .u8 0, .int .u8 0, .int .u8 0, .int .u8 0, .int .u8 0, .int .u8 0, .int .u8 0, .int .u8 0, .int .u8 0, .int .u8 0, .int .u8 0, .int .u8 0, .int .u8 0, .int .u8 0, .int .u8 0, .int .u8 0, .int .u8 0, .int .u8 0, .int .u8 0, .int .u8 0, .int .u8 0, .int .u8 0, .int .u8 0, .int .u8 0, .int .u8 0, .int .u8 0] 23)).heap.size = w.heap.size + 1 by simp] at h
  exact h.setRow_other _ (by omega)
theorem three3 (w : World) (r q : List UInt8) : Blk (((((w.alloc (.cells #[.int .u8 0, .int .u8 0, .int .u8 0, .int .u8 0, .int .u8 0, .int .u8 0, .int .u8 0, .int .u8 0, .int .u8 0, .int .u8 0, .int .u8 0, .int .u8 0, .int .u8 0, .int .u8 0, .int .u8 0, .int .u8 0, .int .u8 0, .int .u8 0, .int .u8 0, .int .u8 0, .int .u8 0, .int .u8 0, .int .u8 0, .int .u8 0, .int .u8 0, .int .u8 0, .int .u8 0, .int .u8 0, .int .u8 0, .int .u8 0, .int .u8 0, .int .u8 0] 23)).alloc (.cells #[.int .u8 0, .int .u8 0, .int .u8 0, .int .u8 0, .int .u8 0, .int .u8 0, .int .u8 0, .int .u8 0, .int .u8 0, .int .u8 0, .int .u8 0, .int .u8 0, .int .u8 0, .int .u8 0, .int .u8 0, .int .u8 0, .int .u8 0, .int .u8 0, .int .u8 0, .int .u8 0, .int .u8 0, .int .u8 0, .int .u8 0, .int .u8 0, .int .u8 0, .int .u8 0, .int .u8 0, .int .u8 0, .int .u8 0, .int .u8 0, .int .u8 0, .int .u8 0] 23)).alloc (.cells #[.int .u8 0, .int .u8 0, .int .u8 0, .int .u8 0, .int .u8 0, .int .u8 0, .int .u8 0, .int .u8 0, .int .u8 0, .int .u8 0, .int .u8 0, .int .u8 0, .int .u8 0, .int .u8 0, .int .u8 0, .int .u8 0, .int .u8 0, .int .u8 0, .int .u8 0, .int .u8 0, .int .u8 0, .int .u8 0, .int .u8 0, .int .u8 0, .int .u8 0, .int .u8 0, .int .u8 0, .int .u8 0, .int .u8 0, .int .u8 0, .int .u8 0, .int .u8 0] 23)).setRow w.heap.size (bv r).toArray).setRow (w.heap.size + 1) (bv q).toArray) (w.heap.size + 2) 23 (bv zero32) := by
  have h := blk_zeroR ((w.alloc (.cells #[.int .u8 0, .int .u8 0, .int .u8 0, .int .u8 0, .int .u8 0, .int .u8 0, .int .u8 0, .int .u8 0, .int .u8 0, .int .u8 0, .int .u8 0, .int .u8 0, .int .u8 0, .int .u8 0, .int .u8 0, .int .u8 0, .int .u8 0, .int .u8 0, .int .u8 0, .int .u8 0, .int .u8 0, .int .u8 0, .int .u8 0, .int .u8 0, .int .u8 0, .int .u8 0, .int .u8 0, .int .u8 0, .int .u8 0, .int .u8 0, .int .u8 0, .int .u8 0] 23)).alloc (.cells #[.int .u8 0, .int .u8 0, .int .u8 0, .int .u8 0, .int .u8 0, .int .u8 0, .int .u8 0, .int .u8 0, .int .u8 0, .int .u8 0, .int .u8 0, .int .u8 0, .int .u8 0, .int .u8 0, .int .u8 0, .int .u8 0, .int .u8 0, .int .u8 0, .int .u8 0, .int .u8 0, .int .u8 0, .int .u8 0, .int .u8 0, .int .u8 0, .int .u8 0, .int .u8 0, .int .u8 0, .int .u8 0, .int .u8 0, .int .u8 0, .int .u8 0, .int .u8 0] 23))
  rw [show ((w.alloc (.cells #[.int .u8 0, .int .u8 0, .int .u8 0, .int .u8 0, .int .u8 0, .int .u8 0, .int .u8 0, .int .u8 0, .int .u8 0, .int .u8 0, .int .u8 0, .int .u8 0, .int .u8 0, .int .u8 0, .int .u8 0, .int .u8 0, .int .u8 0, .int .u8 0, .int .u8 0, .int .u8 0, .int .u8 0, .int .u8 0, .int .u8 0, .int .u8 0, .int .u8 0, .int .u8 0, .int .u8 0, .int .u8 0, .int .u8 0, .int .u8 0, .int .u8 0, .int .u8 0] 23)).alloc (.cells #[.int .u8 0, .int .u8 0, .int .u8 0, .int .u8 0, .int .u8 0, .int .u8 0, .int .u8 0, .int .u8 0, .int .u8 0, .int .u8 0, .int .u8 0, .int .u8 0, .int .u8 0, .int .u8 0, .int .u8 0, .int .u8 0, .int .u8 0, .int .u8 0, .int .u8 0, .int .u8 0, .int .u8 0, .int .u8 0, .int .u8 0, .int .u8 0, .int .u8 0, .int .u8 0, .int .u8 0, .int .u8 0, .int .u8 0, .int .u8 0, .int .u8 0, .int .u8 0] 23)).heap.size = w.heap.size + 2 by simp] at h
  exact (h.setRow_other _ (by omega)).setRow_other _ (by omega)
theorem madeT_first (l : List Ad) : (madeT l)[0]? = some (nmN 0, 0, -1) := prefix_at (addAll_prefix 256 l root0) rfl
theorem nodeAt_root {t : List Nd} {i : Nat} {n : Nd} (h : t[i]? = some n) : nodeAt t (i : Int) = some n := by rw [nodeAt_nat, h]

attribute [local go_sem] root_eqW
set_option maxRecDepth 100000 in
set_option maxHeartbeats 8000000 in
theorem torder_any (w : World) (ao : Option Addr) (len cap g off : Nat) (l : List Ad) (a0 a1 a2 : Int) (hl : l.length = len) (h : Lies w w.heap.size ao g off (av l)) :
    Calls Try.prog 5 #[.slice ao len cap, .int .i64 a0, .int .i64 a1, .int .i64 a2] w fun e w' => e = .returned (.bool true) ∧ Below w.heap.size w w' := by
  have HL0 := Lib.hid h
  have HN := Lib.hid hl
  clear h hl
  go_enter Try.func5, Try.ntmps5
  go_wp2_with fail
  refine (alive_any w).mono ?_
  rintro e w1 ⟨rfl, hbc⟩
  have HB := Lib.hid hbc
  have HL := Lib.hid (HL0.out.below hbc)
  clear hbc HL0
  by_cases h1 : (100 : Int) < (len : Int)
  · go_wp2_with fail
    go_ret
    exact ⟨rfl, HB.out⟩
  go_wp2_with fail
  refine (made_any w1 ao len cap g off l HN.out (by omega) HL.out).mono ?_
  rintro e w2 ⟨F, G, b, m, rfl, ht, _, _, _, _, hbc⟩
  have HT := Lib.hid ht
  have HR := Lib.hid (madeT_first l)
  replace HB := Lib.hid (HB.out.trans (hbc.mono HB.out.size))
  clear ht hbc HL
  generalize madeT l = t at HT HR
  have HG := Lib.hid HT.out.1
  go_wp2_with fail
  go_loopw [11] (fun i wr => ∃ (j : Nat), 1 ≤ j ∧ j ≤ t.length ∧ i = .int .i64 j ∧ Hid (Tre wr F b t 256) ∧ Hid (Below w.heap.size w wr)) (fun i _ => t.length - (intOf i).toNat)
  case atStart => exact ⟨1, Nat.le_refl _, HG.out.pos, rfl, HT, HB⟩
  case round =>
    clear HT HB
    obtain ⟨j, hj1, hj, rfl, HT, HB⟩ := hrel
    have HM256 := Lib.hid (show t.length ≤ 256 by have := HG.out.room; have := HG.out.most256; omega)
    by_cases hlt : j < t.length
    · obtain ⟨n, hn⟩ : ∃ n, t[j]? = some n := ⟨_, List.getElem?_eq_getElem hlt⟩
      have HNL := Lib.hid (show n.1.length = 32 from HG.out.nds n (List.mem_of_getElem? hn))
      obtain ⟨i', rfl⟩ : ∃ i', j = i' + 1 := ⟨j - 1, by omega⟩
      obtain ⟨q, p, hq, hqi, hp, hps⟩ := HG.out.par i' n hn
      have HPL := Lib.hid (show p.1.length = 32 from HG.out.nds p (List.mem_of_getElem? hp))
      have HQ := Lib.hid (show q < i' + 1 by omega)
      have HS := Lib.hid (show ¬ (n.2.1 ≤ p.2.1) by omega)
      have HN1 := Lib.hid (nodeOr_some hn)
      have HN2 := Lib.hid (nodeOr_some hp)
      have HBT := Lib.hid (HG.out.below_root HR.out hn)
      generalize hje : i' + 1 = j at *
      have HWR := Lib.hid (show wrap64 ((j : Int) + 1) = (j : Int) + 1 by have := HM256.out; unfold wrap64; omega)
      have HQE := Lib.hid hq
      clear hn hp hps hqi hq hje
      have hlt' : (j : Int) < (t.length : Int) := by omega
      have HLT := Lib.hid hlt
      have HJ1 := Lib.hid hj1
      clear hlt hj hj1
      go_wp2_with fail
      refine (len_any wr F b t 256 HT.out).mono ?_
      rintro e w4 ⟨rfl, hw⟩
      have hw := hw.symm
      subst hw
      go_wp2_with fail
      refine (node_any wr F b t 256 j HT.out).mono ?_
      rintro e w5 ⟨rfl, hbc⟩
      rw [HN1.out.1, HN1.out.2]
      replace HT := Lib.hid (HT.out.below hbc)
      replace HB := Lib.hid (HB.out.trans (hbc.mono HB.out.size))
      clear hbc
      have HZ := Lib.hid (blk_zero w5)
      have HZL := Lib.hid nd0_len
      have HX := Lib.hid (HZ.out.setRow (ndv n))
      have hbx : Below w5.heap.size w5 ((w5.alloc (.cells #[.int .u8 0, .int .u8 0, .int .u8 0, .int .u8 0, .int .u8 0, .int .u8 0, .int .u8 0, .int .u8 0, .int .u8 0, .int .u8 0, .int .u8 0, .int .u8 0, .int .u8 0, .int .u8 0, .int .u8 0, .int .u8 0, .int .u8 0, .int .u8 0, .int .u8 0, .int .u8 0, .int .u8 0, .int .u8 0, .int .u8 0, .int .u8 0, .int .u8 0, .int .u8 0, .int .u8 0, .int .u8 0, .int .u8 0, .int .u8 0, .int .u8 0, .int .u8 0, .int .i64 0, .int .i64 0] 51)).setRow w5.heap.size (ndv n).toArray) := below_row ((Below.refl _ w5).alloc (Nat.le_refl _) _) (Nat.le_refl _) _
      replace HT := Lib.hid (HT.out.below hbx)
      replace HB := Lib.hid (HB.out.trans (hbx.mono HB.out.size))
      clear hbx
      go_upto_region 10 with ((with_reducible refine wpList_store_node (.tmp 12) (.tmp 39) ?_ ?_ w5.heap.size nd0 n ?_ ?_ HZ.out HZL.out HNL.out ?_); rfl; rfl; rfl; rfl)
      generalize (w5.alloc (.cells #[.int .u8 0, .int .u8 0, .int .u8 0, .int .u8 0, .int .u8 0, .int .u8 0, .int .u8 0, .int .u8 0, .int .u8 0, .int .u8 0, .int .u8 0, .int .u8 0, .int .u8 0, .int .u8 0, .int .u8 0, .int .u8 0, .int .u8 0, .int .u8 0, .int .u8 0, .int .u8 0, .int .u8 0, .int .u8 0, .int .u8 0, .int .u8 0, .int .u8 0, .int .u8 0, .int .u8 0, .int .u8 0, .int .u8 0, .int .u8 0, .int .u8 0, .int .u8 0, .int .i64 0, .int .i64 0] 51)).setRow w5.heap.size (ndv n).toArray = w6 at HX HT HB ⊢
      generalize w5.heap.size = X at HX ⊢
      clear HZ HZL
      have c33 := HX.out.nodeParent HNL.out
      rw [HQE.out] at c33
      go_wp2_with fail
      refine (node_any w6 F b t 256 q HT.out).mono ?_
      rintro e w7 ⟨rfl, hbc⟩
      rw [HN2.out.1, HN2.out.2]
      replace HT := Lib.hid (HT.out.below hbc)
      replace HX := Lib.hid (HX.out.below hbc HX.out.lt)
      replace HB := Lib.hid (HB.out.trans (hbc.mono HB.out.size))
      clear hbc c33
      have HZ := Lib.hid (blk_zero w7)
      have HZL := Lib.hid nd0_len
      have HY := Lib.hid (HZ.out.setRow (ndv p))
      have hbx : Below w7.heap.size w7 ((w7.alloc (.cells #[.int .u8 0, .int .u8 0, .int .u8 0, .int .u8 0, .int .u8 0, .int .u8 0, .int .u8 0, .int .u8 0, .int .u8 0, .int .u8 0, .int .u8 0, .int .u8 0, .int .u8 0, .int .u8 0, .int .u8 0, .int .u8 0, .int .u8 0, .int .u8 0, .int .u8 0, .int .u8 0, .int .u8 0, .int .u8 0, .int .u8 0, .int .u8 0, .int .u8 0, .int .u8 0, .int .u8 0, .int .u8 0, .int .u8 0, .int .u8 0, .int .u8 0, .int .u8 0, .int .i64 0, .int .i64 0] 51)).setRow w7.heap.size (ndv p).toArray) := below_row ((Below.refl _ w7).alloc (Nat.le_refl _) _) (Nat.le_refl _) _
      replace HT := Lib.hid (HT.out.below hbx)
      replace HX := Lib.hid (HX.out.below hbx HX.out.lt)
      replace HB := Lib.hid (HB.out.trans (hbx.mono HB.out.size))
      clear hbx
      go_upto_region 11 with ((with_reducible refine wpList_store_node (.tmp 14) (.tmp 46) ?_ ?_ w7.heap.size nd0 p ?_ ?_ HZ.out HZL.out HPL.out ?_); rfl; rfl; rfl; rfl)
      generalize (w7.alloc (.cells #[.int .u8 0, .int .u8 0, .int .u8 0, .int .u8 0, .int .u8 0, .int .u8 0, .int .u8 0, .int .u8 0, .int .u8 0, .int .u8 0, .int .u8 0, .int .u8 0, .int .u8 0, .int .u8 0, .int .u8 0, .int .u8 0, .int .u8 0, .int .u8 0, .int .u8 0, .int .u8 0, .int .u8 0, .int .u8 0, .int .u8 0, .int .u8 0, .int .u8 0, .int .u8 0, .int .u8 0, .int .u8 0, .int .u8 0, .int .u8 0, .int .u8 0, .int .u8 0, .int .i64 0, .int .i64 0] 51)).setRow w7.heap.size (ndv p).toArray = w8' at HX HY HT HB ⊢
      generalize w7.heap.size = Y at HY ⊢
      clear HZ HZL
      refine wp_region_free (P := Try.prog) 23 (fun w' => Below w8'.heap.size w8' w') (fun oq v w' => match oq with
          | 0 => v = .bool true
          | 1 => v = .bool false
          | 2 => v = .bool false
          | 3 => v = .pointer (some ⟨X, 33, none⟩)
          | 4 => v = .int .i64 (q : Int)
          | 5 => v = .int .i64 (j : Int)
          | 6 => v = .bool false
          | 7 => v = .bool false
          | 8 => v = .bool false
          | 9 => v = .pointer (some ⟨Y, 32, none⟩)
          | 10 => v = .int .i64 p.2.1
          | 11 => v = .pointer (some ⟨X, 32, none⟩)
          | 12 => v = .int .i64 n.2.1
          | 13 => v = .bool false
          | 14 => v = .bool false
          | 15 => v = .bool false
          | 16 => v = .pointer (some ⟨b, 0, none⟩)
          | 17 => v = .agg (bv (nmN 0)).toArray
          | 18 => v = .pointer (some ⟨X, 0, none⟩)
          | 19 => v = .agg (bv n.1).toArray
          | 20 => v = .bool true
          | 21 => v = .bool false
          | 22 => v = .bool false
          | _ => True) (by kernel_rfl) (by kernel_rfl) (Below.refl _ _).drew ?gb ?vb ?steps ?fin
      case gb => exact fun a b h1 h2 => h1.trans (h2.mono h1.size)
      case vb =>
        intro oq v a b h hb
        match oq with
        | 0 => exact h
        | 1 => exact h
        | 2 => exact h
        | 3 => exact h
        | 4 => exact h
        | 5 => exact h
        | 6 => exact h
        | 7 => exact h
        | 8 => exact h
        | 9 => exact h
        | 10 => exact h
        | 11 => exact h
        | 12 => exact h
        | 13 => exact h
        | 14 => exact h
        | 15 => exact h
        | 16 => exact h
        | 17 => exact h
        | 18 => exact h
        | 19 => exact h
        | 20 => exact h
        | 21 => exact h
        | 22 => exact h
        | _ + 23 => trivial
      case steps =>
        intro vals
        simp only [List.take_succ_cons, List.take_zero, freeSteps, Act.put, List.setIfInBounds_toArray, List.set_cons_zero, List.set_cons_succ, Nat.reduceAdd]
        refine ⟨fun w8 hG hW => ?_, fun w8 hG hW => ?_, fun w8 hG hW => ?_, fun w8 hG hW => ?_, fun w8 hG hW => ?_, fun w8 hG hW => ?_, fun w8 hG hW => ?_, fun w8 hG hW => ?_, fun w8 hG hW => ?_, fun w8 hG hW => ?_, fun w8 hG hW => ?_, fun w8 hG hW => ?_, fun w8 hG hW => ?_, fun w8 hG hW => ?_, fun w8 hG hW => ?_, fun w8 hG hW => ?_, fun w8 hG hW => ?_, fun w8 hG hW => ?_, fun w8 hG hW => ?_, fun w8 hG hW => ?_, fun w8 hG hW => ?_, fun w8 hG hW => ?_, fun w8 hG hW => ?_, trivial⟩
        · clear hW
          refine stepAt_value rfl rfl rfl (.bool true) w8 ?_ ⟨rfl, Below.refl _ _⟩
          go_simp
        · have q0 := hW 0 (by decide)
          simp only at q0
          rw [q0]
          clear hW
          refine stepAt_value rfl rfl rfl (.bool false) w8 ?_ ⟨rfl, Below.refl _ _⟩
          go_simp
        · have q1 := hW 1 (by decide)
          simp only at q1
          rw [q1]
          clear hW
          refine stepAt_value rfl rfl rfl (.bool false) w8 ?_ ⟨rfl, Below.refl _ _⟩
          go_simp
        · have q2 := hW 2 (by decide)
          simp only at q2
          rw [q2]
          clear hW
          refine stepAt_value rfl rfl rfl (.pointer (some ⟨X, 33, none⟩)) w8 ?_ ⟨rfl, Below.refl _ _⟩
          go_simp
        · have q2 := hW 2 (by decide)
          simp only at q2
          have q3 := hW 3 (by decide)
          simp only at q3
          rw [q2, q3]
          clear hW
          refine stepAt_value rfl rfl rfl (.int .i64 (q : Int)) w8 ?_ ⟨rfl, Below.refl _ _⟩
          have hc := (HX.out.below hG HX.out.lt).nodeParent HNL.out
          rw [HQE.out] at hc
          go_simp
        · have q2 := hW 2 (by decide)
          simp only at q2
          rw [q2]
          clear hW
          refine stepAt_value rfl rfl rfl (.int .i64 (j : Int)) w8 ?_ ⟨rfl, Below.refl _ _⟩
          go_simp
        · have q2 := hW 2 (by decide)
          simp only at q2
          have q4 := hW 4 (by decide)
          simp only at q4
          have q5 := hW 5 (by decide)
          simp only at q5
          rw [q2, q4, q5]
          clear hW
          refine stepAt_value rfl rfl rfl (.bool false) w8 ?_ ⟨rfl, Below.refl _ _⟩
          have hh := HQ.out
          have hh2 : ¬ ((j : Int) ≤ (q : Int)) := by omega
          go_simp
        · have q2 := hW 2 (by decide)
          simp only at q2
          have q6 := hW 6 (by decide)
          simp only at q6
          rw [q2, q6]
          clear hW
          refine stepAt_value rfl rfl rfl (.bool false) w8 ?_ ⟨rfl, Below.refl _ _⟩
          go_simp
        · have q7 := hW 7 (by decide)
          simp only at q7
          rw [q7]
          clear hW
          refine stepAt_value rfl rfl rfl (.bool false) w8 ?_ ⟨rfl, Below.refl _ _⟩
          go_simp
        · have q8 := hW 8 (by decide)
          simp only at q8
          rw [q8]
          clear hW
          refine stepAt_value rfl rfl rfl (.pointer (some ⟨Y, 32, none⟩)) w8 ?_ ⟨rfl, Below.refl _ _⟩
          go_simp
        · have q8 := hW 8 (by decide)
          simp only at q8
          have q9 := hW 9 (by decide)
          simp only at q9
          rw [q8, q9]
          clear hW
          refine stepAt_value rfl rfl rfl (.int .i64 p.2.1) w8 ?_ ⟨rfl, Below.refl _ _⟩
          have hc := (HY.out.below hG HY.out.lt).nodeSlot HPL.out
          go_simp
        · have q8 := hW 8 (by decide)
          simp only at q8
          rw [q8]
          clear hW
          refine stepAt_value rfl rfl rfl (.pointer (some ⟨X, 32, none⟩)) w8 ?_ ⟨rfl, Below.refl _ _⟩
          go_simp
        · have q8 := hW 8 (by decide)
          simp only at q8
          have q11 := hW 11 (by decide)
          simp only at q11
          rw [q8, q11]
          clear hW
          refine stepAt_value rfl rfl rfl (.int .i64 n.2.1) w8 ?_ ⟨rfl, Below.refl _ _⟩
          have hc := (HX.out.below hG HX.out.lt).nodeSlot HNL.out
          go_simp
        · have q8 := hW 8 (by decide)
          simp only at q8
          have q10 := hW 10 (by decide)
          simp only at q10
          have q12 := hW 12 (by decide)
          simp only at q12
          rw [q8, q10, q12]
          clear hW
          refine stepAt_value rfl rfl rfl (.bool false) w8 ?_ ⟨rfl, Below.refl _ _⟩
          have hh := HS.out
          go_simp
        · have q8 := hW 8 (by decide)
          simp only at q8
          have q13 := hW 13 (by decide)
          simp only at q13
          rw [q8, q13]
          clear hW
          refine stepAt_value rfl rfl rfl (.bool false) w8 ?_ ⟨rfl, Below.refl _ _⟩
          go_simp
        · have q14 := hW 14 (by decide)
          simp only at q14
          rw [q14]
          clear hW
          refine stepAt_value rfl rfl rfl (.bool false) w8 ?_ ⟨rfl, Below.refl _ _⟩
          go_simp
        · have q15 := hW 15 (by decide)
          simp only at q15
          rw [q15]
          clear hW
          refine stepAt_value rfl rfl rfl (.pointer (some ⟨b, 0, none⟩)) w8 ?_ ⟨rfl, Below.refl _ _⟩
          go_simp
        · have q15 := hW 15 (by decide)
          simp only at q15
          rw [q15]
          clear hW
          refine stepAt_call rfl rfl rfl 20 #[.int .i64 0] (by go_simp) ((name_any w8 0).mono fun e w' ⟨h1, h2⟩ => ⟨_, h1, rfl, h2⟩)
        · have q15 := hW 15 (by decide)
          simp only at q15
          rw [q15]
          clear hW
          refine stepAt_value rfl rfl rfl (.pointer (some ⟨X, 0, none⟩)) w8 ?_ ⟨rfl, Below.refl _ _⟩
          go_simp
        · have q15 := hW 15 (by decide)
          simp only at q15
          have q18 := hW 18 (by decide)
          simp only at q18
          rw [q15, q18]
          clear hW
          exact stepAt_load_run rfl rfl rfl _ _ rfl _ _ rfl (run_load_root HNL.out (HX.out.below hG HX.out.lt).nodeName) ⟨rfl, Below.refl _ _⟩
        · have q15 := hW 15 (by decide)
          simp only at q15
          have q16 := hW 16 (by decide)
          simp only at q16
          have q17 := hW 17 (by decide)
          simp only at q17
          have q19 := hW 19 (by decide)
          simp only at q19
          rw [q15, q16, q17, q19]
          clear hW
          refine stepAt_call rfl rfl rfl 14 #[.pointer (some ⟨b, 0, none⟩), .agg (bv (nmN 0)).toArray, .agg (bv n.1).toArray] (by go_simp) ((below_any w8 F b t 256 (nmN 0) n.1 (HT.out.below hG) (nmN_len 0) HNL.out).mono fun e w' ⟨h1, h2⟩ => ⟨_, h1, by rw [HBT.out], h2⟩)
        · have q15 := hW 15 (by decide)
          simp only at q15
          have q20 := hW 20 (by decide)
          simp only at q20
          rw [q15, q20]
          clear hW
          refine stepAt_value rfl rfl rfl (.bool false) w8 ?_ ⟨rfl, Below.refl _ _⟩
          go_simp
        · have q15 := hW 15 (by decide)
          simp only at q15
          have q21 := hW 21 (by decide)
          simp only at q21
          rw [q15, q21]
          clear hW
          refine stepAt_value rfl rfl rfl (.bool false) w8 ?_ ⟨rfl, Below.refl _ _⟩
          go_simp
      case fin =>
        intro vals w10 hG hV
        have q22 : vals 22 = .bool false := hV 22 (by omega)
        simp only [List.take_succ_cons, List.take_zero, List.drop_succ_cons, List.drop_zero, putAll, Act.put, List.setIfInBounds_toArray, List.set_cons_zero, List.set_cons_succ, Nat.reduceAdd]
        rw [q22]
        clear hV q22
        generalize vals 0 = x0
        generalize vals 1 = x1
        generalize vals 2 = x2
        generalize vals 3 = x3
        generalize vals 4 = x4
        generalize vals 5 = x5
        generalize vals 6 = x6
        generalize vals 7 = x7
        generalize vals 8 = x8
        generalize vals 9 = x9
        generalize vals 10 = x10
        generalize vals 11 = x11
        generalize vals 12 = x12
        generalize vals 13 = x13
        generalize vals 14 = x14
        generalize vals 15 = x15
        generalize vals 16 = x16
        generalize vals 17 = x17
        generalize vals 18 = x18
        generalize vals 19 = x19
        generalize vals 20 = x20
        generalize vals 21 = x21
        replace HT := Lib.hid (HT.out.below hG)
        replace HB := Lib.hid (HB.out.trans (hG.mono HB.out.size))
        clear hG HX HY
        go_wp2_with fail
        have hlt := HLT.out
        have hj1 := HJ1.out
        have h256 := HM256.out
        go_roundw
        case rel => exact ⟨j + 1, by omega, by omega, by rw [HWR.out]; rfl, HT, HB⟩
        case measure => exact meas t.length j _ (by have := HWR.out; omega) hlt
    · have hlt' : ¬ (j : Int) < (t.length : Int) := by omega
      go_wp2_with fail
      refine (len_any wr F b t 256 HT.out).mono ?_
      rintro e w4 ⟨rfl, hw⟩
      have hw := hw.symm
      subst hw
      go_wp2_with fail
      refine (name_any wr a0).mono ?_
      rintro e v1 ⟨rfl, hbc⟩
      replace HT := Lib.hid (HT.out.below hbc)
      replace HB := Lib.hid (HB.out.trans (hbc.mono HB.out.size))
      clear hbc
      go_wp2_with fail
      refine (name_any v1 a1).mono ?_
      rintro e v2 ⟨rfl, hbc⟩
      replace HT := Lib.hid (HT.out.below hbc)
      replace HB := Lib.hid (HB.out.trans (hbc.mono HB.out.size))
      clear hbc
      go_wp2_with fail
      refine (name_any v2 a2).mono ?_
      rintro e v3 ⟨rfl, hbc⟩
      replace HT := Lib.hid (HT.out.below hbc)
      replace HB := Lib.hid (HB.out.trans (hbc.mono HB.out.size))
      clear hbc
      have HXL := Lib.hid (nmN_len a0)
      have HYL := Lib.hid (nmN_len a1)
      have HZL := Lib.hid (nmN_len a2)
      generalize nmN a0 = x at HXL ⊢
      generalize nmN a1 = y at HYL ⊢
      generalize nmN a2 = z at HZL ⊢
      have H01 := Lib.hid (three1 v3)
      have H02 := Lib.hid (three2 v3 x)
      have H03 := Lib.hid (three3 v3 x y)
      have H0L := Lib.hid zero32_len
      have HPX := Lib.hid (((H01.out.setRow (bv x)).setRow_other (bv y).toArray (show v3.heap.size ≠ v3.heap.size + 1 by omega)).setRow_other (bv z).toArray (show v3.heap.size ≠ v3.heap.size + 2 by omega))
      have HPY := Lib.hid ((H02.out.setRow (bv y)).setRow_other (bv z).toArray (show v3.heap.size + 1 ≠ v3.heap.size + 2 by omega))
      have HPZ := Lib.hid (H03.out.setRow (bv z))
      have hbx : Below v3.heap.size v3 ((((((v3.alloc (.cells #[.int .u8 0, .int .u8 0, .int .u8 0, .int .u8 0, .int .u8 0, .int .u8 0, .int .u8 0, .int .u8 0, .int .u8 0, .int .u8 0, .int .u8 0, .int .u8 0, .int .u8 0, .int .u8 0, .int .u8 0, .int .u8 0, .int .u8 0, .int .u8 0, .int .u8 0, .int .u8 0, .int .u8 0, .int .u8 0, .int .u8 0, .int .u8 0, .int .u8 0, .int .u8 0, .int .u8 0, .int .u8 0, .int .u8 0, .int .u8 0, .int .u8 0, .int .u8 0] 23)).alloc (.cells #[.int .u8 0, .int .u8 0, .int .u8 0, .int .u8 0, .int .u8 0, .int .u8 0, .int .u8 0, .int .u8 0, .int .u8 0, .int .u8 0, .int .u8 0, .int .u8 0, .int .u8 0, .int .u8 0, .int .u8 0, .int .u8 0, .int .u8 0, .int .u8 0, .int .u8 0, .int .u8 0, .int .u8 0, .int .u8 0, .int .u8 0, .int .u8 0, .int .u8 0, .int .u8 0, .int .u8 0, .int .u8 0, .int .u8 0, .int .u8 0, .int .u8 0, .int .u8 0] 23)).alloc (.cells #[.int .u8 0, .int .u8 0, .int .u8 0, .int .u8 0, .int .u8 0, .int .u8 0, .int .u8 0, .int .u8 0, .int .u8 0, .int .u8 0, .int .u8 0, .int .u8 0, .int .u8 0, .int .u8 0, .int .u8 0, .int .u8 0, .int .u8 0, .int .u8 0, .int .u8 0, .int .u8 0, .int .u8 0, .int .u8 0, .int .u8 0, .int .u8 0, .int .u8 0, .int .u8 0, .int .u8 0, .int .u8 0, .int .u8 0, .int .u8 0, .int .u8 0, .int .u8 0] 23)).setRow v3.heap.size (bv x).toArray).setRow (v3.heap.size + 1) (bv y).toArray).setRow (v3.heap.size + 2) (bv z).toArray) := below_row (below_row (below_row ((((Below.refl _ v3).alloc (Nat.le_refl _) _).alloc (by simp) _).alloc (by simp; omega) _) (Nat.le_refl _) _) (by omega) _) (by omega) _
      replace HT := Lib.hid (HT.out.below hbx)
      replace HB := Lib.hid (HB.out.trans (hbx.mono HB.out.size))
      clear hbx
      go_upto_region 14 with (first
        | ((with_reducible refine wpList_store_name (.tmp 16) (.tmp 72) ?_ ?_ v3.heap.size zero32 x ?_ ?_ H01.out H0L.out HXL.out ?_); rfl; rfl; rfl; rfl)
        | ((with_reducible refine wpList_store_name (.tmp 17) (.tmp 74) ?_ ?_ (v3.heap.size + 1) zero32 y ?_ ?_ H02.out H0L.out HYL.out ?_); rfl; rfl; rfl; rfl)
        | ((with_reducible refine wpList_store_name (.tmp 18) (.tmp 76) ?_ ?_ (v3.heap.size + 2) zero32 z ?_ ?_ H03.out H0L.out HZL.out ?_); rfl; rfl; rfl; rfl))
      generalize (((((v3.alloc (.cells #[.int .u8 0, .int .u8 0, .int .u8 0, .int .u8 0, .int .u8 0, .int .u8 0, .int .u8 0, .int .u8 0, .int .u8 0, .int .u8 0, .int .u8 0, .int .u8 0, .int .u8 0, .int .u8 0, .int .u8 0, .int .u8 0, .int .u8 0, .int .u8 0, .int .u8 0, .int .u8 0, .int .u8 0, .int .u8 0, .int .u8 0, .int .u8 0, .int .u8 0, .int .u8 0, .int .u8 0, .int .u8 0, .int .u8 0, .int .u8 0, .int .u8 0, .int .u8 0] 23)).alloc (.cells #[.int .u8 0, .int .u8 0, .int .u8 0, .int .u8 0, .int .u8 0, .int .u8 0, .int .u8 0, .int .u8 0, .int .u8 0, .int .u8 0, .int .u8 0, .int .u8 0, .int .u8 0, .int .u8 0, .int .u8 0, .int .u8 0, .int .u8 0, .int .u8 0, .int .u8 0, .int .u8 0, .int .u8 0, .int .u8 0, .int .u8 0, .int .u8 0, .int .u8 0, .int .u8 0, .int .u8 0, .int .u8 0, .int .u8 0, .int .u8 0, .int .u8 0, .int .u8 0] 23)).alloc (.cells #[.int .u8 0, .int .u8 0, .int .u8 0, .int .u8 0, .int .u8 0, .int .u8 0, .int .u8 0, .int .u8 0, .int .u8 0, .int .u8 0, .int .u8 0, .int .u8 0, .int .u8 0, .int .u8 0, .int .u8 0, .int .u8 0, .int .u8 0, .int .u8 0, .int .u8 0, .int .u8 0, .int .u8 0, .int .u8 0, .int .u8 0, .int .u8 0, .int .u8 0, .int .u8 0, .int .u8 0, .int .u8 0, .int .u8 0, .int .u8 0, .int .u8 0, .int .u8 0] 23)).setRow v3.heap.size (bv x).toArray).setRow (v3.heap.size + 1) (bv y).toArray).setRow (v3.heap.size + 2) (bv z).toArray = v4 at HPX HPY HPZ HB HT ⊢
      obtain ⟨PZ, hPZ⟩ : ∃ PZ, PZ = v3.heap.size + 2 := ⟨_, rfl⟩
      rw [← hPZ] at HPZ ⊢
      clear hPZ
      obtain ⟨PY, hPY⟩ : ∃ PY, PY = v3.heap.size + 1 := ⟨_, rfl⟩
      rw [← hPY] at HPY ⊢
      clear hPY
      obtain ⟨PX, hPX⟩ : ∃ PX, PX = v3.heap.size := ⟨_, rfl⟩
      rw [← hPX] at HPX ⊢
      clear hPX
      clear H01 H02 H03 H0L
      cases h1 : belowT t x y with
      | false =>
        have H1 := Lib.hid h1
        clear h1
        go_wp2_with (first | ((with_reducible refine wpList_load_name (.tmp 16) ?_ ?_ PX 0 x ?_ HXL.out HPX.out.rootAll ?_); rfl; rfl; rfl) | ((with_reducible refine wpList_load_name (.tmp 17) ?_ ?_ PY 0 y ?_ HYL.out HPY.out.rootAll ?_); rfl; rfl; rfl) | ((with_reducible refine wpList_load_name (.tmp 18) ?_ ?_ PZ 0 z ?_ HZL.out HPZ.out.rootAll ?_); rfl; rfl; rfl))
        refine (below_any v4 F b t 256 x y HT.out HXL.out HYL.out).mono ?_
        rintro e v5 ⟨rfl, hbc⟩
        replace HT := Lib.hid (HT.out.below hbc)
        replace HB := Lib.hid (HB.out.trans (hbc.mono HB.out.size))
        replace HPX := Lib.hid (HPX.out.below hbc HPX.out.lt)
        replace HPY := Lib.hid (HPY.out.below hbc HPY.out.lt)
        replace HPZ := Lib.hid (HPZ.out.below hbc HPZ.out.lt)
        clear hbc
        rw [H1.out]
        go_wp2_with (first | ((with_reducible refine wpList_load_name (.tmp 16) ?_ ?_ PX 0 x ?_ HXL.out HPX.out.rootAll ?_); rfl; rfl; rfl) | ((with_reducible refine wpList_load_name (.tmp 17) ?_ ?_ PY 0 y ?_ HYL.out HPY.out.rootAll ?_); rfl; rfl; rfl) | ((with_reducible refine wpList_load_name (.tmp 18) ?_ ?_ PZ 0 z ?_ HZL.out HPZ.out.rootAll ?_); rfl; rfl; rfl))
        refine (below_any v5 F b t 256 x y HT.out HXL.out HYL.out).mono ?_
        rintro e v6 ⟨rfl, hbc⟩
        replace HT := Lib.hid (HT.out.below hbc)
        replace HB := Lib.hid (HB.out.trans (hbc.mono HB.out.size))
        replace HPX := Lib.hid (HPX.out.below hbc HPX.out.lt)
        replace HPY := Lib.hid (HPY.out.below hbc HPY.out.lt)
        replace HPZ := Lib.hid (HPZ.out.below hbc HPZ.out.lt)
        clear hbc
        rw [H1.out]
        go_wp2_with (first | ((with_reducible refine wpList_load_name (.tmp 16) ?_ ?_ PX 0 x ?_ HXL.out HPX.out.rootAll ?_); rfl; rfl; rfl) | ((with_reducible refine wpList_load_name (.tmp 17) ?_ ?_ PY 0 y ?_ HYL.out HPY.out.rootAll ?_); rfl; rfl; rfl) | ((with_reducible refine wpList_load_name (.tmp 18) ?_ ?_ PZ 0 z ?_ HZL.out HPZ.out.rootAll ?_); rfl; rfl; rfl))
        go_ret
        exact ⟨rfl, HB.out⟩
      | true =>
        have H1 := Lib.hid h1
        clear h1
        go_wp2_with (first | ((with_reducible refine wpList_load_name (.tmp 16) ?_ ?_ PX 0 x ?_ HXL.out HPX.out.rootAll ?_); rfl; rfl; rfl) | ((with_reducible refine wpList_load_name (.tmp 17) ?_ ?_ PY 0 y ?_ HYL.out HPY.out.rootAll ?_); rfl; rfl; rfl) | ((with_reducible refine wpList_load_name (.tmp 18) ?_ ?_ PZ 0 z ?_ HZL.out HPZ.out.rootAll ?_); rfl; rfl; rfl))
        refine (below_any v4 F b t 256 x y HT.out HXL.out HYL.out).mono ?_
        rintro e v5 ⟨rfl, hbc⟩
        replace HT := Lib.hid (HT.out.below hbc)
        replace HB := Lib.hid (HB.out.trans (hbc.mono HB.out.size))
        replace HPX := Lib.hid (HPX.out.below hbc HPX.out.lt)
        replace HPY := Lib.hid (HPY.out.below hbc HPY.out.lt)
        replace HPZ := Lib.hid (HPZ.out.below hbc HPZ.out.lt)
        clear hbc
        rw [H1.out]
        cases h2 : belowT t y x with
        | false =>
          have H2 := Lib.hid h2
          clear h2
          go_wp2_with (first | ((with_reducible refine wpList_load_name (.tmp 16) ?_ ?_ PX 0 x ?_ HXL.out HPX.out.rootAll ?_); rfl; rfl; rfl) | ((with_reducible refine wpList_load_name (.tmp 17) ?_ ?_ PY 0 y ?_ HYL.out HPY.out.rootAll ?_); rfl; rfl; rfl) | ((with_reducible refine wpList_load_name (.tmp 18) ?_ ?_ PZ 0 z ?_ HZL.out HPZ.out.rootAll ?_); rfl; rfl; rfl))
          refine (below_any v5 F b t 256 y x HT.out HYL.out HXL.out).mono ?_
          rintro e v6 ⟨rfl, hbc⟩
          replace HT := Lib.hid (HT.out.below hbc)
          replace HB := Lib.hid (HB.out.trans (hbc.mono HB.out.size))
          replace HPX := Lib.hid (HPX.out.below hbc HPX.out.lt)
          replace HPY := Lib.hid (HPY.out.below hbc HPY.out.lt)
          replace HPZ := Lib.hid (HPZ.out.below hbc HPZ.out.lt)
          clear hbc
          rw [H2.out]
          go_wp2_with (first | ((with_reducible refine wpList_load_name (.tmp 16) ?_ ?_ PX 0 x ?_ HXL.out HPX.out.rootAll ?_); rfl; rfl; rfl) | ((with_reducible refine wpList_load_name (.tmp 17) ?_ ?_ PY 0 y ?_ HYL.out HPY.out.rootAll ?_); rfl; rfl; rfl) | ((with_reducible refine wpList_load_name (.tmp 18) ?_ ?_ PZ 0 z ?_ HZL.out HPZ.out.rootAll ?_); rfl; rfl; rfl))
          refine (below_any v6 F b t 256 x y HT.out HXL.out HYL.out).mono ?_
          rintro e v7 ⟨rfl, hbc⟩
          replace HT := Lib.hid (HT.out.below hbc)
          replace HB := Lib.hid (HB.out.trans (hbc.mono HB.out.size))
          replace HPX := Lib.hid (HPX.out.below hbc HPX.out.lt)
          replace HPY := Lib.hid (HPY.out.below hbc HPY.out.lt)
          replace HPZ := Lib.hid (HPZ.out.below hbc HPZ.out.lt)
          clear hbc
          rw [H1.out]
          cases h3 : belowT t y z with
          | false =>
            have H3 := Lib.hid h3
            clear h3
            go_wp2_with (first | ((with_reducible refine wpList_load_name (.tmp 16) ?_ ?_ PX 0 x ?_ HXL.out HPX.out.rootAll ?_); rfl; rfl; rfl) | ((with_reducible refine wpList_load_name (.tmp 17) ?_ ?_ PY 0 y ?_ HYL.out HPY.out.rootAll ?_); rfl; rfl; rfl) | ((with_reducible refine wpList_load_name (.tmp 18) ?_ ?_ PZ 0 z ?_ HZL.out HPZ.out.rootAll ?_); rfl; rfl; rfl))
            refine (below_any v7 F b t 256 y z HT.out HYL.out HZL.out).mono ?_
            rintro e v8 ⟨rfl, hbc⟩
            replace HT := Lib.hid (HT.out.below hbc)
            replace HB := Lib.hid (HB.out.trans (hbc.mono HB.out.size))
            replace HPX := Lib.hid (HPX.out.below hbc HPX.out.lt)
            replace HPY := Lib.hid (HPY.out.below hbc HPY.out.lt)
            replace HPZ := Lib.hid (HPZ.out.below hbc HPZ.out.lt)
            clear hbc
            rw [H3.out]
            go_wp2_with (first | ((with_reducible refine wpList_load_name (.tmp 16) ?_ ?_ PX 0 x ?_ HXL.out HPX.out.rootAll ?_); rfl; rfl; rfl) | ((with_reducible refine wpList_load_name (.tmp 17) ?_ ?_ PY 0 y ?_ HYL.out HPY.out.rootAll ?_); rfl; rfl; rfl) | ((with_reducible refine wpList_load_name (.tmp 18) ?_ ?_ PZ 0 z ?_ HZL.out HPZ.out.rootAll ?_); rfl; rfl; rfl))
            go_ret
            exact ⟨rfl, HB.out⟩
          | true =>
            have H3 := Lib.hid h3
            have H4 := Lib.hid (HG.out.below_trans H1.out h3)
            clear h3
            go_wp2_with (first | ((with_reducible refine wpList_load_name (.tmp 16) ?_ ?_ PX 0 x ?_ HXL.out HPX.out.rootAll ?_); rfl; rfl; rfl) | ((with_reducible refine wpList_load_name (.tmp 17) ?_ ?_ PY 0 y ?_ HYL.out HPY.out.rootAll ?_); rfl; rfl; rfl) | ((with_reducible refine wpList_load_name (.tmp 18) ?_ ?_ PZ 0 z ?_ HZL.out HPZ.out.rootAll ?_); rfl; rfl; rfl))
            refine (below_any v7 F b t 256 y z HT.out HYL.out HZL.out).mono ?_
            rintro e v8 ⟨rfl, hbc⟩
            replace HT := Lib.hid (HT.out.below hbc)
            replace HB := Lib.hid (HB.out.trans (hbc.mono HB.out.size))
            replace HPX := Lib.hid (HPX.out.below hbc HPX.out.lt)
            replace HPY := Lib.hid (HPY.out.below hbc HPY.out.lt)
            replace HPZ := Lib.hid (HPZ.out.below hbc HPZ.out.lt)
            clear hbc
            rw [H3.out]
            go_wp2_with (first | ((with_reducible refine wpList_load_name (.tmp 16) ?_ ?_ PX 0 x ?_ HXL.out HPX.out.rootAll ?_); rfl; rfl; rfl) | ((with_reducible refine wpList_load_name (.tmp 17) ?_ ?_ PY 0 y ?_ HYL.out HPY.out.rootAll ?_); rfl; rfl; rfl) | ((with_reducible refine wpList_load_name (.tmp 18) ?_ ?_ PZ 0 z ?_ HZL.out HPZ.out.rootAll ?_); rfl; rfl; rfl))
            refine (below_any v8 F b t 256 x z HT.out HXL.out HZL.out).mono ?_
            rintro e v9 ⟨rfl, hbc⟩
            replace HT := Lib.hid (HT.out.below hbc)
            replace HB := Lib.hid (HB.out.trans (hbc.mono HB.out.size))
            replace HPX := Lib.hid (HPX.out.below hbc HPX.out.lt)
            replace HPY := Lib.hid (HPY.out.below hbc HPY.out.lt)
            replace HPZ := Lib.hid (HPZ.out.below hbc HPZ.out.lt)
            clear hbc
            rw [H4.out]
            go_wp2_with (first | ((with_reducible refine wpList_load_name (.tmp 16) ?_ ?_ PX 0 x ?_ HXL.out HPX.out.rootAll ?_); rfl; rfl; rfl) | ((with_reducible refine wpList_load_name (.tmp 17) ?_ ?_ PY 0 y ?_ HYL.out HPY.out.rootAll ?_); rfl; rfl; rfl) | ((with_reducible refine wpList_load_name (.tmp 18) ?_ ?_ PZ 0 z ?_ HZL.out HPZ.out.rootAll ?_); rfl; rfl; rfl))
            go_ret
            exact ⟨rfl, HB.out⟩
        | true =>
          have H2 := Lib.hid h2
          obtain rfl := HG.out.below_same H1.out h2
          clear h2
          have hxl := HXL.out
          have hxx : (x == x) = true := beq_self_eq_true x
          go_wp2_with (first | ((with_reducible refine wpList_load_name (.tmp 16) ?_ ?_ PX 0 x ?_ HXL.out HPX.out.rootAll ?_); rfl; rfl; rfl) | ((with_reducible refine wpList_load_name (.tmp 17) ?_ ?_ PY 0 x ?_ HYL.out HPY.out.rootAll ?_); rfl; rfl; rfl) | ((with_reducible refine wpList_load_name (.tmp 18) ?_ ?_ PZ 0 z ?_ HZL.out HPZ.out.rootAll ?_); rfl; rfl; rfl))
          refine (below_any v5 F b t 256 x x HT.out HXL.out HXL.out).mono ?_
          rintro e v6 ⟨rfl, hbc⟩
          replace HT := Lib.hid (HT.out.below hbc)
          replace HB := Lib.hid (HB.out.trans (hbc.mono HB.out.size))
          replace HPX := Lib.hid (HPX.out.below hbc HPX.out.lt)
          replace HPY := Lib.hid (HPY.out.below hbc HPY.out.lt)
          replace HPZ := Lib.hid (HPZ.out.below hbc HPZ.out.lt)
          clear hbc
          rw [H2.out]
          go_wp2_with (first | ((with_reducible refine wpList_load_name (.tmp 16) ?_ ?_ PX 0 x ?_ HXL.out HPX.out.rootAll ?_); rfl; rfl; rfl) | ((with_reducible refine wpList_load_name (.tmp 17) ?_ ?_ PY 0 x ?_ HYL.out HPY.out.rootAll ?_); rfl; rfl; rfl) | ((with_reducible refine wpList_load_name (.tmp 18) ?_ ?_ PZ 0 z ?_ HZL.out HPZ.out.rootAll ?_); rfl; rfl; rfl))
          refine (below_any v6 F b t 256 x x HT.out HXL.out HXL.out).mono ?_
          rintro e v7 ⟨rfl, hbc⟩
          replace HT := Lib.hid (HT.out.below hbc)
          replace HB := Lib.hid (HB.out.trans (hbc.mono HB.out.size))
          replace HPX := Lib.hid (HPX.out.below hbc HPX.out.lt)
          replace HPY := Lib.hid (HPY.out.below hbc HPY.out.lt)
          replace HPZ := Lib.hid (HPZ.out.below hbc HPZ.out.lt)
          clear hbc
          rw [H1.out]
          cases h3 : belowT t x z with
          | false =>
            have H3 := Lib.hid h3
            clear h3
            go_wp2_with (first | ((with_reducible refine wpList_load_name (.tmp 16) ?_ ?_ PX 0 x ?_ HXL.out HPX.out.rootAll ?_); rfl; rfl; rfl) | ((with_reducible refine wpList_load_name (.tmp 17) ?_ ?_ PY 0 x ?_ HYL.out HPY.out.rootAll ?_); rfl; rfl; rfl) | ((with_reducible refine wpList_load_name (.tmp 18) ?_ ?_ PZ 0 z ?_ HZL.out HPZ.out.rootAll ?_); rfl; rfl; rfl))
            refine (below_any v7 F b t 256 x z HT.out HXL.out HZL.out).mono ?_
            rintro e v8 ⟨rfl, hbc⟩
            replace HT := Lib.hid (HT.out.below hbc)
            replace HB := Lib.hid (HB.out.trans (hbc.mono HB.out.size))
            replace HPX := Lib.hid (HPX.out.below hbc HPX.out.lt)
            replace HPY := Lib.hid (HPY.out.below hbc HPY.out.lt)
            replace HPZ := Lib.hid (HPZ.out.below hbc HPZ.out.lt)
            clear hbc
            rw [H3.out]
            go_wp2_with (first | ((with_reducible refine wpList_load_name (.tmp 16) ?_ ?_ PX 0 x ?_ HXL.out HPX.out.rootAll ?_); rfl; rfl; rfl) | ((with_reducible refine wpList_load_name (.tmp 17) ?_ ?_ PY 0 x ?_ HYL.out HPY.out.rootAll ?_); rfl; rfl; rfl) | ((with_reducible refine wpList_load_name (.tmp 18) ?_ ?_ PZ 0 z ?_ HZL.out HPZ.out.rootAll ?_); rfl; rfl; rfl))
            go_ret
            exact ⟨rfl, HB.out⟩
          | true =>
            have H3 := Lib.hid h3
            have H4 := Lib.hid (HG.out.below_trans H1.out h3)
            clear h3
            go_wp2_with (first | ((with_reducible refine wpList_load_name (.tmp 16) ?_ ?_ PX 0 x ?_ HXL.out HPX.out.rootAll ?_); rfl; rfl; rfl) | ((with_reducible refine wpList_load_name (.tmp 17) ?_ ?_ PY 0 x ?_ HYL.out HPY.out.rootAll ?_); rfl; rfl; rfl) | ((with_reducible refine wpList_load_name (.tmp 18) ?_ ?_ PZ 0 z ?_ HZL.out HPZ.out.rootAll ?_); rfl; rfl; rfl))
            refine (below_any v7 F b t 256 x z HT.out HXL.out HZL.out).mono ?_
            rintro e v8 ⟨rfl, hbc⟩
            replace HT := Lib.hid (HT.out.below hbc)
            replace HB := Lib.hid (HB.out.trans (hbc.mono HB.out.size))
            replace HPX := Lib.hid (HPX.out.below hbc HPX.out.lt)
            replace HPY := Lib.hid (HPY.out.below hbc HPY.out.lt)
            replace HPZ := Lib.hid (HPZ.out.below hbc HPZ.out.lt)
            clear hbc
            rw [H3.out]
            go_wp2_with (first | ((with_reducible refine wpList_load_name (.tmp 16) ?_ ?_ PX 0 x ?_ HXL.out HPX.out.rootAll ?_); rfl; rfl; rfl) | ((with_reducible refine wpList_load_name (.tmp 17) ?_ ?_ PY 0 x ?_ HYL.out HPY.out.rootAll ?_); rfl; rfl; rfl) | ((with_reducible refine wpList_load_name (.tmp 18) ?_ ?_ PZ 0 z ?_ HZL.out HPZ.out.rootAll ?_); rfl; rfl; rfl))
            refine (below_any v8 F b t 256 x z HT.out HXL.out HZL.out).mono ?_
            rintro e v9 ⟨rfl, hbc⟩
            replace HT := Lib.hid (HT.out.below hbc)
            replace HB := Lib.hid (HB.out.trans (hbc.mono HB.out.size))
            replace HPX := Lib.hid (HPX.out.below hbc HPX.out.lt)
            replace HPY := Lib.hid (HPY.out.below hbc HPY.out.lt)
            replace HPZ := Lib.hid (HPZ.out.below hbc HPZ.out.lt)
            clear hbc
            rw [H4.out]
            go_wp2_with (first | ((with_reducible refine wpList_load_name (.tmp 16) ?_ ?_ PX 0 x ?_ HXL.out HPX.out.rootAll ?_); rfl; rfl; rfl) | ((with_reducible refine wpList_load_name (.tmp 17) ?_ ?_ PY 0 x ?_ HYL.out HPY.out.rootAll ?_); rfl; rfl; rfl) | ((with_reducible refine wpList_load_name (.tmp 18) ?_ ?_ PZ 0 z ?_ HZL.out HPZ.out.rootAll ?_); rfl; rfl; rfl))
            go_ret
            exact ⟨rfl, HB.out⟩
end Go.Proofs.Ytmchjmcdlapegaa
