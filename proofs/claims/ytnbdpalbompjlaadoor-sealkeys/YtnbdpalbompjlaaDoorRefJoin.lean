/-
  What the reference's Join answers.
-/
import Derived.Test.YtnbdpalbompjlaaDoorJoin
namespace Go.Proofs.YtnbdpalbompjlaaDoor
open Go.RowKit
set_option maxRecDepth 10000

/-- The reference's rounds: byte p has the first i tags, those ahead of it all. -/
def part (ts : List (List UInt8)) (p i : Nat) : List UInt8 := tagF fun q => if q < p then col ts q else if q = p then col (ts.take i) q else 0
theorem part_start (ts : List (List UInt8)) : part ts 0 0 = tagF fun _ => 0 := tagF_ext fun p _ => by simp [col]
theorem part_next (ts : List (List UInt8)) (p : Nat) : part ts p ts.length = part ts (p + 1) 0 := tagF_ext fun q _ => by
  by_cases h1 : q < p
  · rw [if_pos h1, if_pos (by omega)]
  · rw [if_neg h1]
    by_cases h2 : q = p
    · rw [if_pos h2, if_pos (by omega), List.take_length]
    · rw [if_neg h2, if_neg (by omega)]; simp [col]
theorem part_all (ts : List (List UInt8)) (i : Nat) : part ts 16 i = joined ts := tagF_ext fun q hq => by rw [if_pos hq]
theorem part_at (ts : List (List UInt8)) (p i : Nat) (hp : p < 16) : (part ts p i)[p]? = some (col (ts.take i) p) := by
  rw [part, tagF_at _ p hp]; simp
theorem part_set (ts : List (List UInt8)) (p i : Nat) (t : List UInt8) (ht : ts[i]? = some t) : (part ts p i).set p (col (ts.take i) p ^^^ t.getD p 0) = part ts p (i + 1) := by
  rw [part, tagF_set]
  refine tagF_ext fun q _ => ?_
  by_cases h : q = p
  · subst h; rw [if_pos rfl, if_neg (by omega), if_pos rfl, col_take ts i q t ht]
  · rw [if_neg h, if_neg h, if_neg h]

def ColRel (w : World) (ts : List (List UInt8)) (x : Value) (wr : World) : Prop :=
  ∃ p : Nat, x = .int .i64 (p : Int) ∧ p ≤ 16 ∧ Blk wr (w.heap.size + 1) 30 (bv (part ts p 0)) ∧ Blk wr w.heap.size 30 (zb 16) ∧ Below w.heap.size w wr
def PartRel (w : World) (ts : List (List UInt8)) (p : Nat) (x : Value) (wr : World) : Prop :=
  ∃ i : Nat, x = .int .i64 (i : Int) ∧ i ≤ ts.length ∧ Blk wr (w.heap.size + 1) 30 (bv (part ts p i)) ∧ Blk wr w.heap.size 30 (zb 16) ∧ Below w.heap.size w wr

set_option maxHeartbeats 2000000 in
theorem refJoin_any (w : World) (ao : Option Addr) (n cap b off : Nat) (ts : List (List UInt8)) (hT : Tags ts) (hn : ts.length = n) (hnn : n ≤ 100000) (hs : Lies w w.heap.size ao b off (tv ts)) :
    Calls Tryd.prog 40 #[.slice ao n cap] w fun e w' => e = .returned (.agg (bv (joined ts)).toArray) ∧ Below w.heap.size w w' := by
  have hzA := (zero_of_info Tryd.zero30).1
  have h1 := Blk.new (w.alloc (.cells (zb 16).toArray 30)) 30 (zb 16).toArray
  simp only [World.size_alloc] at h1
  have h0 := (Blk.new w 30 (zb 16).toArray).alloc (.cells (zb 16).toArray 30)
  have hB : Below w.heap.size w ((w.alloc (.cells (zb 16).toArray 30)).alloc (.cells (zb 16).toArray 30)) := ((Below.refl _ _).alloc (Nat.le_refl _) _).alloc (by simp) _
  have HS0 := Lib.hid (show ColRel w ts (.int .i64 0) _ from ⟨0, rfl, by omega, by rw [part_start]; exact h1, h0, hB⟩)
  have HS := Lib.hid hs
  have HN := Lib.hid hn
  have HTT := Lib.hid hT
  clear h1 h0 hB hs hn hT
  go_enter Tryd.func40, Tryd.ntmps40
  go_wp2_with fail
  go_loopw [4, 6, 7] (fun _ _ x wr => ColRel w ts x wr) (fun _ _ x _ => 16 - intN x)
  case atStart => exact HS0.out
  case round =>
    clear HS0
    obtain ⟨p, rfl, hp, h1, h0, hB⟩ := hrel
    by_cases hlt : p < 16
    · have d0 : (p : Int) < 16 := by omega
      have HI := Lib.hid (show PartRel w ts p (.int .i64 0) _ from ⟨0, rfl, Nat.zero_le _, h1, h0, hB⟩)
      clear h1 h0 hB
      go_wp2_with fail
      go_loopw [6, 12] (fun _ x wr => PartRel w ts p x wr) (fun _ x _ => n - intN x)
      case atStart => exact HI.out
      case round =>
        clear HI
        obtain ⟨i, rfl, hi, h1, h0, hB⟩ := hrel
        by_cases hin : i < n
        · have d1 : (i : Int) < (n : Int) := by omega
          obtain ⟨t, ht⟩ : ∃ t, ts[i]? = some t := ⟨_, List.getElem?_eq_getElem (by have := HN.out; omega)⟩
          obtain rfl := HS.out.addr (by rw [tv_length ts HTT.out]; have := HN.out; omega)
          have htl : t.length = 16 := HTT.out t (List.mem_of_getElem? ht)
          have HC := Lib.hid ((HS.out.keep hB).tag HTT.out ht)
          have HZT := Lib.hid (show (Tryd.prog.info? 30).map (·.size) = some (bv t).length by rw [bv_length, htl]; exact Tryd.size30)
          have hn5 := Blk.new wr 30 (zb 16).toArray
          have hlt1 := h1.lt
          have H5 := Lib.hid hn5
          have h5 := hn5.setRow (bv t)
          have HLL := Lib.hid (show 0 + (bv t).length ≤ (zb 16).toArray.toList.length by rw [bv_length, htl]; simp [zb_length])
          have HP := Lib.hid (splice_all (zb 16).toArray.toList (bv t) (by rw [bv_length, htl]; simp [zb_length]))
          have hh0 := (h0.alloc (.cells (zb 16).toArray 30)).setRow_other (bv t).toArray (show w.heap.size ≠ wr.heap.size by omega)
          have hh1 := (h1.alloc (.cells (zb 16).toArray 30)).setRow_other (bv t).toArray (show w.heap.size + 1 ≠ wr.heap.size by omega)
          have hhB := below_setRow (hB.alloc hB.size (.cells (zb 16).toArray 30)) hB.size (bv t).toArray
          have HH0 := Lib.hid hh0
          have HH1 := Lib.hid hh1
          have HHB := Lib.hid hhB
          have HH5 := Lib.hid h5
          clear hn5 h5 hh0 hh1 hhB h0 h1 hB
          go_wp2_with (first
            | ((with_reducible refine wpList_load_cells ?_ 30 (.tmp 14) ?_ _ _ _ ?_ 16 5 HC.out Tryd.underlying30 HZT.out ?_); rfl; rfl; rfl)
            | ((with_reducible refine wpList_store_part ?_ 30 (.tmp 6) (.tmp 15) ?_ wr.heap.size 0 (bv t) ?_ ?_ 30 _ H5.out HZT.out HLL.out (bv_one _) ?_); rfl; rfl; rfl; rfl; rw [HP.out]))
          generalize (wr.alloc (.cells (zb 16).toArray 30)).setRow wr.heap.size (bv t).toArray = w2 at HH0 HH1 HHB HH5 ⊢
          clear H5 HLL HP HC
          obtain ⟨c, hc⟩ : ∃ c, c = t.getD p 0 := ⟨_, rfl⟩
          obtain ⟨d, hd⟩ : ∃ d, d = col (ts.take i) p := ⟨_, rfl⟩
          have q1 := (HH1.out.cell p).trans (bv_some (part_at ts p i hlt))
          rw [← hd] at q1
          have q2 := (HH5.out.cell p).trans (bv_some (x := c) (by rw [hc]; exact getD_some t p (by omega)))
          have r := rule_xor8 d c
          have HCC := Lib.hid hc
          have HDD := Lib.hid hd
          clear hc hd
          refine wp_region_draws_tail 8 (by kernel_rfl) (by kernel_rfl) ?_
          simp only [List.take_succ_cons, List.take_zero, List.drop_succ_cons, List.drop_zero]
          repeat (go_big_quiet_step (fail))
          refine wpQuiet_nil ?_
          rintro _ ⟨nq, rfl⟩
          have h1 := HH1.out.drewN nq
          have h0 := HH0.out.drewN nq
          have hB := below_drewN' HHB.out nq
          generalize w2.drewN nq = w3 at h1 h0 hB ⊢
          have qq := (h1.cell p).trans (bv_some (part_at ts p i hlt))
          rw [← HDD.out] at qq
          have f := h1.free p
          have h1' := h1.set p (.int .u8 (((d ^^^ c).toNat : Nat) : Int))
          rw [bv_set, HDD.out, HCC.out, part_set ts p i t ht, ← HCC.out, ← HDD.out] at h1'
          have H' := Lib.hid (show PartRel w ts p (.int .i64 ((i : Int) + 1)) _ from ⟨i + 1, by simp, by have := HN.out; omega, h1', h0.other ⟨w.heap.size + 1, p, none⟩ _ (by simp), hB.setCell (p := ⟨w.heap.size + 1, p, none⟩) (by simp) _⟩)
          clear h1 h0 hB h1' HCC HDD q1 q2 HH0 HH1 HHB HH5
          go_wp2_with fail
          refine ⟨H'.out, ?_⟩
          simp only [intN]
          omega
        · obtain rfl : i = n := by have := HN.out; omega
          have d1 : ¬ (i : Int) < (i : Int) := by omega
          rw [← HN.out, part_next] at h1
          have H' := Lib.hid (show ColRel w ts (.int .i64 ((p : Int) + 1)) _ from ⟨p + 1, by simp, by omega, h1, h0, hB⟩)
          clear h1 h0 hB
          go_wp2_with fail
          refine ⟨H'.out, ?_⟩
          simp only [intN]
          omega
    · have ep : p = 16 := by omega
      subst ep
      have d0 : ¬ ((16 : Nat) : Int) < 16 := by omega
      rw [part_all] at h1
      obtain ⟨T, hT⟩ : ∃ T, T = joined ts := ⟨_, rfl⟩
      have htk : T.length = 16 := by rw [hT]; exact joined_length ts
      rw [← hT] at h1
      have HTJ := Lib.hid hT
      have HC := Lib.hid (Blk.cells h1)
      have HR := Lib.hid h0
      have HZT := Lib.hid (show (Tryd.prog.info? 30).map (·.size) = some (bv T).length by rw [bv_length, htk]; exact Tryd.size30)
      have HLL := Lib.hid (show 0 + (bv T).length ≤ (zb 16).length by rw [bv_length, htk, zb_length]; omega)
      have HP := Lib.hid (splice_all (zb 16) (bv T) (by rw [bv_length, htk, zb_length]))
      have HR2 := Lib.hid (h0.setRow (bv T))
      have HB2 := Lib.hid (below_setRow hB (Nat.le_refl w.heap.size) (bv T).toArray)
      clear h1 h0 hB hT d0 hlt
      go_wp2_with (first
        | ((with_reducible refine wpList_load_cells ?_ 30 (.tmp 3) ?_ _ 0 _ ?_ 16 5 HC.out Tryd.underlying30 HZT.out ?_); rfl; rfl; rfl)
        | ((with_reducible refine wpList_store_part ?_ 30 (.tmp 2) (.tmp 27) ?_ w.heap.size 0 (bv T) ?_ ?_ 30 _ HR.out HZT.out HLL.out (bv_one _) ?_); rfl; rfl; rfl; rfl; rw [HP.out]))
      refine bodyPost_ret (v := .agg (bv T).toArray) ?_ rfl ⟨by rw [HTJ.out], HB2.out⟩
      exact results_cell_row rfl _ _ w.heap.size 30 _ (0, 0) (.array 16 5) rfl HR2.out Tryd.underlying30 rfl (by rw [List.size_toArray]; exact HZT.out)
end Go.Proofs.YtnbdpalbompjlaaDoor
