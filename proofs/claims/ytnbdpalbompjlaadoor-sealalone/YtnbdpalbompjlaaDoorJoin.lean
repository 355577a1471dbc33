/-
  Tags, joined bit against bit; what Join answers.
-/
import Derived.Test.YtnbdpalbompjlaaDoorM10
import Derived.Test.YtnbdpalbompjlaaDoorM4
namespace Go.Proofs.YtnbdpalbompjlaaDoor
open Go.RowKit
set_option maxRecDepth 10000

/-- Tags as cells. -/
def tv (ts : List (List UInt8)) : List Value := ts.flatMap bv
def Tags (ts : List (List UInt8)) : Prop := ∀ t ∈ ts, t.length = 16
theorem Tags.append {a b : List (List UInt8)} (ha : Tags a) (hb : Tags b) : Tags (a ++ b) := fun t ht => by
  rcases List.mem_append.1 ht with h | h
  · exact ha t h
  · exact hb t h
theorem Tags.take {a : List (List UInt8)} (ha : Tags a) (n : Nat) : Tags (a.take n) := fun t ht => ha t (List.mem_of_mem_take ht)
theorem Tags.drop {a : List (List UInt8)} (ha : Tags a) (n : Nat) : Tags (a.drop n) := fun t ht => ha t (List.mem_of_mem_drop ht)
theorem tv_append (a b : List (List UInt8)) : tv (a ++ b) = tv a ++ tv b := by simp [tv]
theorem tv_one (ts : List (List UInt8)) : ∀ v ∈ tv ts, v.oneCell' = true := by
  intro v hv
  rw [tv, List.mem_flatMap] at hv
  obtain ⟨t, _, h⟩ := hv
  exact bv_one t v h
theorem tv_length : ∀ (ts : List (List UInt8)), Tags ts → (tv ts).length = ts.length * 16
  | [], _ => rfl
  | t :: ts, h => by
    have h1 := tv_length ts (fun x hx => h x (List.mem_cons_of_mem _ hx))
    have h2 := h t List.mem_cons_self
    rw [tv, List.flatMap_cons, List.length_append, bv_length, ← tv, h1, h2, List.length_cons]
    omega
theorem tv_at : ∀ (ts : List (List UInt8)) (i j : Nat) (t : List UInt8), Tags ts → ts[i]? = some t → j < 16 → (tv ts)[i * 16 + j]? = (bv t)[j]?
  | [], i, j, t, _, h, _ => by simp at h
  | x :: ts, 0, j, t, hT, h, hj => by
    simp at h
    subst h
    rw [tv, List.flatMap_cons, Nat.zero_mul, Nat.zero_add, List.getElem?_append_left (by rw [bv_length, hT x List.mem_cons_self]; exact hj)]
  | x :: ts, i + 1, j, t, hT, h, hj => by
    have hx := hT x List.mem_cons_self
    rw [tv, List.flatMap_cons, List.getElem?_append_right (by rw [bv_length, hx]; omega), bv_length, hx, show (i + 1) * 16 + j - 16 = i * 16 + j by omega, ← tv]
    exact tv_at ts i j t (fun y hy => hT y (List.mem_cons_of_mem _ hy)) (by simpa using h) hj
theorem tv_take : ∀ (ts : List (List UInt8)) (i : Nat), Tags ts → tv (ts.take i) = (tv ts).take (i * 16)
  | _, 0, _ => by simp [tv]
  | [], i + 1, _ => by simp [tv]
  | t :: ts, i + 1, h => by
    have h2 := h t List.mem_cons_self
    have h1 := tv_take ts i (fun x hx => h x (List.mem_cons_of_mem _ hx))
    have e1 : tv (t :: ts) = bv t ++ tv ts := by rw [tv, List.flatMap_cons, ← tv]
    have e2 : tv (t :: ts.take i) = bv t ++ tv (ts.take i) := by rw [tv, List.flatMap_cons, ← tv]
    rw [List.take_succ_cons, e1, e2, h1, List.take_append, bv_length, h2, List.take_of_length_le (show (bv t).length ≤ (i + 1) * 16 by rw [bv_length]; omega), show (i + 1) * 16 - 16 = i * 16 by omega]
theorem tv_drop (ts : List (List UInt8)) (i : Nat) (h : Tags ts) : tv (ts.drop i) = (tv ts).drop (i * 16) := by
  have h1 : tv ts = tv (ts.take i) ++ tv (ts.drop i) := by rw [← tv_append, List.take_append_drop]
  have h2 := tv_length (ts.take i) (h.take i)
  by_cases hi : i ≤ ts.length
  · have h3 : (tv (ts.take i)).length = i * 16 := by rw [h2, List.length_take]; omega
    rw [h1, ← h3, List.drop_left]
  · rw [List.drop_of_length_le (by omega), List.drop_of_length_le (by rw [tv_length ts h]; omega)]; rfl

theorem Lies.tag {w : World} {B b off : Nat} {ao : Option Addr} {ts : List (List UInt8)} (h : Lies w B ao b off (tv ts)) (hT : Tags ts) {i : Nat} {t : List UInt8} (hi : ts[i]? = some t) : ∀ j v, (bv t)[j]? = some v → w.cell? ⟨b, off + i * 16 + j, none⟩ = some v := fun j v hj => by
  have hjl : j < 16 := by
    have := (List.getElem?_eq_some_iff.1 hj).1
    rw [bv_length, hT t (List.mem_of_getElem? hi)] at this
    exact this
  rw [Nat.add_assoc]
  exact h.cells _ v ((tv_at ts i j t hT hi hjl).trans hj)

/-- Sixteen bytes by their places. -/
def tagF (f : Nat → UInt8) : List UInt8 := (List.range 16).map f
theorem tagF_length (f : Nat → UInt8) : (tagF f).length = 16 := by simp [tagF]
theorem tagF_at (f : Nat → UInt8) (p : Nat) (h : p < 16) : (tagF f)[p]? = some (f p) := by simp [tagF, h]
theorem tagF_getD (f : Nat → UInt8) (p : Nat) (h : p < 16) : (tagF f).getD p 0 = f p := by rw [List.getD_eq_getElem?_getD, tagF_at f p h]; rfl
theorem tagF_ext {f g : Nat → UInt8} (h : ∀ p, p < 16 → f p = g p) : tagF f = tagF g := List.map_congr_left fun p hp => h p (List.mem_range.1 hp)
theorem tagF_set (f : Nat → UInt8) (p : Nat) (v : UInt8) : (tagF f).set p v = tagF fun q => if q = p then v else f q := by
  apply List.ext_getElem?
  intro q
  by_cases hq : q < 16
  · rw [tagF_at _ q hq, List.getElem?_set, tagF_length]
    by_cases h : p = q
    · subst h; simp [hq]
    · rw [if_neg h, tagF_at _ q hq, if_neg (fun e => h e.symm)]
  · rw [List.getElem?_eq_none (by rw [List.length_set, tagF_length]; omega), List.getElem?_eq_none (by rw [tagF_length]; omega)]
theorem tagF_of (t : List UInt8) (h : t.length = 16) : tagF (fun p => t.getD p 0) = t := by
  apply List.ext_getElem?
  intro q
  by_cases hq : q < 16
  · rw [tagF_at _ q hq]
    exact (getD_some t q (by omega)).symm
  · rw [List.getElem?_eq_none (by rw [tagF_length]; omega), List.getElem?_eq_none (by omega)]
theorem zb_tagF : zb 16 = bv (tagF fun _ => 0) := by rfl

/-- A byte of tags, joined. -/
def col (ts : List (List UInt8)) (p : Nat) : UInt8 := ts.foldl (fun a t => a ^^^ t.getD p 0) 0
def joined (ts : List (List UInt8)) : List UInt8 := tagF (col ts)
theorem joined_length (ts : List (List UInt8)) : (joined ts).length = 16 := tagF_length _
theorem col_from (p : Nat) : ∀ (ts : List (List UInt8)) (a : UInt8), ts.foldl (fun a t => a ^^^ t.getD p 0) a = a ^^^ col ts p
  | [], a => by simp [col]
  | t :: ts, a => by
    have h : col (t :: ts) p = t.getD p 0 ^^^ col ts p := by rw [col, List.foldl_cons, col_from p ts, UInt8.zero_xor]
    rw [List.foldl_cons, col_from p ts, h, UInt8.xor_assoc]
theorem col_append (a b : List (List UInt8)) (p : Nat) : col (a ++ b) p = col a p ^^^ col b p := by
  rw [col, List.foldl_append, col_from, ← col]
theorem col_one (t : List UInt8) (p : Nat) : col [t] p = t.getD p 0 := by simp [col]
theorem col_nil (p : Nat) : col [] p = 0 := rfl
theorem col_take (ts : List (List UInt8)) (i p : Nat) (t : List UInt8) (h : ts[i]? = some t) : col (ts.take (i + 1)) p = col (ts.take i) p ^^^ t.getD p 0 := by
  rw [List.take_add_one, h, col_append]; simp [col_one]

/-- Join's rounds: the first p bytes have the tag i too. -/
def half (ts : List (List UInt8)) (i q : Nat) : List UInt8 := tagF fun p => if p < q then col (ts.take (i + 1)) p else col (ts.take i) p

theorem half_zero (ts : List (List UInt8)) (i : Nat) : half ts i 0 = joined (ts.take i) := tagF_ext fun p _ => by simp
theorem half_all (ts : List (List UInt8)) (i : Nat) : half ts i 16 = joined (ts.take (i + 1)) := tagF_ext fun p hp => by simp [hp]
theorem half_at (ts : List (List UInt8)) (i q : Nat) (hq : q < 16) : (half ts i q)[q]? = some (col (ts.take i) q) := by
  rw [half, tagF_at _ q hq]; simp
theorem half_set (ts : List (List UInt8)) (i q : Nat) (t : List UInt8) (ht : ts[i]? = some t) (hq : q < 16) : (half ts i q).set q (col (ts.take i) q ^^^ t.getD q 0) = half ts i (q + 1) := by
  rw [half, tagF_set]
  refine tagF_ext fun p hp => ?_
  by_cases h : p = q
  · subst h; rw [if_pos rfl, if_pos (by omega), col_take ts i p t ht]
  · rw [if_neg h]
    by_cases h2 : p < q
    · rw [if_pos h2, if_pos (by omega)]
    · rw [if_neg h2, if_neg (by omega)]

def JoinRel (w : World) (ts : List (List UInt8)) (x : Value) (wr : World) : Prop :=
  ∃ i : Nat, x = .int .i64 (i : Int) ∧ i ≤ ts.length ∧ Blk wr (w.heap.size + 1) 30 (bv (joined (ts.take i))) ∧ Blk wr w.heap.size 30 (zb 16) ∧ Below w.heap.size w wr
def HalfRel (w : World) (ts : List (List UInt8)) (i : Nat) (x : Value) (wr : World) : Prop :=
  ∃ q : Nat, x = .int .i64 (q : Int) ∧ q ≤ 16 ∧ Blk wr (w.heap.size + 1) 30 (bv (half ts i q)) ∧ Blk wr w.heap.size 30 (zb 16) ∧ Below w.heap.size w wr

set_option maxHeartbeats 2000000 in
theorem join_any (w : World) (ao : Option Addr) (n cap b off : Nat) (ts : List (List UInt8)) (hT : Tags ts) (hn : ts.length = n) (hnn : n ≤ 100000) (hs : Lies w w.heap.size ao b off (tv ts)) :
    Calls Tryd.prog 23 #[.slice ao n cap] w fun e w' => e = .returned (.agg (bv (joined ts)).toArray) ∧ Below w.heap.size w w' := by
  have hzA := (zero_of_info Tryd.zero30).1
  have h1 := Blk.new (w.alloc (.cells (zb 16).toArray 30)) 30 (zb 16).toArray
  simp only [World.size_alloc] at h1
  have h0 := (Blk.new w 30 (zb 16).toArray).alloc (.cells (zb 16).toArray 30)
  have hB : Below w.heap.size w ((w.alloc (.cells (zb 16).toArray 30)).alloc (.cells (zb 16).toArray 30)) := ((Below.refl _ _).alloc (Nat.le_refl _) _).alloc (by simp) _
  have HS0 := Lib.hid (show JoinRel w ts (.int .i64 0) _ from ⟨0, rfl, Nat.zero_le _, h1, h0, hB⟩)
  have HS := Lib.hid hs
  have HN := Lib.hid hn
  have HTT := Lib.hid hT
  clear h1 h0 hB hs hn hT
  go_enter Tryd.func23, Tryd.ntmps23
  go_wp2_with fail
  go_loopw [5, 6, 7, 10] (fun _ _ _ x wr => JoinRel w ts x wr) (fun _ _ _ x _ => n - intN x)
  case atStart => exact HS0.out
  case round =>
    clear HS0
    obtain ⟨i, rfl, hi, h1, h0, hB⟩ := hrel
    by_cases hlt : i < n
    · have d0 : (i : Int) < (n : Int) := by omega
      obtain ⟨t, ht⟩ : ∃ t, ts[i]? = some t := ⟨_, List.getElem?_eq_getElem (by have := HN.out; omega)⟩
      obtain rfl := HS.out.addr (by rw [tv_length ts HTT.out]; have := HN.out; omega)
      have htl : t.length = 16 := HTT.out t (List.mem_of_getElem? ht)
      have HC := Lib.hid ((HS.out.keep hB).tag HTT.out ht)
      have HZT := Lib.hid (show (Tryd.prog.info? 30).map (·.size) = some (bv t).length by rw [bv_length, htl]; exact Tryd.size30)
      have hn5 := Blk.new wr 30 (zb 16).toArray
      have hlt1 := h1.lt
      have H5 := Lib.hid hn5
      have h5 := hn5.setRow (bv t)
      have HLL := Lib.hid (show 0 + (bv t).length ≤ (zb 16).toArray.toList.length by rw [bv_length, htl]; simp [zb_length])
      have HP := Lib.hid (splice_all (zb 16).toArray.toList (bv t) (by rw [bv_length, htl]; simp [zb_length]))
      have HC5 := Lib.hid h5.cells
      have hh0 := (h0.alloc (.cells (zb 16).toArray 30)).setRow_other (bv t).toArray (show w.heap.size ≠ wr.heap.size by omega)
      have hh1 := (h1.alloc (.cells (zb 16).toArray 30)).setRow_other (bv t).toArray (show w.heap.size + 1 ≠ wr.heap.size by omega)
      have hhB := below_setRow (hB.alloc hB.size (.cells (zb 16).toArray 30)) hB.size (bv t).toArray
      have HI := Lib.hid (show HalfRel w ts i (.int .i64 0) _ from ⟨0, rfl, by omega, by rw [half_zero]; exact hh1, hh0, hhB⟩)
      clear hn5 h5 hh0 hh1 hhB h0 h1 hB
      go_wp2_with (first
        | ((with_reducible refine wpList_load_cells ?_ 30 (.tmp 12) ?_ _ _ _ ?_ 16 5 HC.out Tryd.underlying30 HZT.out ?_); rfl; rfl; rfl)
        | ((with_reducible refine wpList_load_cells ?_ 30 (.tmp 5) ?_ _ _ _ ?_ 16 5 HC5.out Tryd.underlying30 HZT.out ?_); rfl; rfl; rfl)
        | ((with_reducible refine wpList_store_part ?_ 30 (.tmp 5) (.tmp 13) ?_ wr.heap.size 0 (bv t) ?_ ?_ 30 _ H5.out HZT.out HLL.out (bv_one _) ?_); rfl; rfl; rfl; rfl; rw [HP.out]))
      generalize (wr.alloc (.cells (zb 16).toArray 30)).setRow wr.heap.size (bv t).toArray = w2 at HI HC5 ⊢
      clear H5 HLL HP HC HC5
      go_loopw [6, 7, 15] (fun _ _ x wr => HalfRel w ts i x wr) (fun _ _ x _ => 16 - intN x)
      case atStart => exact HI.out
      case round =>
        clear HI
        obtain ⟨q, rfl, hq, h1, h0, hB⟩ := hrel
        by_cases hq16 : q < 16
        · have d1 : (q : Int) < 16 := by omega
          obtain ⟨c, hc⟩ : ∃ c, c = t.getD q 0 := ⟨_, rfl⟩
          obtain ⟨d, hd⟩ : ∃ d, d = col (ts.take i) q := ⟨_, rfl⟩
          have hix : ∀ w', (Instr.index 30 (.agg (bv t).toArray) (.int .i64 (q : Int))).run Tryd.prog w' = .ok (.int .u8 (c.toNat : Int)) w' := fun w' =>
            run_index_agg w' 30 5 16 .u8 _ q _ Tryd.underlying30 Tryd.size5 Tryd.underlying5 hq16 (by rw [List.getElem?_toArray]; exact bv_some (by rw [hc]; exact getD_some t q (by omega)))
          have qq := (h1.cell q).trans (bv_some (half_at ts i q hq16))
          rw [← hd] at qq
          have f := h1.free q
          have r := rule_xor8 d c
          have h1' := h1.set q (.int .u8 (((d ^^^ c).toNat : Nat) : Int))
          rw [bv_set, hd, hc, half_set ts i q t ht hq16, ← hc, ← hd] at h1'
          have H' := Lib.hid (show HalfRel w ts i (.int .i64 ((q : Int) + 1)) _ from ⟨q + 1, by simp, by omega, h1', h0.other ⟨w.heap.size + 1, q, none⟩ _ (by simp), hB.setCell (p := ⟨w.heap.size + 1, q, none⟩) (by simp) _⟩)
          clear h1 h0 hB h1' hc hd
          go_wp2_with fail
          refine ⟨H'.out, ?_⟩
          simp only [intN]
          omega
        · have eq : q = 16 := by omega
          subst eq
          have d1 : ¬ ((16 : Nat) : Int) < 16 := by omega
          rw [half_all] at h1
          have H' := Lib.hid (show JoinRel w ts (.int .i64 ((i : Int) + 1)) _ from ⟨i + 1, by simp, by have := HN.out; omega, h1, h0, hB⟩)
          clear h1 h0 hB
          go_wp2_with fail
          refine ⟨H'.out, ?_⟩
          simp only [intN]
          omega
    · obtain rfl : i = n := by have := HN.out; omega
      have d0 : ¬ (i : Int) < (i : Int) := by omega
      rw [← HN.out, List.take_length] at h1
      obtain ⟨T, hT⟩ : ∃ T, T = joined ts := ⟨_, rfl⟩
      have htk : T.length = 16 := by rw [hT]; exact joined_length ts
      rw [← hT] at h1
      have HTJ := Lib.hid hT
      have HC := Lib.hid (Blk.cells h1)
      have HR := Lib.hid h0
      have HZT := Lib.hid (show (Tryd.prog.info? 30).map (·.size) = some (bv T).length by rw [bv_length, htk]; exact Tryd.size30)
      have HLL := Lib.hid (show 0 + (bv T).length ≤ (zb 16).length by rw [bv_length, htk, zb_length]; omega)
      have HP := Lib.hid (splice_all (zb 16) (bv T) (by rw [bv_length, htk, zb_length]))
      have HR2 := Lib.hid (h0.setRow (bv T))
      have HB2 := Lib.hid (below_setRow hB (Nat.le_refl w.heap.size) (bv T).toArray)
      clear h1 h0 hB hT d0 hlt
      go_wp2_with (first
        | ((with_reducible refine wpList_load_cells ?_ 30 (.tmp 3) ?_ _ 0 _ ?_ 16 5 HC.out Tryd.underlying30 HZT.out ?_); rfl; rfl; rfl)
        | ((with_reducible refine wpList_store_part ?_ 30 (.tmp 2) (.tmp 27) ?_ w.heap.size 0 (bv T) ?_ ?_ 30 _ HR.out HZT.out HLL.out (bv_one _) ?_); rfl; rfl; rfl; rfl; rw [HP.out]))
      refine bodyPost_ret (v := .agg (bv T).toArray) ?_ rfl ⟨by rw [HTJ.out], HB2.out⟩
      exact results_cell_row rfl _ _ w.heap.size 30 _ (0, 0) (.array 16 5) rfl HR2.out Tryd.underlying30 rfl (by rw [List.size_toArray]; exact HZT.out)
end Go.Proofs.YtnbdpalbompjlaaDoor
