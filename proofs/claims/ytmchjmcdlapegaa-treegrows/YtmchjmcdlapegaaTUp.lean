/-
  The program's iterator from a block up to the first one.
-/
import Derived.Test.YtmchjmcdlapegaaTAll
import Derived.Test.YtmchjmcdlapegaaTAdd
import Derived.Test.YtmchjmcdlapegaaFreeS
import Derived.Test.YtmchjmcdlapegaaWideKeep
namespace Go.Proofs.Ytmchjmcdlapegaa
open Go Go.RowKit Go.Shelf
set_option maxRecDepth 10000
attribute [local go_sem] Oper.semAt_some

theorem execs_store {P : Program} {o : Oper} {a : Act} {w w' : World} {ty : TypeId} {x y : Operand} {p v : Value} (ho : o.op = .store ty x y) (hx : a.eval x = p) (hy : a.eval y = v) (hr : (Instr.storeAt ty p v).run P w = .ok () w') : (execOp a.eval o).run P w = .ok .skip w' := by
  unfold execOp
  simp only [ho, hx, hy, Sem.run_bind, hr, Result.andThen_ok]
  rfl

theorem up_any (w : World) (v : Option Addr) (y : List UInt8) : Calls Try.prog 28 #[.pointer v, .agg (bv y).toArray] w fun e w' => e = .returned (.func (.func 32) #[] #[.pointer (some ⟨w.heap.size, 0, none⟩), .pointer (some ⟨w.heap.size + 1, 0, none⟩)]) ∧ w' = (w.alloc (.cells #[.pointer v] 26)).alloc (.cells (bv y).toArray 23) := by
  go_enter Try.func28, Try.ntmps28
  go_wp2_with fail
  go_ret
  exact ⟨rfl, rfl⟩

/-- The chain of a place, and what is known of it: its blocks, as an iterator hands them over. -/
theorem Good.chn_nds {t : List Nd} {most : Int} (G : Good t most) : ∀ (k : Nat) (i : Int), i < (k : Int) → i < t.length → Nds (chn t i)
  | 0, i, h, _ => by rw [chn_neg (by omega)]; intro n hn; cases hn
  | k + 1, i, h, hl => by
    by_cases h0 : i < 0
    · rw [chn_neg h0]; intro n hn; cases hn
    · obtain ⟨j, rfl⟩ : ∃ j : Nat, i = (j : Int) := ⟨i.toNat, by omega⟩
      have h1 : t[j]? = some t[j] := List.getElem?_eq_getElem (by omega)
      have h2 := G.parent_lt h1
      rw [G.chn_some h1]
      intro n hn
      rcases List.mem_cons.1 hn with rfl | hn
      · exact G.nds _ (List.mem_of_getElem? h1)
      · exact Good.chn_nds G k _ (by omega) (by omega) n hn

/-- A store into memory of the iterator's own. -/
theorem grownBy_setRow (w : World) (g : Nat) (cs : Array Value) : w.grownBy (w.setRow g cs) (some g) :=
  ⟨rfl, rfl, rfl, by simp [World.setRow], fun k _ hk => Go.setRow_other w g k cs (fun e => hk (by rw [e]))⟩
theorem Blk.isCells {w : World} {g : Nat} {t : TypeId} {vs : List Value} (h : Blk w g t vs) : ∃ o, w.heap[g]? = some o ∧ o.isCells = true := ⟨_, h, rfl⟩

theorem Stays.below {LB R : Nat} {α : Type} {J : List α → World → Prop} (h : Stays LB R J) {s : List α} {W W' : World} (hb : Below W.heap.size W W') (hs : J s W) : J s W' :=
  h s W W' none hs ⟨hb.os, hb.tape, hb.output, hb.size, fun k hk _ => hb.block k hk⟩ (fun r e => by cases e)

/-- What holds between two rounds: the tree, the variable t's block, the block that is being handed over. -/
structure UpI (LB R : Nat) (F : List Nat) (b Bn X : Nat) (t : List Nd) (most : Int) (nd : Nd) (W : World) : Prop where
  tre : Tre W F b t most
  box : W.cell? ⟨Bn, 0, none⟩ = some (.pointer (some ⟨b, 0, none⟩))
  blk : Blk W X 51 (ndv nd)
  af : Away F (SB LB W)
  ab : Bn ∉ SB LB W
  ax : X ∉ SB LB W
theorem UpI.yield {LB R : Nat} {F : List Nat} {b Bn X : Nat} {t : List Nd} {most : Int} {nd : Nd} {A B : World} (h : UpI LB R F b Bn X t most nd A) (k : KpB LB R A B) (hF : ∀ x ∈ F, x < R) (hB : Bn < R) : UpI LB R F b Bn X t most nd B := by
  have hn : ∀ x, x < A.heap.size → x ∉ SB LB A → x ∉ SB LB B := fun x hx h1 h2 => by
    rcases k.grow x h2 with h3 | h3
    · exact h1 h3
    · omega
  exact ⟨k.tre h.tre hF h.af, k.cell h.box hB h.ab, (k.block X h.blk.lt h.ax (.inr h.blk.isCells)).trans h.blk, fun x hx => hn x (h.tre.low x hx) (h.af x hx), hn Bn (World.block_lt_of_cell? A ⟨Bn, 0, none⟩ h.box) h.ab, hn X h.blk.lt h.ax⟩
theorem UpI.below {LB R : Nat} {F : List Nat} {b Bn X : Nat} {t : List Nd} {most : Int} {nd : Nd} {A B : World} (h : UpI LB R F b Bn X t most nd A) (k : Below A.heap.size A B) (hLB : LB < A.heap.size) : UpI LB R F b Bn X t most nd B := by
  have e : SB LB B = SB LB A := SB.same (k.block LB hLB)
  exact ⟨h.tre.below k, (k.cell (p := ⟨Bn, 0, none⟩) (World.block_lt_of_cell? A ⟨Bn, 0, none⟩ h.box)).trans h.box, h.blk.below k h.blk.lt, by rw [e]; exact h.af, by rw [e]; exact h.ab, by rw [e]; exact h.ax⟩
theorem UpI.set {LB R : Nat} {F : List Nat} {b Bn X : Nat} {t : List Nd} {most : Int} {nd : Nd} {A : World} (h : UpI LB R F b Bn X t most nd A) (n : Nd) (hX : R ≤ X) (hF : ∀ x ∈ F, x < R) (hB : Bn < R) (hLB : LB < R) : UpI LB R F b Bn X t most n (A.setRow X (ndv n).toArray) := by
  have e : SB LB (A.setRow X (ndv n).toArray) = SB LB A := SB.same (Go.setRow_other A X LB _ (by omega))
  refine ⟨h.tre.moved (by simp [World.setRow]) (fun k hk => Go.setRow_other A X k _ (by have := hF k hk; omega)), ?_, h.blk.setRow _, by rw [e]; exact h.af, by rw [e]; exact h.ab, by rw [e]; exact h.ax⟩
  rw [World.cell?_of_block (a := ⟨Bn, 0, none⟩) (Go.setRow_other A X Bn _ (by omega))]
  exact h.box
theorem UpI.mine {LB R : Nat} {F : List Nat} {b Bn X : Nat} {t : List Nd} {most : Int} {nd : Nd} {A : World} (h : UpI LB R F b Bn X t most nd A) (hX : R ≤ X) {J : List Ndl → World → Prop} (hJ : Stays LB R J) {s : List Ndl} (hs : J s A) (cs : Array Value) : J s (A.setRow X cs) :=
  hJ s A _ (some X) hs (grownBy_setRow A X cs) (fun r e => by cases e; exact ⟨hX, h.ax, h.blk.isCells⟩)

/-- How many steps there may still be: read off the block that is being handed over. -/
def upM (X : Nat) (v : Value) (W : World) : Nat := (match v with | .bool true => 1 | _ => 0) + (match W.cell? ⟨X, 33, none⟩ with | some (.int _ p) => (p + 2).toNat | _ => 0)
theorem upM_eq {X : Nat} {W : World} {nd : Nd} (h : Blk W X 51 (ndv nd)) (hl : nd.1.length = 32) (ok : Bool) : upM X (.bool ok) W = (if ok then 1 else 0) + (nd.2.2 + 2).toNat := by
  unfold upM
  rw [h.nodeParent hl]
  cases ok <;> rfl
theorem Good.upM_lt {t : List Nd} {most : Int} (G : Good t most) {i : Nat} {n : Nd} (h : t[i]? = some n) : (if (nodeAt t n.2.2).isSome then 1 else 0) + ((nodeOr t n.2.2).2.2 + 2).toNat < 1 + (n.2.2 + 2).toNat := by
  cases i with
  | zero =>
    rw [G.fst n h, nodeOr, nodeAt_neg (show (-1 : Int) < 0 by omega)]
    decide
  | succ j =>
    obtain ⟨p, m, h1, h2, h3, _⟩ := G.par j n h
    have h4 := G.parent_lt h3
    rw [h1, nodeOr, nodeAt_nat, h3]
    simp only [Option.isSome_some, if_true, Option.getD_some]
    omega
theorem upM_dec {X : Nat} {A B : World} {n m : Nd} {ok : Bool} (hA : Blk A X 51 (ndv n)) (hB : Blk B X 51 (ndv m)) (h1 : n.1.length = 32) (h2 : m.1.length = 32) (h : (if ok then 1 else 0) + (m.2.2 + 2).toNat < 1 + (n.2.2 + 2).toNat) : upM X (.bool ok) B < upM X (.bool true) A := by
  rw [upM_eq hA h1, upM_eq hB h2]
  exact h

/-- Where an iterator from y on stands: these have come, the one at place i is next. -/
structure UpAt (t : List Nd) (y : List UInt8) (pre : List Ndl) (i : Int) : Prop where
  lo : -1 ≤ i
  hi : i < t.length
  cut : chn t (plc t y) = pre.map (·.1) ++ chn t i
theorem UpAt.next {t : List Nd} {most : Int} (G : Good t most) {y : List UInt8} {pre : List Ndl} {i : Nat} (h : UpAt t y pre (i : Int)) {n : Nd} (hn : t[i]? = some n) (hl : n.1.length = 32) : UpAt t y (pre ++ [⟨n, hl⟩]) n.2.2 := by
  have h1 := G.parent_lt hn
  have h2 := (List.getElem?_eq_some_iff.1 hn).1
  refine ⟨?_, by omega, by rw [h.cut, G.chn_some hn]; simp⟩
  cases i with
  | zero => rw [G.fst n hn]; decide
  | succ j =>
    obtain ⟨p, m, e, _⟩ := G.par j n hn
    rw [e]; omega
theorem UpAt.short {t : List Nd} {most : Int} (G : Good t most) {y : List UInt8} {pre : List Ndl} {i : Nat} (h : UpAt t y pre (i : Int)) {n : Nd} (hn : t[i]? = some n) : pre.length < t.length + 1 := by
  have h1 := congrArg List.length h.cut
  have h2 := G.chn_length t.length (plc t y) (by have := plc_lt t y; omega) (plc_lt t y)
  rw [G.chn_some hn] at h1
  simp at h1
  omega

set_option maxHeartbeats 8000000 in
theorem up_gives (LB R : Nat) (w : World) (F : List Nat) (b Bn Yn : Nat) (t : List Nd) (most : Int) (y : List UInt8) (hT : Tre w F b t most) (hBn : w.cell? ⟨Bn, 0, none⟩ = some (.pointer (some ⟨b, 0, none⟩))) (hYn : Blk w Yn 23 (bv y)) (hy : y.length = 32) (hR : R ≤ w.heap.size) (hLB : LB < R) (hF : ∀ x ∈ F, x < R) (hB : Bn < R) (hA : Away F (SB LB w)) (hAB : Bn ∉ SB LB w) (hLow : Low w (SB LB w)) :
    Gives (α := Ndl) Try.prog LB R 32 #[.pointer (some ⟨Bn, 0, none⟩), .pointer (some ⟨Yn, 0, none⟩)] (fun x => #[.agg (ndv x.1).toArray]) (fun xs => xs.map (·.1) = chn t (plc t y)) (fun xs => xs.map (·.1) <+: chn t (plc t y)) (t.length + 1) w := by
  intro l J Jx W hW hJ hJx hY h0
  have eS : SB LB W = SB LB w := SB.same (hW.block LB (by omega))
  have HT := Lib.hid (hT.below hW)
  have HBN := Lib.hid ((hW.cell (p := ⟨Bn, 0, none⟩) (by simp; omega)).trans hBn)
  have HBL := Lib.hid (show Bn < W.heap.size by have := hW.size; omega)
  have HYN := Lib.hid (hYn.below hW hYn.lt)
  have HA := Lib.hid (show Away F (SB LB W) by rw [eS]; exact hA)
  have HAB := Lib.hid (show Bn ∉ SB LB W by rw [eS]; exact hAB)
  have HLW := Lib.hid (show Low W (SB LB W) by rw [eS]; exact hLow.keep hW.size)
  have HRW := Lib.hid (show R ≤ W.heap.size by have := hW.size; omega)
  have HY := Lib.hid hY
  have HF := Lib.hid hF
  have HG := Lib.hid hT.1
  have HJS := Lib.hid hJ
  have HJ0 := Lib.hid h0
  clear hW hY eS hT hBn hA hAB hF hYn hJ hJx h0 hLow hR
  refine callsIn_of_wp Try.func32 rfl trivial ?_ rfl
  simp only [Try.ntmps32, List.size_toArray, List.length_cons, List.length_nil, Nat.reduceAdd, Nat.reduceSub, Array.replicate_succ, Array.replicate_zero, List.push_toArray, List.append_toArray, List.nil_append, List.cons_append]
  obtain ⟨nd, hnd⟩ : ∃ nd, nodeOr t (plc t y) = nd := ⟨_, rfl⟩
  obtain ⟨ok, hok⟩ : ∃ ok, (nodeAt t (plc t y)).isSome = ok := ⟨_, rfl⟩
  have HND := Lib.hid hnd
  have HOK := Lib.hid hok
  have HNL := Lib.hid (show nd.1.length = 32 by rw [← hnd]; exact HG.out.nds.nodeOr _)
  clear hnd hok
  gi_wp2
  refine wpIn_wide.2 ?_
  obtain ⟨w1, hw1⟩ : ∃ w1, w1 = W := ⟨_, rfl⟩
  subst hw1
  refine wp_region_freeT (P := Try.prog) 10 (fun w' => Below w1.heap.size w1 w') (fun oq v w' => match oq with
      | 0 => v = .pointer (some ⟨b, 0, none⟩)
      | 1 => v = .pointer (some ⟨b, 0, none⟩)
      | 2 => v = .agg (bv y).toArray
      | 3 => v = .int .i64 (plc t y)
      | 4 => v = .tuple #[.agg (ndv nd).toArray, .bool ok]
      | 5 => v = .tuple #[.agg (ndv nd).toArray, .bool ok]
      | 6 => v = .agg (ndv nd).toArray
      | 7 => v = .bool ok
      | 8 => ∃ g, v = .pointer (some ⟨g, 0, none⟩) ∧ w1.heap.size ≤ g ∧ Blk w' g 51 (ndv nd0)
      | 9 => True
      | _ => True) (fun hh oq => match oq with
      | 8 => hh 9
      | _ => false) [(9, 0), (9, 1), (9, 2), (9, 3), (9, 4), (9, 5), (9, 6), (9, 8)] 9 (by decide) (fun s w' => ∃ g, s 8 = .pointer (some ⟨g, 0, none⟩) ∧ w1.heap.size ≤ g ∧ Blk w' g 51 (ndv nd)) (by kernel_rfl) (by kernel_rfl) (by kernel_rfl) (Below.refl _ _).drew ?gb ?vb ?db ?steps ?fin
  case gb => exact fun a b h1 h2 => h1.trans (h2.mono h1.size)
  case vb =>
    intro oq v a b h hb
    match oq with
    | 0 => exact h
    | 1 => exact h
    | 2 => exact h
    | 3 => exact h
    | 4 => exact h
    | 5 => exact h
    | 6 => exact h
    | 7 => exact h
    | 8 => (obtain ⟨g, h1, h2, h3⟩ := h; exact ⟨g, h1, h2, h3.below hb h3.lt⟩)
    | 9 => trivial
    | _ + 10 => trivial
  case db =>
    intro hh i oq h
    split at h
    · exact turnOn_of h
    · cases h
  case steps =>
    intro vals
    simp only [List.take_succ_cons, List.take_zero, freeStepsT, Act.put, List.setIfInBounds_toArray, List.set_cons_zero, List.set_cons_succ, Nat.reduceAdd]
    refine ⟨fun hh w8 hi hK hG hW hV => ?_, fun hh w8 hi hK hG hW hV => ?_, fun hh w8 hi hK hG hW hV => ?_, fun hh w8 hi hK hG hW hV => ?_, fun hh w8 hi hK hG hW hV => ?_, fun hh w8 hi hK hG hW hV => ?_, fun hh w8 hi hK hG hW hV => ?_, fun hh w8 hi hK hG hW hV => ?_, fun hh w8 hi hK hG hW hV => ?_, fun hh w8 hi hK hG hW hV => ?_, trivial⟩
    · refine stepS_early (by decide) (by decide) hK hi (stepS_of rfl ?_)
      clear hW hV hK hi
      refine stepAt_value rfl rfl rfl (.pointer (some ⟨b, 0, none⟩)) w8 ?_ ⟨rfl, .inl (Below.refl _ _)⟩
      have hh := (hG.cell (p := ⟨Bn, 0, none⟩) HBL.out).trans HBN.out
      go_simp
    · refine stepS_early (by decide) (by decide) hK hi (stepS_of rfl ?_)
      clear hW hV hK hi
      refine stepAt_value rfl rfl rfl (.pointer (some ⟨b, 0, none⟩)) w8 ?_ ⟨rfl, .inl (Below.refl _ _)⟩
      have hh := (hG.cell (p := ⟨Bn, 0, none⟩) HBL.out).trans HBN.out
      go_simp
    · refine stepS_early (by decide) (by decide) hK hi (stepS_of rfl ?_)
      clear hW hV hK hi
      refine stepAt_load_run rfl rfl rfl _ _ rfl _ _ rfl (run_load_root hy (HYN.out.below hG HYN.out.lt).rootAll) ⟨rfl, .inl (Below.refl _ _)⟩
    · refine stepS_early (by decide) (by decide) hK hi (stepS_of rfl ?_)
      have q1 := hV 1 (hW 1 (by decide)) rfl
      simp only at q1
      have q2 := hV 2 (hW 2 (by decide)) rfl
      simp only at q2
      rw [q1, q2]
      clear hW hV hK hi
      refine stepAt_call rfl rfl rfl 11 #[.pointer (some ⟨b, 0, none⟩), .agg (bv y).toArray] (by go_simp) ((place_any w8 F b t most y (HT.out.below hG) hy).mono fun e w' ⟨h1, h2⟩ => ⟨_, h1, rfl, .inl h2⟩)
    · refine stepS_early (by decide) (by decide) hK hi (stepS_of rfl ?_)
      have q0 := hV 0 (hW 0 (by decide)) rfl
      simp only at q0
      have q3 := hV 3 (hW 3 (by decide)) rfl
      simp only at q3
      rw [q0, q3]
      clear hW hV hK hi
      refine stepAt_call rfl rfl rfl 26 #[.pointer (some ⟨b, 0, none⟩), .int .i64 (plc t y)] (by go_simp) ((node_any w8 F b t most (plc t y) (HT.out.below hG)).mono fun e w' ⟨h1, h2⟩ => ⟨_, h1, by rw [HND.out, HOK.out]; rfl, .inl h2⟩)
    · refine stepS_early (by decide) (by decide) hK hi (stepS_of rfl ?_)
      have q4 := hV 4 (hW 4 (by decide)) rfl
      simp only at q4
      rw [q4]
      clear hW hV hK hi
      refine stepAt_value rfl rfl rfl (.tuple #[.agg (ndv nd).toArray, .bool ok]) w8 ?_ ⟨rfl, .inl (Below.refl _ _)⟩
      go_simp
    · refine stepS_early (by decide) (by decide) hK hi (stepS_of rfl ?_)
      have q5 := hV 5 (hW 5 (by decide)) rfl
      simp only at q5
      rw [q5]
      clear hW hV hK hi
      refine stepAt_value rfl rfl rfl (.agg (ndv nd).toArray) w8 ?_ ⟨rfl, .inl (Below.refl _ _)⟩
      go_simp
    · refine stepS_late (by decide) (fun v ht => by
      obtain ⟨g, h1, h2, h3⟩ := ht
      exact ⟨g, by rw [turnTo_ne (by decide)]; exact h1, h2, h3⟩) (stepS_of rfl ?_)
      have q5 := hV 5 (hW 5 (by decide)) rfl
      simp only at q5
      rw [q5]
      clear hW hV hK hi
      refine stepAt_value rfl rfl rfl (.bool ok) w8 ?_ ⟨rfl, rfl⟩
      go_simp
    · refine stepS_early (by decide) (by decide) hK hi (stepS_of rfl ?_)
      clear hW hV hK hi
      refine stepAt_value rfl rfl rfl (.pointer (some ⟨w8.heap.size, 0, none⟩)) (w8.alloc (.cells #[.int .u8 0, .int .u8 0, .int .u8 0, .int .u8 0, .int .u8 0, .int .u8 0, .int .u8 0, .int .u8 0, .int .u8 0, .int .u8 0, .int .u8 0, .int .u8 0, .int .u8 0, .int .u8 0, .int .u8 0, .int .u8 0, .int .u8 0, .int .u8 0, .int .u8 0, .int .u8 0, .int .u8 0, .int .u8 0, .int .u8 0, .int .u8 0, .int .u8 0, .int .u8 0, .int .u8 0, .int .u8 0, .int .u8 0, .int .u8 0, .int .u8 0, .int .u8 0, .int .i64 0, .int .i64 0] 51)) ?_ ⟨⟨_, rfl, hG.size, blk_zero w8⟩, .inl ((Below.refl _ _).alloc (Nat.le_refl _) _)⟩
      go_simp
    · obtain ⟨g, hg, hgb, hblk⟩ := hV 8 (hW 8 (by decide)) hi
      have q6 := hV 6 (hW 6 (by decide)) rfl
      simp only at q6
      rw [hg, q6]
      refine stepS_skip rfl rfl (execs_store rfl rfl rfl (run_store_node hblk nd0_len HNL.out)) ⟨⟨trivial, .inr ⟨below_row hG hgb _, fun j hj hd => ?_⟩⟩, fun _ => ⟨g, by rw [turnTo_ne (by decide)]; exact hg, hgb, hblk.setRow (ndv nd)⟩, fun hm => absurd hm (by rw [hi]; simp)⟩
      match j, hj, hd with
      | 0, hj, _ => exact hV 0 hj rfl
      | 1, hj, _ => exact hV 1 hj rfl
      | 2, hj, _ => exact hV 2 hj rfl
      | 3, hj, _ => exact hV 3 hj rfl
      | 4, hj, _ => exact hV 4 hj rfl
      | 5, hj, _ => exact hV 5 hj rfl
      | 6, hj, _ => exact hV 6 hj rfl
      | 7, hj, _ => exact hV 7 hj rfl
      | 8, _, hd => exact absurd hd (by simp [turnOn])
      | 9, _, _ => trivial
      | _ + 10, _, _ => trivial
  case fin =>
    intro hh vals w8 hall hG hV hTT
    obtain ⟨X, hs8, hx2, hblk⟩ := hTT
    have q7 : vals 7 = .bool ok := hV 7 (hall 7 (by omega)) rfl
    simp only [List.take_succ_cons, List.take_zero, List.drop_succ_cons, List.drop_zero, putAll, Act.put, List.setIfInBounds_toArray, List.set_cons_zero, List.set_cons_succ, Nat.reduceAdd]
    rw [hs8, q7]
    clear hV q7 hs8 hall
    generalize vals 0 = x0
    generalize vals 1 = x1
    generalize vals 2 = x2
    generalize vals 3 = x3
    generalize vals 4 = x4
    generalize vals 5 = x5
    generalize vals 6 = x6
    clear vals hh
    have HXR := Lib.hid (show R ≤ X from Nat.le_trans HRW.out hx2)
    have HU := Lib.hid (show UpI LB R F b Bn X t most nd w8 by
      have e : SB LB w8 = SB LB w1 := SB.same (hG.block LB (by have := HRW.out; omega))
      exact ⟨HT.out.below hG, (hG.cell (p := ⟨Bn, 0, none⟩) HBL.out).trans HBN.out, hblk, by rw [e]; exact HA.out, by rw [e]; exact HAB.out, by rw [e]; exact fun hm => by have := HLW.out X hm; omega⟩)
    have HJ8 := Lib.hid (HJS.out.below hG HJ0.out)
    have HLR := Lib.hid (show LB < w8.heap.size by have := HRW.out; have := hG.size; omega)
    have HAT := Lib.hid (show UpAt t y [] (plc t y) from ⟨plc_ge t y, plc_lt t y, rfl⟩)
    clear hx2 hblk hG HT HBN HBL HYN HA HAB HLW HRW HJ0
    go_wp2_with fail
    gi_wp2_with fail
    gi_loopw [5] (fun v wr => ∃ (pre : List Ndl) (i : Int), v = .bool (nodeAt t i).isSome ∧ Hid (UpAt t y pre i) ∧ Hid (UpI LB R F b Bn X t most (nodeOr t i) wr) ∧ Hid (J pre wr) ∧ Hid (LB < wr.heap.size)) (fun v wr => upM X v wr)
    case atStart => exact ⟨[], plc t y, by rw [HOK.out], HAT, by rw [HND.out]; exact HU, HJ8, HLR⟩
    case round =>
      obtain ⟨pre, i, e5, HA2, HU2, HJ2, HL2⟩ := hrel
      subst e5
      by_cases hi : 0 ≤ i
      · obtain ⟨k, rfl⟩ : ∃ k : Nat, i = (k : Int) := ⟨i.toNat, by omega⟩
        obtain ⟨n, hn⟩ : ∃ n, t[k]? = some n := ⟨_, List.getElem?_eq_getElem (by have := HA2.out.hi; omega)⟩
        have hno : nodeAt t (k : Int) = some n := by rw [nodeAt_nat]; exact hn
        have hl : n.1.length = 32 := HG.out.nds n (List.mem_of_getElem? hn)
        have HNE := Lib.hid (show nodeOr t (k : Int) = n by rw [nodeOr, hno]; rfl)
        rw [HNE.out] at HU2
        rw [hno]
        simp only [Option.isSome_some]
        have HLn := Lib.hid hl
        have HNX := Lib.hid (HA2.out.next HG.out hn hl)
        have HMN := Lib.hid (HG.out.upM_lt hn)
        obtain ⟨fn, tmps, assign, body, hy2, hR⟩ := HY.out pre ⟨n, hl⟩ wr HJ2.out (HA2.out.short HG.out hn)
        dsimp only at hy2
        have HRR := Lib.hid hR
        have HPF := Lib.hid (show (pre ++ [(⟨n, hl⟩ : Ndl)]).map (·.1) <+: chn t (plc t y) by
          rw [HA2.out.cut, HG.out.chn_some hn, List.map_append]
          exact ⟨chn t n.2.2, by simp⟩)
        have HC := Lib.hid (HU2.out.blk.nodeAll)
        clear hR hno hn HA2 HNE
        gi_wp2_with ((with_reducible refine wpListIn_load wide_fn 51 (.tmp 4) ?_ ?_ _ _ ?_ (run_load_node HLn.out HC.out) ?_); rfl; rfl; rfl)
        refine HRR.out.mono ?_
        rintro e W3 (⟨rfl, hJ3, hk3⟩ | ⟨rfl, hJx3⟩)
        · have HU3 := Lib.hid (HU2.out.yield hk3 HF.out hB)
          have HJ3 := Lib.hid hJ3
          have HL3 := Lib.hid (show LB < W3.heap.size from Nat.lt_of_lt_of_le HL2.out hk3.size)
          clear hJ3 hk3 HRR HC
          have cB := HU3.out.box
          have c33 := HU3.out.blk.nodeParent HLn.out
          have HNO := Lib.hid ((callsIn_wide (n := 8)).2 (node_any W3 F b t most n.2.2 HU3.out.tre))
          obtain ⟨nd2, hnd2⟩ : ∃ nd2, nodeOr t n.2.2 = nd2 := ⟨_, rfl⟩
          obtain ⟨ok2, hok2⟩ : ∃ ok2, (nodeAt t n.2.2).isSome = ok2 := ⟨_, rfl⟩
          have HN2 := Lib.hid hnd2
          have HO2 := Lib.hid hok2
          have HNL2 := Lib.hid (show nd2.1.length = 32 by rw [← hnd2]; exact HG.out.nds.nodeOr _)
          rw [hnd2, hok2] at HNO HMN
          clear hnd2 hok2
          gi_wp2_with (first
            | (refine ⟨trivial, ?_⟩; gi_at_call 26; refine HNO.out.mono ?_; rintro e w4 ⟨rfl, hb4⟩; have HU4 := Lib.hid (HU3.out.below hb4 HL3.out); have HJ4 := Lib.hid (HJS.out.below hb4 HJ3.out); have HL4 := Lib.hid (Nat.lt_of_lt_of_le HL3.out hb4.size); clear hb4 cB c33)
            | ((with_reducible refine wpListIn_store wide_fn 51 (.tmp 4) (.tmp 25) ?_ ?_ _ _ _ ?_ ?_ (run_store_node HU4.out.blk HLn.out HNL2.out) ?_); rfl; rfl; rfl; rfl))
          go_roundw
          case rel => exact ⟨_, n.2.2, by rw [HO2.out], HNX, by rw [HN2.out]; exact Lib.hid (HU4.out.set nd2 HXR.out HF.out hB hLB), Lib.hid (HU4.out.mine HXR.out HJS.out HJ4.out _), Lib.hid (by simp only [World.setRow]; rw [Array.size_modify]; exact HL4.out)⟩
          case measure => exact upM_dec HU2.out.blk (HU4.out.blk.setRow (ndv nd2)) HLn.out HNL2.out HMN.out
        · have HJ3 := Lib.hid hJx3
          clear hJx3
          gi_wp2_with fail
          go_end0
          exact ⟨⟨_, rfl⟩, .inr ⟨_, HPF.out, HJ3.out⟩⟩
      · have hno : nodeAt t i = none := nodeAt_neg (by omega)
        have HCU := Lib.hid (show pre.map (·.1) = chn t (plc t y) by rw [HA2.out.cut, chn_none hno]; simp)
        rw [hno]
        simp only [Option.isSome_none]
        clear hno HA2 HU2
        gi_wp2_with fail
        refine ⟨fun _ h => (by cases h), ?_⟩
        gi_wp2_with fail
        go_end0
        exact ⟨⟨_, rfl⟩, .inl ⟨pre, HCU.out, HJ2.out⟩⟩
end Go.Proofs.Ytmchjmcdlapegaa
