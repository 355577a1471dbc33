/-
  The texts TAll, TUp, TOver, TNames, one behind the other.
-/
import Derived.Test.YtjodhagjfjgbcaaTwiceM6
import Derived.Test.YtjodhagjfjgbcaaCOverLaws
import Derived.Test.YtjodhagjfjgbcaaTwiceM3
import Derived.Test.YtjodhagjfjgbcaaTwiceM4
/-
  The program's iterator over all blocks of a tree.
-/
namespace Go.Proofs.Ytjodhagjfjgbcaa
open Go Go.RowKit Go.Shelf
set_option maxRecDepth 10000
attribute [local go_sem] Oper.semAt_some

/-- A tree stays where its own blocks do. -/
theorem Tre.moved {w w' : World} {F : List Nat} {b : Nat} {t : List Nd} {most : Int} (h : Tre w F b t most) (hs : w.heap.size ≤ w'.heap.size) (hb : ∀ k ∈ F, w'.heap[k]? = w.heap[k]?) : Tre w' F b t most := by
  obtain ⟨G, m, v, h⟩ := h
  refine ⟨G, m, v, h.nds, (hb b h.inb).trans h.blk, ?_, ?_, h.vb, h.vm, h.bm, h.inb, h.inm, h.inv, h.low.keep hs⟩
  · have hv := h.inv
    have hw := h.wide
    obtain ⟨n, cap, g, off, ao, rfl, hw⟩ := hw
    exact ⟨n, cap, g, off, ao, rfl, hw.carry hs fun hc => hb g (hv g (by rw [hw.addr hc]; rfl))⟩
  · obtain ⟨D, ⟨es, clock, hm, rest⟩, hS⟩ := h.map
    exact ⟨D, ⟨es, clock, (hb m h.inm).trans hm, rest⟩, hS⟩

/-- Blocks as an iterator hands them over. -/
abbrev Ndl := { n : Nd // n.1.length = 32 }
theorem Nds.tail {n : Nd} {r : List Nd} (h : Nds (n :: r)) : Nds r := fun x hx => h x (List.mem_cons_of_mem _ hx)
def ndl : (t : List Nd) → Nds t → List Ndl
  | [], _ => []
  | n :: r, h => ⟨n, h n List.mem_cons_self⟩ :: ndl r h.tail
theorem ndl_val : ∀ (t : List Nd) (h : Nds t), (ndl t h).map (·.1) = t
  | [], _ => rfl
  | n :: r, h => by rw [ndl, List.map_cons, ndl_val r h.tail]
theorem ndl_length (t : List Nd) (h : Nds t) : (ndl t h).length = t.length := by
  have := congrArg List.length (ndl_val t h)
  simpa using this
theorem ndl_at : ∀ {t : List Nd} (h : Nds t) {i : Nat} {n : Nd} (hi : t[i]? = some n), (ndl t h)[i]? = some ⟨n, h n (List.mem_of_getElem? hi)⟩
  | [], _, i, n, hi => by simp at hi
  | m :: r, h, 0, n, hi => by
    simp at hi
    subst hi
    rfl
  | m :: r, h, i + 1, n, hi => by
    rw [ndl, List.getElem?_cons_succ]
    exact ndl_at h.tail (by simpa using hi)

theorem all_any (w : World) (v : Option Addr) : Calls Try.prog 40 #[.pointer v] w fun e w' => e = .returned (.func (.func 53) #[] #[.pointer (some ⟨w.heap.size, 0, none⟩)]) ∧ w' = w.alloc (.cells #[.pointer v] 26) := by
  go_enter Try.func40, Try.ntmps40
  go_wp2_with fail
  go_ret
  exact ⟨rfl, rfl⟩

/-- What an iterator may rely on, between two rounds. -/
theorem KpB.tre {LB R : Nat} {A B : World} {F : List Nat} {b : Nat} {t : List Nd} {most : Int} (h : KpB LB R A B) (hT : Tre A F b t most) (hF : ∀ x ∈ F, x < R) (hA : Away F (SB LB A)) : Tre B F b t most :=
  hT.moved h.size fun k hk => h.block k (hT.low k hk) (hA k hk) (.inl (hF k hk))
theorem KpB.cell {LB R : Nat} {A B : World} (h : KpB LB R A B) {g j : Nat} {v : Value} (hc : A.cell? ⟨g, j, none⟩ = some v) (hg : g < R) (hA : g ∉ SB LB A) : B.cell? ⟨g, j, none⟩ = some v := by
  rw [World.cell?_of_block (a := ⟨g, j, none⟩) (h.block g (World.block_lt_of_cell? A ⟨g, j, none⟩ hc) hA (.inl hg))]; exact hc

theorem meas (N k : Nat) (x : Int) (hx : x.toNat = k + 1) (h : k < N) : N - (intOf (.int .i64 x)).toNat < N - (intOf (.int .i64 (k : Int))).toNat := by
  show N - x.toNat < N - ((k : Int)).toNat
  rw [hx, Int.toNat_natCast]
  omega
set_option maxHeartbeats 4000000 in
theorem all_gives (LB R : Nat) (w : World) (F : List Nat) (b Bn : Nat) (t : List Nd) (most : Int) (hT : Tre w F b t most) (hBn : w.cell? ⟨Bn, 0, none⟩ = some (.pointer (some ⟨b, 0, none⟩))) (hR : R ≤ w.heap.size) (hLB : LB < R) (hF : ∀ x ∈ F, x < R) (hB : Bn < R) (hA : Away F (SB LB w)) (hAB : Bn ∉ SB LB w) :
    Gives (α := Ndl) Try.prog LB R 53 #[.pointer (some ⟨Bn, 0, none⟩)] (fun x => #[.agg (ndv x.1).toArray]) (fun xs => xs.map (·.1) = t) (fun _ => True) t.length w := by
  intro l J Jx W hW hJ hJx hY h0
  have eS : SB LB W = SB LB w := SB.same (hW.block LB (by omega))
  have HT := Lib.hid (hT.below hW)
  have HBN := Lib.hid ((hW.cell (p := ⟨Bn, 0, none⟩) (by simp; omega)).trans hBn)
  have HA := Lib.hid (show Away F (SB LB W) by rw [eS]; exact hA)
  have HAB := Lib.hid (show Bn ∉ SB LB W by rw [eS]; exact hAB)
  have HY := Lib.hid hY
  have HF := Lib.hid hF
  have HL := Lib.hid (show t.length ≤ 256 by have h1 := hT.1.room; have h2 := hT.1.most256; omega)
  clear hW hY eS hT hBn hA hAB hF
  obtain ⟨N, hN⟩ : ∃ N, N = t.length := ⟨_, rfl⟩
  have HN := Lib.hid hN
  refine callsIn_of_wp Try.func53 rfl trivial ?_ rfl
  simp only [Try.ntmps53, List.size_toArray, List.length_cons, List.length_nil, Nat.reduceAdd, Nat.reduceSub, Array.replicate_succ, Array.replicate_zero, List.push_toArray, List.append_toArray, List.nil_append, List.cons_append]
  have c1 := HBN.out
  have HLE := Lib.hid ((callsIn_wide (n := 8)).2 (len_any W F b t most HT.out))
  rw [← hN] at HLE HL
  clear hN
  gi_wp2_with (refine ⟨trivial, ?_⟩; gi_at_call 27; refine HLE.out.mono ?_; rintro e w' ⟨rfl, hw⟩; have hw := hw.symm; subst hw)
  gi_loopw [6] (fun i wr => ∃ k : Nat, k ≤ N ∧ i = .int .i64 k ∧ Hid (J ((ndl t HT.out.1.nds).take k) wr) ∧ Hid (KpB LB R W wr)) (fun i _ => N - (intOf i).toNat)
  case atStart => exact ⟨0, Nat.zero_le _, rfl, Lib.hid (by simpa using h0), Lib.hid ⟨Nat.le_refl _, fun _ _ _ _ => rfl, NewF.refl _ _⟩⟩
  case round =>
    obtain ⟨k, hk, rfl, HJ, HK⟩ := hrel
    by_cases hlt : k < N
    · obtain ⟨n, hn⟩ : ∃ n, t[k]? = some n := ⟨_, List.getElem?_eq_getElem (by rw [← HN.out]; exact hlt)⟩
      have HT2 := Lib.hid (HK.out.tre HT.out HF.out HA.out)
      obtain ⟨m, ao, cap, bb, off, hr, hl⟩ := HT2.out.slice
      have ha := hl.node_addr hr.nds hn
      have HC := Lib.hid (hl.node hr.nds hn)
      have HNL := Lib.hid (hr.nds n (List.mem_of_getElem? hn))
      subst ha
      have c0 := hr.blk.cell 0
      have cB := HK.out.cell HBN.out hB HAB.out
      have hsnoc : (ndl t HT.out.1.nds).take k ++ [⟨n, hr.nds n (List.mem_of_getElem? hn)⟩] = (ndl t HT.out.1.nds).take (k + 1) := by
        rw [List.take_add_one, ndl_at _ hn]; rfl
      obtain ⟨fn, tmps, assign, body, hy, hR⟩ := HY.out _ ⟨n, hr.nds n (List.mem_of_getElem? hn)⟩ wr HJ.out (by rw [List.length_take, ndl_length, ← HN.out]; omega)
      dsimp only at hy
      rw [hsnoc] at hR
      have HRR := Lib.hid hR
      have hl1 : k < t.length := by rw [← HN.out]; exact hlt
      rw [← HN.out] at c0
      clear hr hl hn hsnoc hR
      gi_wp2_with ((with_reducible refine wpListIn_load wide_fn 51 (.tmp 15) ?_ ?_ _ _ ?_ (run_load_node HNL.out HC.out) ?_); rfl; rfl; rfl)
      refine HRR.out.mono ?_
      rintro e W3 (⟨rfl, hJ3, hk3⟩ | ⟨rfl, hJx3⟩)
      · have HTN := Lib.hid (show (wrap64 ((k : Int) + 1)).toNat = k + 1 by
          have h1 := HL.out
          have h2 : wrap64 ((k : Int) + 1) = ((k + 1 : Nat) : Int) := by unfold wrap64; omega
          rw [h2, Int.toNat_natCast])
        have hw64 : wrap64 ((k : Int) + 1) = (k : Int) + 1 := by have := HL.out; unfold wrap64; omega
        have HJ3 := Lib.hid hJ3
        have HK3 := Lib.hid (HK.out.trans hk3)
        clear hJ3 hk3
        gi_wp2_with fail
        go_roundw
        case rel => exact ⟨k + 1, by omega, by rw [hw64]; simp, HJ3, HK3⟩
        case measure => exact meas N k _ HTN.out hlt
      · have HJ3 := Lib.hid hJx3
        clear hJx3
        gi_wp2_with fail
        refine bodyPost_ret (results_none rfl _ _ _) rfl ?_
        exact ⟨⟨_, rfl⟩, .inr ⟨_, trivial, HJ3.out⟩⟩
    · have hkN : k = N := by omega
      have HJ4 := Lib.hid (show J (ndl t HT.out.1.nds) wr by
        have := HJ.out
        rw [List.take_of_length_le (by rw [ndl_length, ← HN.out]; omega)] at this
        exact this)
      gi_wp2_with fail
      go_end0
      exact ⟨⟨_, rfl⟩, .inl ⟨_, ndl_val t _, HJ4.out⟩⟩
end Go.Proofs.Ytjodhagjfjgbcaa

/-
  The program's iterator from a block up to the first one.
-/
namespace Go.Proofs.Ytjodhagjfjgbcaa
open Go Go.RowKit Go.Shelf
set_option maxRecDepth 10000
attribute [local go_sem] Oper.semAt_some

theorem execs_store {P : Program} {o : Oper} {a : Act} {w w' : World} {ty : TypeId} {x y : Operand} {p v : Value} (ho : o.op = .store ty x y) (hx : a.eval x = p) (hy : a.eval y = v) (hr : (Instr.storeAt ty p v).run P w = .ok () w') : (execOp a.eval o).run P w = .ok .skip w' := by
  unfold execOp
  simp only [ho, hx, hy, Sem.run_bind, hr, Result.andThen_ok]
  rfl

theorem up_any (w : World) (v : Option Addr) (y : List UInt8) : Calls Try.prog 46 #[.pointer v, .agg (bv y).toArray] w fun e w' => e = .returned (.func (.func 57) #[] #[.pointer (some ⟨w.heap.size, 0, none⟩), .pointer (some ⟨w.heap.size + 1, 0, none⟩)]) ∧ w' = (w.alloc (.cells #[.pointer v] 26)).alloc (.cells (bv y).toArray 24) := by
  go_enter Try.func46, Try.ntmps46
  go_wp2_with fail
  go_ret
  exact ⟨rfl, rfl⟩

/-- The chain of a place, and what is known of it: its blocks, as an iterator hands them over. -/
theorem Good.chn_nds {t : List Nd} {most : Int} (G : Good t most) : ∀ (k : Nat) (i : Int), i < (k : Int) → i < t.length → Nds (chn t i)
  | 0, i, h, _ => by rw [chn_neg (by omega)]; intro n hn; cases hn
  | k + 1, i, h, hl => by
    by_cases h0 : i < 0
    · rw [chn_neg h0]; intro n hn; cases hn
    · obtain ⟨j, rfl⟩ : ∃ j : Nat, i = (j : Int) := ⟨i.toNat, by omega⟩
      have h1 : t[j]? = some t[j] := List.getElem?_eq_getElem (by omega)
      have h2 := G.parent_lt h1
      rw [G.chn_some h1]
      intro n hn
      rcases List.mem_cons.1 hn with rfl | hn
      · exact G.nds _ (List.mem_of_getElem? h1)
      · exact Good.chn_nds G k _ (by omega) (by omega) n hn

/-- A store into memory of the iterator's own. -/
theorem grownBy_setRow (w : World) (g : Nat) (cs : Array Value) : w.grownBy (w.setRow g cs) (some g) :=
  ⟨rfl, rfl, rfl, by simp [World.setRow], fun k _ hk => Go.setRow_other w g k cs (fun e => hk (by rw [e]))⟩
theorem Blk.isCells {w : World} {g : Nat} {t : TypeId} {vs : List Value} (h : Blk w g t vs) : ∃ o, w.heap[g]? = some o ∧ o.isCells = true := ⟨_, h, rfl⟩

theorem Stays.below {LB R : Nat} {α : Type} {J : List α → World → Prop} (h : Stays LB R J) {s : List α} {W W' : World} (hb : Below W.heap.size W W') (hs : J s W) : J s W' :=
  h s W W' none hs ⟨hb.os, hb.tape, hb.output, hb.size, fun k hk _ => hb.block k hk⟩ (fun r e => by cases e)

/-- What holds between two rounds: the tree, the variable t's block, the block that is being handed over. -/
structure UpI (LB R : Nat) (F : List Nat) (b Bn X : Nat) (t : List Nd) (most : Int) (nd : Nd) (W : World) : Prop where
  tre : Tre W F b t most
  box : W.cell? ⟨Bn, 0, none⟩ = some (.pointer (some ⟨b, 0, none⟩))
  blk : Blk W X 51 (ndv nd)
  af : Away F (SB LB W)
  ab : Bn ∉ SB LB W
  ax : X ∉ SB LB W
theorem UpI.yield {LB R : Nat} {F : List Nat} {b Bn X : Nat} {t : List Nd} {most : Int} {nd : Nd} {A B : World} (h : UpI LB R F b Bn X t most nd A) (k : KpB LB R A B) (hF : ∀ x ∈ F, x < R) (hB : Bn < R) : UpI LB R F b Bn X t most nd B := by
  have hn : ∀ x, x < A.heap.size → x ∉ SB LB A → x ∉ SB LB B := fun x hx h1 h2 => by
    rcases k.grow x h2 with h3 | h3
    · exact h1 h3
    · omega
  exact ⟨k.tre h.tre hF h.af, k.cell h.box hB h.ab, (k.block X h.blk.lt h.ax (.inr h.blk.isCells)).trans h.blk, fun x hx => hn x (h.tre.low x hx) (h.af x hx), hn Bn (World.block_lt_of_cell? A ⟨Bn, 0, none⟩ h.box) h.ab, hn X h.blk.lt h.ax⟩
theorem UpI.below {LB R : Nat} {F : List Nat} {b Bn X : Nat} {t : List Nd} {most : Int} {nd : Nd} {A B : World} (h : UpI LB R F b Bn X t most nd A) (k : Below A.heap.size A B) (hLB : LB < A.heap.size) : UpI LB R F b Bn X t most nd B := by
  have e : SB LB B = SB LB A := SB.same (k.block LB hLB)
  exact ⟨h.tre.below k, (k.cell (p := ⟨Bn, 0, none⟩) (World.block_lt_of_cell? A ⟨Bn, 0, none⟩ h.box)).trans h.box, h.blk.below k h.blk.lt, by rw [e]; exact h.af, by rw [e]; exact h.ab, by rw [e]; exact h.ax⟩
theorem UpI.set {LB R : Nat} {F : List Nat} {b Bn X : Nat} {t : List Nd} {most : Int} {nd : Nd} {A : World} (h : UpI LB R F b Bn X t most nd A) (n : Nd) (hX : R ≤ X) (hF : ∀ x ∈ F, x < R) (hB : Bn < R) (hLB : LB < R) : UpI LB R F b Bn X t most n (A.setRow X (ndv n).toArray) := by
  have e : SB LB (A.setRow X (ndv n).toArray) = SB LB A := SB.same (Go.setRow_other A X LB _ (by omega))
  refine ⟨h.tre.moved (by simp [World.setRow]) (fun k hk => Go.setRow_other A X k _ (by have := hF k hk; omega)), ?_, h.blk.setRow _, by rw [e]; exact h.af, by rw [e]; exact h.ab, by rw [e]; exact h.ax⟩
  rw [World.cell?_of_block (a := ⟨Bn, 0, none⟩) (Go.setRow_other A X Bn _ (by omega))]
  exact h.box
theorem UpI.mine {LB R : Nat} {F : List Nat} {b Bn X : Nat} {t : List Nd} {most : Int} {nd : Nd} {A : World} (h : UpI LB R F b Bn X t most nd A) (hX : R ≤ X) {J : List Ndl → World → Prop} (hJ : Stays LB R J) {s : List Ndl} (hs : J s A) (cs : Array Value) : J s (A.setRow X cs) :=
  hJ s A _ (some X) hs (grownBy_setRow A X cs) (fun r e => by cases e; exact ⟨hX, h.ax, h.blk.isCells⟩)

/-- How many steps there may still be: read off the block that is being handed over. -/
def upM (X : Nat) (v : Value) (W : World) : Nat := (match v with | .bool true => 1 | _ => 0) + (match W.cell? ⟨X, 33, none⟩ with | some (.int _ p) => (p + 2).toNat | _ => 0)
theorem upM_eq {X : Nat} {W : World} {nd : Nd} (h : Blk W X 51 (ndv nd)) (hl : nd.1.length = 32) (ok : Bool) : upM X (.bool ok) W = (if ok then 1 else 0) + (nd.2.2 + 2).toNat := by
  unfold upM
  rw [h.nodeParent hl]
  cases ok <;> rfl
theorem Good.upM_lt {t : List Nd} {most : Int} (G : Good t most) {i : Nat} {n : Nd} (h : t[i]? = some n) : (if (nodeAt t n.2.2).isSome then 1 else 0) + ((nodeOr t n.2.2).2.2 + 2).toNat < 1 + (n.2.2 + 2).toNat := by
  cases i with
  | zero =>
    rw [G.fst n h, nodeOr, nodeAt_neg (show (-1 : Int) < 0 by omega)]
    decide
  | succ j =>
    obtain ⟨p, m, h1, h2, h3, _⟩ := G.par j n h
    have h4 := G.parent_lt h3
    rw [h1, nodeOr, nodeAt_nat, h3]
    simp only [Option.isSome_some, if_true, Option.getD_some]
    omega
theorem upM_dec {X : Nat} {A B : World} {n m : Nd} {ok : Bool} (hA : Blk A X 51 (ndv n)) (hB : Blk B X 51 (ndv m)) (h1 : n.1.length = 32) (h2 : m.1.length = 32) (h : (if ok then 1 else 0) + (m.2.2 + 2).toNat < 1 + (n.2.2 + 2).toNat) : upM X (.bool ok) B < upM X (.bool true) A := by
  rw [upM_eq hA h1, upM_eq hB h2]
  exact h

/-- Where an iterator from y on stands: these have come, the one at place i is next. -/
structure UpAt (t : List Nd) (y : List UInt8) (pre : List Ndl) (i : Int) : Prop where
  lo : -1 ≤ i
  hi : i < t.length
  cut : chn t (plc t y) = pre.map (·.1) ++ chn t i
theorem UpAt.next {t : List Nd} {most : Int} (G : Good t most) {y : List UInt8} {pre : List Ndl} {i : Nat} (h : UpAt t y pre (i : Int)) {n : Nd} (hn : t[i]? = some n) (hl : n.1.length = 32) : UpAt t y (pre ++ [⟨n, hl⟩]) n.2.2 := by
  have h1 := G.parent_lt hn
  have h2 := (List.getElem?_eq_some_iff.1 hn).1
  refine ⟨?_, by omega, by rw [h.cut, G.chn_some hn]; simp⟩
  cases i with
  | zero => rw [G.fst n hn]; decide
  | succ j =>
    obtain ⟨p, m, e, _⟩ := G.par j n hn
    rw [e]; omega
theorem UpAt.short {t : List Nd} {most : Int} (G : Good t most) {y : List UInt8} {pre : List Ndl} {i : Nat} (h : UpAt t y pre (i : Int)) {n : Nd} (hn : t[i]? = some n) : pre.length < t.length + 1 := by
  have h1 := congrArg List.length h.cut
  have h2 := G.chn_length t.length (plc t y) (by have := plc_lt t y; omega) (plc_lt t y)
  rw [G.chn_some hn] at h1
  simp at h1
  omega

set_option maxHeartbeats 8000000 in
theorem up_gives (LB R : Nat) (w : World) (F : List Nat) (b Bn Yn : Nat) (t : List Nd) (most : Int) (y : List UInt8) (hT : Tre w F b t most) (hBn : w.cell? ⟨Bn, 0, none⟩ = some (.pointer (some ⟨b, 0, none⟩))) (hYn : Blk w Yn 24 (bv y)) (hy : y.length = 32) (hR : R ≤ w.heap.size) (hLB : LB < R) (hF : ∀ x ∈ F, x < R) (hB : Bn < R) (hA : Away F (SB LB w)) (hAB : Bn ∉ SB LB w) (hLow : Low w (SB LB w)) :
    Gives (α := Ndl) Try.prog LB R 57 #[.pointer (some ⟨Bn, 0, none⟩), .pointer (some ⟨Yn, 0, none⟩)] (fun x => #[.agg (ndv x.1).toArray]) (fun xs => xs.map (·.1) = chn t (plc t y)) (fun xs => xs.map (·.1) <+: chn t (plc t y)) (t.length + 1) w := by
  intro l J Jx W hW hJ hJx hY h0
  have eS : SB LB W = SB LB w := SB.same (hW.block LB (by omega))
  have HT := Lib.hid (hT.below hW)
  have HBN := Lib.hid ((hW.cell (p := ⟨Bn, 0, none⟩) (by simp; omega)).trans hBn)
  have HBL := Lib.hid (show Bn < W.heap.size by have := hW.size; omega)
  have HYN := Lib.hid (hYn.below hW hYn.lt)
  have HA := Lib.hid (show Away F (SB LB W) by rw [eS]; exact hA)
  have HAB := Lib.hid (show Bn ∉ SB LB W by rw [eS]; exact hAB)
  have HLW := Lib.hid (show Low W (SB LB W) by rw [eS]; exact hLow.keep hW.size)
  have HRW := Lib.hid (show R ≤ W.heap.size by have := hW.size; omega)
  have HY := Lib.hid hY
  have HF := Lib.hid hF
  have HG := Lib.hid hT.1
  have HJS := Lib.hid hJ
  have HJ0 := Lib.hid h0
  clear hW hY eS hT hBn hA hAB hF hYn hJ hJx h0 hLow hR
  refine callsIn_of_wp Try.func57 rfl trivial ?_ rfl
  simp only [Try.ntmps57, List.size_toArray, List.length_cons, List.length_nil, Nat.reduceAdd, Nat.reduceSub, Array.replicate_succ, Array.replicate_zero, List.push_toArray, List.append_toArray, List.nil_append, List.cons_append]
  obtain ⟨nd, hnd⟩ : ∃ nd, nodeOr t (plc t y) = nd := ⟨_, rfl⟩
  obtain ⟨ok, hok⟩ : ∃ ok, (nodeAt t (plc t y)).isSome = ok := ⟨_, rfl⟩
  have HND := Lib.hid hnd
  have HOK := Lib.hid hok
  have HNL := Lib.hid (show nd.1.length = 32 by rw [← hnd]; exact HG.out.nds.nodeOr _)
  clear hnd hok
  gi_wp2
  refine wpIn_wide.2 ?_
  obtain ⟨w1, hw1⟩ : ∃ w1, w1 = W := ⟨_, rfl⟩
  subst hw1
  refine wp_region_freeT (P := Try.prog) 10 (fun w' => Below w1.heap.size w1 w') (fun oq v w' => match oq with
      | 0 => v = .pointer (some ⟨b, 0, none⟩)
      | 1 => v = .pointer (some ⟨b, 0, none⟩)
      | 2 => v = .agg (bv y).toArray
      | 3 => v = .int .i64 (plc t y)
      | 4 => v = .tuple #[.agg (ndv nd).toArray, .bool ok]
      | 5 => v = .tuple #[.agg (ndv nd).toArray, .bool ok]
      | 6 => v = .agg (ndv nd).toArray
      | 7 => v = .bool ok
      | 8 => ∃ g, v = .pointer (some ⟨g, 0, none⟩) ∧ w1.heap.size ≤ g ∧ Blk w' g 51 (ndv nd0)
      | 9 => True
      | _ => True) (fun hh oq => match oq with
      | 8 => hh 9
      | _ => false) [(9, 0), (9, 1), (9, 2), (9, 3), (9, 4), (9, 5), (9, 6), (9, 8)] 9 (by decide) (fun s w' => ∃ g, s 8 = .pointer (some ⟨g, 0, none⟩) ∧ w1.heap.size ≤ g ∧ Blk w' g 51 (ndv nd)) (by kernel_rfl) (by kernel_rfl) (by kernel_rfl) (Below.refl _ _).drew ?gb ?vb ?db ?steps ?fin
  case gb => exact fun a b h1 h2 => h1.trans (h2.mono h1.size)
  case vb =>
    intro oq v a b h hb
    match oq with
    | 0 => exact h
    | 1 => exact h
    | 2 => exact h
    | 3 => exact h
    | 4 => exact h
    | 5 => exact h
    | 6 => exact h
    | 7 => exact h
    | 8 => (obtain ⟨g, h1, h2, h3⟩ := h; exact ⟨g, h1, h2, h3.below hb h3.lt⟩)
    | 9 => trivial
    | _ + 10 => trivial
  case db =>
    intro hh i oq h
    split at h
    · exact turnOn_of h
    · cases h
  case steps =>
    intro vals
    simp only [List.take_succ_cons, List.take_zero, freeStepsT, Act.put, List.setIfInBounds_toArray, List.set_cons_zero, List.set_cons_succ, Nat.reduceAdd]
    refine ⟨fun hh w8 hi hK hG hW hV => ?_, fun hh w8 hi hK hG hW hV => ?_, fun hh w8 hi hK hG hW hV => ?_, fun hh w8 hi hK hG hW hV => ?_, fun hh w8 hi hK hG hW hV => ?_, fun hh w8 hi hK hG hW hV => ?_, fun hh w8 hi hK hG hW hV => ?_, fun hh w8 hi hK hG hW hV => ?_, fun hh w8 hi hK hG hW hV => ?_, fun hh w8 hi hK hG hW hV => ?_, trivial⟩
    · refine stepS_early (by decide) (by decide) hK hi (stepS_of rfl ?_)
      clear hW hV hK hi
      refine stepAt_value rfl rfl rfl (.pointer (some ⟨b, 0, none⟩)) w8 ?_ ⟨rfl, .inl (Below.refl _ _)⟩
      have hh := (hG.cell (p := ⟨Bn, 0, none⟩) HBL.out).trans HBN.out
      go_simp
    · refine stepS_early (by decide) (by decide) hK hi (stepS_of rfl ?_)
      clear hW hV hK hi
      refine stepAt_value rfl rfl rfl (.pointer (some ⟨b, 0, none⟩)) w8 ?_ ⟨rfl, .inl (Below.refl _ _)⟩
      have hh := (hG.cell (p := ⟨Bn, 0, none⟩) HBL.out).trans HBN.out
      go_simp
    · refine stepS_early (by decide) (by decide) hK hi (stepS_of rfl ?_)
      clear hW hV hK hi
      refine stepAt_load_run rfl rfl rfl _ _ rfl _ _ rfl (run_load_root hy (HYN.out.below hG HYN.out.lt).rootAll) ⟨rfl, .inl (Below.refl _ _)⟩
    · refine stepS_early (by decide) (by decide) hK hi (stepS_of rfl ?_)
      have q1 := hV 1 (hW 1 (by decide)) rfl
      simp only at q1
      have q2 := hV 2 (hW 2 (by decide)) rfl
      simp only at q2
      rw [q1, q2]
      clear hW hV hK hi
      refine stepAt_call rfl rfl rfl 23 #[.pointer (some ⟨b, 0, none⟩), .agg (bv y).toArray] (by go_simp) ((place_any w8 F b t most y (HT.out.below hG) hy).mono fun e w' ⟨h1, h2⟩ => ⟨_, h1, rfl, .inl h2⟩)
    · refine stepS_early (by decide) (by decide) hK hi (stepS_of rfl ?_)
      have q0 := hV 0 (hW 0 (by decide)) rfl
      simp only at q0
      have q3 := hV 3 (hW 3 (by decide)) rfl
      simp only at q3
      rw [q0, q3]
      clear hW hV hK hi
      refine stepAt_call rfl rfl rfl 19 #[.pointer (some ⟨b, 0, none⟩), .int .i64 (plc t y)] (by go_simp) ((node_any w8 F b t most (plc t y) (HT.out.below hG)).mono fun e w' ⟨h1, h2⟩ => ⟨_, h1, by rw [HND.out, HOK.out]; rfl, .inl h2⟩)
    · refine stepS_early (by decide) (by decide) hK hi (stepS_of rfl ?_)
      have q4 := hV 4 (hW 4 (by decide)) rfl
      simp only at q4
      rw [q4]
      clear hW hV hK hi
      refine stepAt_value rfl rfl rfl (.tuple #[.agg (ndv nd).toArray, .bool ok]) w8 ?_ ⟨rfl, .inl (Below.refl _ _)⟩
      go_simp
    · refine stepS_early (by decide) (by decide) hK hi (stepS_of rfl ?_)
      have q5 := hV 5 (hW 5 (by decide)) rfl
      simp only at q5
      rw [q5]
      clear hW hV hK hi
      refine stepAt_value rfl rfl rfl (.agg (ndv nd).toArray) w8 ?_ ⟨rfl, .inl (Below.refl _ _)⟩
      go_simp
    · refine stepS_late (by decide) (fun v ht => by
      obtain ⟨g, h1, h2, h3⟩ := ht
      exact ⟨g, by rw [turnTo_ne (by decide)]; exact h1, h2, h3⟩) (stepS_of rfl ?_)
      have q5 := hV 5 (hW 5 (by decide)) rfl
      simp only at q5
      rw [q5]
      clear hW hV hK hi
      refine stepAt_value rfl rfl rfl (.bool ok) w8 ?_ ⟨rfl, rfl⟩
      go_simp
    · refine stepS_early (by decide) (by decide) hK hi (stepS_of rfl ?_)
      clear hW hV hK hi
      refine stepAt_value rfl rfl rfl (.pointer (some ⟨w8.heap.size, 0, none⟩)) (w8.alloc (.cells #[.int .u8 0, .int .u8 0, .int .u8 0, .int .u8 0, .int .u8 0, .int .u8 0, .int .u8 0, .int .u8 0, .int .u8 0, .int .u8 0, .int .u8 0, .int .u8 0, .int .u8 0, .int .u8 0, .int .u8 0, .int .u8 0, .int .u8 0, .int .u8 0, .int .u8 0, .int .u8 0, .int .u8 0, .int .u8 0, .int .u8 0, .int .u8 0, .int .u8 0, .int .u8 0, .int .u8 0, .int .u8 0, .int .u8 0, .int .u8 0, .int .u8 0, .int .u8 0, .int .i64 0, .int .i64 0] 51)) ?_ ⟨⟨_, rfl, hG.size, blk_zero w8⟩, .inl ((Below.refl _ _).alloc (Nat.le_refl _) _)⟩
      go_simp
    · obtain ⟨g, hg, hgb, hblk⟩ := hV 8 (hW 8 (by decide)) hi
      have q6 := hV 6 (hW 6 (by decide)) rfl
      simp only at q6
      rw [hg, q6]
      refine stepS_skip rfl rfl (execs_store rfl rfl rfl (run_store_node hblk nd0_len HNL.out)) ⟨⟨trivial, .inr ⟨below_row hG hgb _, fun j hj hd => ?_⟩⟩, fun _ => ⟨g, by rw [turnTo_ne (by decide)]; exact hg, hgb, hblk.setRow (ndv nd)⟩, fun hm => absurd hm (by rw [hi]; simp)⟩
      match j, hj, hd with
      | 0, hj, _ => exact hV 0 hj rfl
      | 1, hj, _ => exact hV 1 hj rfl
      | 2, hj, _ => exact hV 2 hj rfl
      | 3, hj, _ => exact hV 3 hj rfl
      | 4, hj, _ => exact hV 4 hj rfl
      | 5, hj, _ => exact hV 5 hj rfl
      | 6, hj, _ => exact hV 6 hj rfl
      | 7, hj, _ => exact hV 7 hj rfl
      | 8, _, hd => exact absurd hd (by simp [turnOn])
      | 9, _, _ => trivial
      | _ + 10, _, _ => trivial
  case fin =>
    intro hh vals w8 hall hG hV hTT
    obtain ⟨X, hs8, hx2, hblk⟩ := hTT
    have q7 : vals 7 = .bool ok := hV 7 (hall 7 (by omega)) rfl
    simp only [List.take_succ_cons, List.take_zero, List.drop_succ_cons, List.drop_zero, putAll, Act.put, List.setIfInBounds_toArray, List.set_cons_zero, List.set_cons_succ, Nat.reduceAdd]
    rw [hs8, q7]
    clear hV q7 hs8 hall
    generalize vals 0 = x0
    generalize vals 1 = x1
    generalize vals 2 = x2
    generalize vals 3 = x3
    generalize vals 4 = x4
    generalize vals 5 = x5
    generalize vals 6 = x6
    clear vals hh
    have HXR := Lib.hid (show R ≤ X from Nat.le_trans HRW.out hx2)
    have HU := Lib.hid (show UpI LB R F b Bn X t most nd w8 by
      have e : SB LB w8 = SB LB w1 := SB.same (hG.block LB (by have := HRW.out; omega))
      exact ⟨HT.out.below hG, (hG.cell (p := ⟨Bn, 0, none⟩) HBL.out).trans HBN.out, hblk, by rw [e]; exact HA.out, by rw [e]; exact HAB.out, by rw [e]; exact fun hm => by have := HLW.out X hm; omega⟩)
    have HJ8 := Lib.hid (HJS.out.below hG HJ0.out)
    have HLR := Lib.hid (show LB < w8.heap.size by have := HRW.out; have := hG.size; omega)
    have HAT := Lib.hid (show UpAt t y [] (plc t y) from ⟨plc_ge t y, plc_lt t y, rfl⟩)
    clear hx2 hblk hG HT HBN HBL HYN HA HAB HLW HRW HJ0
    go_wp2_with fail
    gi_wp2_with fail
    gi_loopw [5] (fun v wr => ∃ (pre : List Ndl) (i : Int), v = .bool (nodeAt t i).isSome ∧ Hid (UpAt t y pre i) ∧ Hid (UpI LB R F b Bn X t most (nodeOr t i) wr) ∧ Hid (J pre wr) ∧ Hid (LB < wr.heap.size)) (fun v wr => upM X v wr)
    case atStart => exact ⟨[], plc t y, by rw [HOK.out], HAT, by rw [HND.out]; exact HU, HJ8, HLR⟩
    case round =>
      obtain ⟨pre, i, e5, HA2, HU2, HJ2, HL2⟩ := hrel
      subst e5
      by_cases hi : 0 ≤ i
      · obtain ⟨k, rfl⟩ : ∃ k : Nat, i = (k : Int) := ⟨i.toNat, by omega⟩
        obtain ⟨n, hn⟩ : ∃ n, t[k]? = some n := ⟨_, List.getElem?_eq_getElem (by have := HA2.out.hi; omega)⟩
        have hno : nodeAt t (k : Int) = some n := by rw [nodeAt_nat]; exact hn
        have hl : n.1.length = 32 := HG.out.nds n (List.mem_of_getElem? hn)
        have HNE := Lib.hid (show nodeOr t (k : Int) = n by rw [nodeOr, hno]; rfl)
        rw [HNE.out] at HU2
        rw [hno]
        simp only [Option.isSome_some]
        have HLn := Lib.hid hl
        have HNX := Lib.hid (HA2.out.next HG.out hn hl)
        have HMN := Lib.hid (HG.out.upM_lt hn)
        obtain ⟨fn, tmps, assign, body, hy2, hR⟩ := HY.out pre ⟨n, hl⟩ wr HJ2.out (HA2.out.short HG.out hn)
        dsimp only at hy2
        have HRR := Lib.hid hR
        have HPF := Lib.hid (show (pre ++ [(⟨n, hl⟩ : Ndl)]).map (·.1) <+: chn t (plc t y) by
          rw [HA2.out.cut, HG.out.chn_some hn, List.map_append]
          exact ⟨chn t n.2.2, by simp⟩)
        have HC := Lib.hid (HU2.out.blk.nodeAll)
        clear hR hno hn HA2 HNE
        gi_wp2_with ((with_reducible refine wpListIn_load wide_fn 51 (.tmp 4) ?_ ?_ _ _ ?_ (run_load_node HLn.out HC.out) ?_); rfl; rfl; rfl)
        refine HRR.out.mono ?_
        rintro e W3 (⟨rfl, hJ3, hk3⟩ | ⟨rfl, hJx3⟩)
        · have HU3 := Lib.hid (HU2.out.yield hk3 HF.out hB)
          have HJ3 := Lib.hid hJ3
          have HL3 := Lib.hid (show LB < W3.heap.size from Nat.lt_of_lt_of_le HL2.out hk3.size)
          clear hJ3 hk3 HRR HC
          have cB := HU3.out.box
          have c33 := HU3.out.blk.nodeParent HLn.out
          have HNO := Lib.hid ((callsIn_wide (n := 8)).2 (node_any W3 F b t most n.2.2 HU3.out.tre))
          obtain ⟨nd2, hnd2⟩ : ∃ nd2, nodeOr t n.2.2 = nd2 := ⟨_, rfl⟩
          obtain ⟨ok2, hok2⟩ : ∃ ok2, (nodeAt t n.2.2).isSome = ok2 := ⟨_, rfl⟩
          have HN2 := Lib.hid hnd2
          have HO2 := Lib.hid hok2
          have HNL2 := Lib.hid (show nd2.1.length = 32 by rw [← hnd2]; exact HG.out.nds.nodeOr _)
          rw [hnd2, hok2] at HNO HMN
          clear hnd2 hok2
          gi_wp2_with (first
            | (refine ⟨trivial, ?_⟩; gi_at_call 19; refine HNO.out.mono ?_; rintro e w4 ⟨rfl, hb4⟩; have HU4 := Lib.hid (HU3.out.below hb4 HL3.out); have HJ4 := Lib.hid (HJS.out.below hb4 HJ3.out); have HL4 := Lib.hid (Nat.lt_of_lt_of_le HL3.out hb4.size); clear hb4 cB c33)
            | ((with_reducible refine wpListIn_store wide_fn 51 (.tmp 4) (.tmp 25) ?_ ?_ _ _ _ ?_ ?_ (run_store_node HU4.out.blk HLn.out HNL2.out) ?_); rfl; rfl; rfl; rfl))
          go_roundw
          case rel => exact ⟨_, n.2.2, by rw [HO2.out], HNX, by rw [HN2.out]; exact Lib.hid (HU4.out.set nd2 HXR.out HF.out hB hLB), Lib.hid (HU4.out.mine HXR.out HJS.out HJ4.out _), Lib.hid (by simp only [World.setRow]; rw [Array.size_modify]; exact HL4.out)⟩
          case measure => exact upM_dec HU2.out.blk (HU4.out.blk.setRow (ndv nd2)) HLn.out HNL2.out HMN.out
        · have HJ3 := Lib.hid hJx3
          clear hJx3
          gi_wp2_with fail
          go_end0
          exact ⟨⟨_, rfl⟩, .inr ⟨_, HPF.out, HJ3.out⟩⟩
      · have hno : nodeAt t i = none := nodeAt_neg (by omega)
        have HCU := Lib.hid (show pre.map (·.1) = chn t (plc t y) by rw [HA2.out.cut, chn_none hno]; simp)
        rw [hno]
        simp only [Option.isSome_none]
        clear hno HA2 HU2
        gi_wp2_with fail
        refine ⟨fun _ h => (by cases h), ?_⟩
        gi_wp2_with fail
        go_end0
        exact ⟨⟨_, rfl⟩, .inl ⟨pre, HCU.out, HJ2.out⟩⟩
end Go.Proofs.Ytjodhagjfjgbcaa

/-
  The program's Below: it goes up from a block by the iterator.
-/
namespace Go.Proofs.Ytjodhagjfjgbcaa
open Go Go.RowKit Go.Shelf
set_option maxRecDepth 10000
attribute [local go_sem] Oper.semAt_some

/-- A loop variable that was just laid: what the owner of a round must show of it. -/
theorem laid_round {LB R : Nat} (W : World) (n : Nd) (hLB : LB < W.heap.size) :
    KeepsFrom R W ((W.alloc (.cells #[.int .u8 0, .int .u8 0, .int .u8 0, .int .u8 0, .int .u8 0, .int .u8 0, .int .u8 0, .int .u8 0, .int .u8 0, .int .u8 0, .int .u8 0, .int .u8 0, .int .u8 0, .int .u8 0, .int .u8 0, .int .u8 0, .int .u8 0, .int .u8 0, .int .u8 0, .int .u8 0, .int .u8 0, .int .u8 0, .int .u8 0, .int .u8 0, .int .u8 0, .int .u8 0, .int .u8 0, .int .u8 0, .int .u8 0, .int .u8 0, .int .u8 0, .int .u8 0, .int .i64 0, .int .i64 0] 51)).setRow W.heap.size (ndv n).toArray) ∧ KpB LB R W ((W.alloc (.cells #[.int .u8 0, .int .u8 0, .int .u8 0, .int .u8 0, .int .u8 0, .int .u8 0, .int .u8 0, .int .u8 0, .int .u8 0, .int .u8 0, .int .u8 0, .int .u8 0, .int .u8 0, .int .u8 0, .int .u8 0, .int .u8 0, .int .u8 0, .int .u8 0, .int .u8 0, .int .u8 0, .int .u8 0, .int .u8 0, .int .u8 0, .int .u8 0, .int .u8 0, .int .u8 0, .int .u8 0, .int .u8 0, .int .u8 0, .int .u8 0, .int .u8 0, .int .u8 0, .int .i64 0, .int .i64 0] 51)).setRow W.heap.size (ndv n).toArray) ∧ Blk ((W.alloc (.cells #[.int .u8 0, .int .u8 0, .int .u8 0, .int .u8 0, .int .u8 0, .int .u8 0, .int .u8 0, .int .u8 0, .int .u8 0, .int .u8 0, .int .u8 0, .int .u8 0, .int .u8 0, .int .u8 0, .int .u8 0, .int .u8 0, .int .u8 0, .int .u8 0, .int .u8 0, .int .u8 0, .int .u8 0, .int .u8 0, .int .u8 0, .int .u8 0, .int .u8 0, .int .u8 0, .int .u8 0, .int .u8 0, .int .u8 0, .int .u8 0, .int .u8 0, .int .u8 0, .int .i64 0, .int .i64 0] 51)).setRow W.heap.size (ndv n).toArray) W.heap.size 51 (ndv n) ∧ Below W.heap.size W ((W.alloc (.cells #[.int .u8 0, .int .u8 0, .int .u8 0, .int .u8 0, .int .u8 0, .int .u8 0, .int .u8 0, .int .u8 0, .int .u8 0, .int .u8 0, .int .u8 0, .int .u8 0, .int .u8 0, .int .u8 0, .int .u8 0, .int .u8 0, .int .u8 0, .int .u8 0, .int .u8 0, .int .u8 0, .int .u8 0, .int .u8 0, .int .u8 0, .int .u8 0, .int .u8 0, .int .u8 0, .int .u8 0, .int .u8 0, .int .u8 0, .int .u8 0, .int .u8 0, .int .u8 0, .int .i64 0, .int .i64 0] 51)).setRow W.heap.size (ndv n).toArray) := by
  have hb : Below W.heap.size W ((W.alloc (.cells #[.int .u8 0, .int .u8 0, .int .u8 0, .int .u8 0, .int .u8 0, .int .u8 0, .int .u8 0, .int .u8 0, .int .u8 0, .int .u8 0, .int .u8 0, .int .u8 0, .int .u8 0, .int .u8 0, .int .u8 0, .int .u8 0, .int .u8 0, .int .u8 0, .int .u8 0, .int .u8 0, .int .u8 0, .int .u8 0, .int .u8 0, .int .u8 0, .int .u8 0, .int .u8 0, .int .u8 0, .int .u8 0, .int .u8 0, .int .u8 0, .int .u8 0, .int .u8 0, .int .i64 0, .int .i64 0] 51)).setRow W.heap.size (ndv n).toArray) := below_row ((Below.refl _ _).alloc (Nat.le_refl _) _) (Nat.le_refl _) _
  exact ⟨⟨hb.size, fun k o _ hk _ => (hb.block k (Array.getElem?_eq_some_iff.1 hk).1).trans hk⟩, KpB.of_below hb hLB, (blk_zero W).setRow _, hb⟩
theorem wpListIn_lay (l : Nat) {ops : Array Oper} {rest : List Oper} {o : Oper} {a : Act} {w : World} {Q : Exit → Act → World → Prop} {g : Nat} {n n' : Nd} (hb : Blk w g 51 (ndv n)) (hl : n.1.length = 32) (hl' : n'.1.length = 32) (x y : Operand) (ho : o.op = .store 51 x y) (hgd : Region.wanted o (yielded ops a.tmps) = true) (hx : a.eval x = .pointer (some ⟨g, 0, none⟩)) (hy : a.eval y = .agg (ndv n').toArray)
    (h : wpListIn (Fence.wide.inRound l) 8 Try.prog ops Q rest (a.put o.dst undef) (w.setRow g (ndv n').toArray)) : wpListIn (Fence.wide.inRound l) 8 Try.prog ops Q (o :: rest) a w :=
  wpListIn_store (round_fn l) _ x y ho hgd _ _ _ hx hy (run_store_node hb hl hl') h

/-- Blocks below R stay, whatever the iterator and the book-keeping write. -/
theorem blk_stays {LB R g : Nat} {W W' : World} {row : Option Nat} {t : TypeId} {vs : List Value} (h : Blk W g t vs) (hg : g < R) (hgr : W.grownBy W' row) (hr : ∀ r, row = some r → Mine LB R W r) : Blk W' g t vs :=
  (hgr.block g h.lt fun e => by have := (hr g e.symm).1; omega).trans h
theorem below_stays {LB R B0 : Nat} {w W W' : World} {row : Option Nat} (h : Below B0 w W) (hB : B0 ≤ R) (hw : B0 ≤ w.heap.size) (hgr : W.grownBy W' row) (hr : ∀ r, row = some r → Mine LB R W r) : Below B0 w W' :=
  h.grown hgr (Nat.le_trans hw h.size) (fun k e => Nat.le_trans hB (hr k e).1)
theorem blk_minds {R g l : Nat} {W : World} {t : TypeId} {vs : List Value} (h : Blk W g t vs) (hg : g < R) (hl : R ≤ l) (o' : Obj) : Blk (W.putObj l o') g t vs := (World.putObj_heap_other (by omega)).trans h
theorem below_minds {R B0 l : Nat} {w W : World} (h : Below B0 w W) (hB : B0 ≤ R) (hl : R ≤ l) (o' : Obj) : Below B0 w (W.putObj l o') :=
  h.trans ⟨rfl, rfl, rfl, Nat.le_of_eq (World.putObj_size).symm, fun k hk => World.putObj_heap_other (by omega)⟩

/-- The function's end behind a loop over a function; its answer lies in a cell. -/
theorem leaves_cell {P : Program} {fn : Func} {p : Tmp} {ty : TypeId} (hf : fn.results = #[.cell p ty]) {tmps : Array Value} {R : Ending → World → Prop} {D : Nat} {W : World} (hD : W.heap[D]? = some (.deferred (some []))) {g : Nat} {v : Value} (hp : tmps.getD p undef = .pointer (some ⟨g, 0, none⟩))
    (hv : (loadVar ty ⟨g, 0, none⟩).run P (W.putObj D (.deferred none)) = .ok v (W.putObj D (.deferred none))) (hR : R (.returned v) (W.putObj D (.deferred none))) :
    LeavesInM Fence.wide 10 P fn tmps R [{ target := .collected D, args := #[] }] .returning W := by
  refine ⟨by simp, .inl ⟨_, _, rfl, run_takeDeferred hD, ?_⟩⟩
  refine ⟨_, ?_, hR⟩
  rw [results_cell hf, hp]
  simp only [asAddr, Sem.run_pure, Result.andThen_ok]
  exact hv

def NoneIs (x : List UInt8) (pre : List Ndl) : Prop := ∀ n ∈ pre, (n.1.1 == x) = false
def SomeIs (x : List UInt8) (pre : List Ndl) : Prop := ∃ n ∈ pre, (n.1.1 == x) = true
theorem load_bool {W : World} {g : Nat} {q : Bool} (h : Blk W g 4 [.bool q]) : (loadVar 4 ⟨g, 0, none⟩).run Try.prog W = .ok (.bool q) W := by
  have c := h.cell 0
  simp only [List.getElem?_cons_zero] at c
  go_simp

set_option maxHeartbeats 8000000 in
theorem below_any (w : World) (F : List Nat) (b : Nat) (t : List Nd) (most : Int) (x y : List UInt8) (h : Tre w F b t most) (hx : x.length = 32) (hy : y.length = 32) :
    Calls Try.prog 24 #[.pointer (some ⟨b, 0, none⟩), .agg (bv x).toArray, .agg (bv y).toArray] w fun e w' => e = .returned (.bool (belowT t x y)) ∧ Below w.heap.size w w' := by
  have hb1 : Below w.heap.size w (((w.alloc (.cells (bv x).toArray 24)).alloc (.cells (bv y).toArray 24)).alloc (.cells #[.bool false] 4)) := (((Below.refl _ w).alloc (Nat.le_refl _) _).alloc (by simp) _).alloc (by simp; omega) _
  have HB := Lib.hid hb1
  have HX := Lib.hid (((Blk.new w 24 (bv x).toArray).alloc (.cells (bv y).toArray 24)).alloc (.cells #[.bool false] 4))
  have HY := Lib.hid ((Blk.newAt (w.alloc (.cells (bv x).toArray 24)) 24 (bv y).toArray (w.heap.size + 1) (by simp)).alloc (.cells #[.bool false] 4))
  have HZ := Lib.hid (Blk.newAt ((w.alloc (.cells (bv x).toArray 24)).alloc (.cells (bv y).toArray 24)) 4 #[.bool false] (w.heap.size + 1 + 1) (by simp))
  have H1 := Lib.hid (h.below hb1)
  have HS := Lib.hid (show (((w.alloc (.cells (bv x).toArray 24)).alloc (.cells (bv y).toArray 24)).alloc (.cells #[.bool false] 4)).heap.size = w.heap.size + 3 by simp)
  have HLow := Lib.hid h.low
  obtain ⟨X, hX⟩ : ∃ X, X = w.heap.size := ⟨_, rfl⟩
  obtain ⟨Y, hY⟩ : ∃ Y, Y = w.heap.size + 1 := ⟨_, rfl⟩
  obtain ⟨Z, hZ⟩ : ∃ Z, Z = w.heap.size + 1 + 1 := ⟨_, rfl⟩
  have HXX := Lib.hid (show w.heap.size ≤ X ∧ X < w.heap.size + 3 ∧ X ≠ Z by omega)
  have HZZ := Lib.hid (show w.heap.size ≤ Z ∧ Z < w.heap.size + 3 by omega)
  have HG := Lib.hid h.1
  clear hb1 h
  refine (callsIn_wide (n := 10)).1 ?_
  refine callsIn_of_wp_marks Try.func24 rfl trivial ?_ rfl
  simp only [Try.ntmps24, List.size_toArray, List.length_cons, List.length_nil, Nat.reduceAdd, Nat.reduceSub, Array.replicate_succ, Array.replicate_zero, List.push_toArray, List.append_toArray, List.nil_append, List.cons_append]
  refine wpIn_wide.2 ?_
  go_upto_region 1 with fail
  rw [← hZ] at HZ ⊢
  rw [← hY] at HY ⊢
  rw [← hX] at HX ⊢
  generalize ((w.alloc (.cells (bv x).toArray 24)).alloc (.cells (bv y).toArray 24)).alloc (.cells #[.bool false] 4) = w1 at HB HX HY HZ H1 HS ⊢
  clear hX hY hZ
  have HYA := Lib.hid HY.out.rootAll
  go_wp2_with ((with_reducible refine wpList_load_name (.tmp 5) ?_ ?_ Y 0 y ?_ hy HYA.out ?_); rfl; rfl; rfl)
  refine (up_any w1 (some ⟨b, 0, none⟩) y).mono ?_
  rintro e w2 ⟨rfl, hw2⟩
  obtain ⟨Bn, hBn⟩ : ∃ Bn, Bn = w1.heap.size := ⟨_, rfl⟩
  obtain ⟨Yn, hYn⟩ : ∃ Yn, Yn = w1.heap.size + 1 := ⟨_, rfl⟩
  have hb2 : Below w1.heap.size w1 w2 := by rw [hw2]; exact ((Below.refl _ w1).alloc (Nat.le_refl _) _).alloc (by simp) _
  have HS2 := Lib.hid (show w2.heap.size = w1.heap.size + 2 by rw [hw2]; simp)
  have HBN := Lib.hid (show w2.cell? ⟨Bn, 0, none⟩ = some (.pointer (some ⟨b, 0, none⟩)) by
    rw [hw2, hBn]
    exact ((Blk.new w1 26 #[.pointer (some ⟨b, 0, none⟩)]).alloc (.cells (bv y).toArray 24)).cell 0)
  have HYN := Lib.hid (show Blk w2 Yn 24 (bv y) by
    rw [hw2, hYn]
    exact Blk.newAt (w1.alloc (.cells #[.pointer (some ⟨b, 0, none⟩)] 26)) 24 (bv y).toArray _ (by simp))
  have HBB := Lib.hid (show Bn = w1.heap.size from hBn)
  rw [← hYn, ← hBn]
  have H2 := Lib.hid (H1.out.below hb2)
  have HB2 := Lib.hid (HB.out.trans (hb2.mono HB.out.size))
  have HX2 := Lib.hid (HX.out.below hb2 HX.out.lt)
  have HZ2 := Lib.hid (HZ.out.below hb2 HZ.out.lt)
  have hSB : SB Z w2 = [Z] := by
    unfold SB
    rw [HZ2.out.cell 0]
    rfl
  have HSB := Lib.hid hSB
  clear hw2 hb2 hBn hYn H1 HB HX HY HZ HYA hSB
  go_wp2_with fail
  have hz2 : Z < w2.heap.size := HZ2.out.lt
  have hx2 : X < w2.heap.size := HX2.out.lt
  have hw2 : w.heap.size ≤ w2.heap.size := HB2.out.size
  have HUP := Lib.hid (up_gives Z w2.heap.size w2 F b Bn Yn t most y H2.out HBN.out HYN.out hy (Nat.le_refl _) hz2 (fun k hk => H2.out.low k hk) (by rw [HBB.out, HS2.out]; omega)
    (by rw [HSB.out]; exact fun k hk hm => by simp at hm; have h1 := HLow.out k hk; have h2 := HZZ.out; omega)
    (by rw [HSB.out]; intro hm; simp at hm; have h1 := HBB.out; have h2 := HS.out; have h3 := HZZ.out; omega)
    (by rw [HSB.out]; intro k hk; simp at hk; rw [hk]; exact hz2))
  have HXN := Lib.hid hx
  refine (wpIn_wide (n := 10)).1 (over_func (α := Ndl) rfl (enters_of Try.func57 (by kernel_rfl) rfl) (fun _ => rfl) (LB := Z) hz2 HUP.out (Below.refl _ _)
    (fun pre W => NoneIs x pre ∧ Blk W Z 4 [.bool false] ∧ Blk W X 24 (bv x) ∧ Below w.heap.size w W)
    (fun pre W => SomeIs x pre ∧ Blk W Z 4 [.bool true] ∧ Below w.heap.size w W)
    ⟨(fun n hn => (by cases hn)), HZ2.out, HX2.out, HB2.out⟩
    (fun s A C row hs hg hr => ⟨hs.1, blk_stays hs.2.1 hz2 hg hr, blk_stays hs.2.2.1 hx2 hg hr, below_stays hs.2.2.2 hw2 (Nat.le_refl _) hg hr⟩)
    (fun s A C row hs hg hr => ⟨hs.1, blk_stays hs.2.1 hz2 hg hr, below_stays hs.2.2 hw2 (Nat.le_refl _) hg hr⟩)
    (fun s A l o o' hs hl h0 hc => ⟨hs.1, blk_minds hs.2.1 hz2 hl o', blk_minds hs.2.2.1 hx2 hl o', below_minds hs.2.2.2 hw2 hl o'⟩)
    (fun s A l o o' hs hl h0 hc => ⟨hs.1, blk_minds hs.2.1 hz2 hl o', below_minds hs.2.2 hw2 hl o'⟩) ?round ?done ?stop)
  case round =>
    rintro l pre n W ⟨h1, h2, h3, h4⟩ hN
    have hWR : w2.heap.size ≤ W.heap.size → True := fun _ => trivial
    obtain ⟨r1, r2, r3, r4⟩ := laid_round (LB := Z) (R := w2.heap.size) W n.1 h2.lt
    have HZB := Lib.hid (blk_zero W)
    have HR := Lib.hid r3
    have HK1 := Lib.hid r1
    have HK2 := Lib.hid r2
    have HZW := Lib.hid (h2.below r4 h2.lt)
    have HXW := Lib.hid (h3.below r4 h3.lt)
    have HBW := Lib.hid (h4.trans (r4.mono h4.size))
    have HQ := Lib.hid h1
    have HNL := Lib.hid n.2
    obtain ⟨V, hV⟩ : ∃ V, V = W.heap.size := ⟨_, rfl⟩
    clear r1 r2 r3 r4 h1 h2 h3 h4
    gi_wp2_with ((with_reducible refine wpListIn_lay l HZB.out nd0_len HNL.out (.tmp 7) (.tmp 11) ?_ ?_ ?_ ?_ ?_); rfl; rfl; rfl; rfl)
    refine ⟨HK1.out, HK2.out, ?_⟩
    rw [← hV] at HR HZW HXW HBW ⊢
    clear HZB HK1 HK2
    generalize (W.alloc (.cells _ 51)).setRow _ (ndv n.1).toArray = W1 at HR HZW HXW HBW ⊢
    intro W3 ht
    have HRA := Lib.hid (ht.blk HR.out).nodeName
    have HXA := Lib.hid (ht.blk HXW.out).rootAll
    have HZ3 := Lib.hid (ht.blk HZW.out)
    have HX3 := Lib.hid (ht.blk HXW.out)
    have HB3 := Lib.hid (ht.below HBW.out hw2)
    clear HR HZW HXW HBW ht hV
    have hq := root_eqW W3 n.1.1 x HNL.out HXN.out
    have f0 := HZ3.out.free 0
    have c0 := HZ3.out.cell 0
    obtain ⟨q, hqe⟩ : ∃ q, (n.1.1 == x) = q := ⟨_, rfl⟩
    have HQE := Lib.hid hqe
    rw [hqe] at hq
    clear hqe
    cases q with
    | true =>
      gi_wp2_with (first
        | ((with_reducible refine wpListIn_load (round_fn l) 24 (.tmp 12) ?_ ?_ _ _ ?_ (run_load_root HNL.out HRA.out) ?_); rfl; rfl; rfl)
        | ((with_reducible refine wpListIn_load (round_fn l) 24 (.tmp 4) ?_ ?_ _ _ ?_ (run_load_root HXN.out HXA.out) ?_); rfl; rfl; rfl))
      exact ⟨(KeepsOthers.setCell _ _ _).from _, .inr ⟨rfl, ⟨n, by simp, HQE.out⟩, HZ3.out.set 0 _, HB3.out.setCell (by exact HZZ.out.1) _⟩⟩
    | false =>
      gi_wp2_with (first
        | ((with_reducible refine wpListIn_load (round_fn l) 24 (.tmp 12) ?_ ?_ _ _ ?_ (run_load_root HNL.out HRA.out) ?_); rfl; rfl; rfl)
        | ((with_reducible refine wpListIn_load (round_fn l) 24 (.tmp 4) ?_ ?_ _ _ ?_ (run_load_root HXN.out HXA.out) ?_); rfl; rfl; rfl))
      exact ⟨(KeepsOthers.refl _).from _, .inl ⟨rfl, KpB.of_below (Below.refl _ _) HZ3.out.lt, (fun m hm => by
        rcases List.mem_append.1 hm with hm | hm
        · exact HQ.out m hm
        · rw [List.mem_singleton] at hm; rw [hm]; exact HQE.out), HZ3.out, HX3.out, HB3.out⟩⟩
  case done =>
    rintro D xs W hD hS ⟨h1, h2, h3, h4⟩ hd
    have HB3 := Lib.hid h4
    have HZ3 := Lib.hid h2
    have HD := Lib.hid hd
    have f0 := h2.free 0
    have c0 := h2.cell 0
    have HA := Lib.hid (show belowT t x y = false by
      unfold belowT
      rw [← hS, List.any_map]
      exact List.any_eq_false.2 fun n hn => by have := h1 n hn; simp only [Function.comp]; rw [this]; simp)
    clear hS h1 h2 h3 h4 hd
    go_wp2_with fail
    have hz := HZ3.out.set 0 (.bool false)
    have hne : D ≠ Z := by omega
    refine leaves_cell rfl (D := D) ((Below.heap_setCell W ⟨Z, 0, none⟩ _ D (by simpa using hne)).trans HD.out) (g := Z) rfl (v := .bool false) ?_ ⟨by rw [HA.out], below_minds (HB3.out.setCell (by exact HZZ.out.1) _) hw2 hD _⟩
    exact load_bool (blk_minds (R := w2.heap.size) hz hz2 hD _)
  case stop =>
    rintro D pre W hD hS ⟨h15, h2, h4⟩ hd
    obtain ⟨n, h1, h5⟩ := h15
    refine wpIn_wide.2 ?_
    have HB3 := Lib.hid h4
    have HZ3 := Lib.hid h2
    have HD := Lib.hid hd
    have HA := Lib.hid (show belowT t x y = true by
      unfold belowT
      exact List.any_eq_true.2 ⟨n.1, hS.subset (List.mem_map.2 ⟨n, h1, rfl⟩), h5⟩)
    clear hS h1 h2 h4 h5 hd
    go_wp2_with fail
    exact leaves_cell rfl (D := D) HD.out (g := Z) rfl (v := .bool true) (load_bool (blk_minds (R := w2.heap.size) HZ3.out hz2 hD _)) ⟨by rw [HA.out], below_minds HB3.out hw2 hD _⟩
end Go.Proofs.Ytjodhagjfjgbcaa

/-
  Rows of names ([]api.Root) as cells; a row that a loop over a function collects in a variable.
-/
namespace Go.Proofs.Ytjodhagjfjgbcaa
open Go Go.RowKit Go.Shelf
set_option maxRecDepth 10000

def rv (l : List (List UInt8)) : List Value := l.flatMap bv
def Rts (l : List (List UInt8)) : Prop := ∀ r ∈ l, r.length = 32
theorem rv_append (a b : List (List UInt8)) : rv (a ++ b) = rv a ++ rv b := by simp [rv]
theorem rv_sole (r : List UInt8) : rv [r] = bv r := by simp [rv]
theorem rv_length : ∀ (l : List (List UInt8)), Rts l → (rv l).length = l.length * 32
  | [], _ => rfl
  | x :: l, h => by
    have h1 := rv_length l (fun y hy => h y (List.mem_cons_of_mem _ hy))
    have h2 := h x List.mem_cons_self
    rw [rv, List.flatMap_cons, List.length_append, bv_length, h2, ← rv, h1, List.length_cons]
    omega
theorem rv_at : ∀ (l : List (List UInt8)) (i j : Nat) (r : List UInt8), Rts l → l[i]? = some r → j < 32 → (rv l)[i * 32 + j]? = (bv r)[j]?
  | [], i, j, x, _, h, _ => by simp at h
  | y :: l, 0, j, x, hT, h, hj => by
    simp at h
    subst h
    rw [rv, List.flatMap_cons, Nat.zero_mul, Nat.zero_add, List.getElem?_append_left (by rw [bv_length, hT y List.mem_cons_self]; exact hj)]
  | y :: l, i + 1, j, x, hT, h, hj => by
    have hx := hT y List.mem_cons_self
    rw [rv, List.flatMap_cons, List.getElem?_append_right (by rw [bv_length, hx]; omega), bv_length, hx, show (i + 1) * 32 + j - 32 = i * 32 + j by omega, ← rv]
    exact rv_at l i j x (fun z hz => hT z (List.mem_cons_of_mem _ hz)) (by simpa using h) hj
theorem Lies.name {w : World} {B b off : Nat} {ao : Option Addr} {l : List (List UInt8)} (h : Lies w B ao b off (rv l)) (hT : Rts l) {i : Nat} {r : List UInt8} (hi : l[i]? = some r) : ao = some ⟨b, off, none⟩ ∧ ∀ j v, (bv r)[j]? = some v → w.cell? ⟨b, off + i * 32 + j, none⟩ = some v := by
  have hl := (List.getElem?_eq_some_iff.1 hi).1
  refine ⟨h.addr (by rw [rv_length l hT]; omega), fun j v hj => ?_⟩
  have hjl : j < 32 := by
    have := (List.getElem?_eq_some_iff.1 hj).1
    rwa [bv_length, hT r (List.mem_of_getElem? hi)] at this
  rw [Nat.add_assoc]
  exact h.cells _ v ((rv_at l i j r hT hi hjl).trans hj)
theorem Rts.append {a b : List (List UInt8)} (h : Rts a) (k : Rts b) : Rts (a ++ b) := fun r hr => (List.mem_append.1 hr).elim (h r) (k r)
theorem Rts.sole {r : List UInt8} (h : r.length = 32) : Rts [r] := fun x hx => by rw [List.mem_singleton] at hx; rw [hx]; exact h
theorem Good.rts {t : List Nd} {most : Int} (G : Good t most) : Rts (rs t) := G.len

/-- The variable's block holds a slice that holds these names, in memory made since R. -/
def HoldsR (LB R : Nat) (xs : List (List UInt8)) (W : World) : Prop :=
  ∃ v, Blk W LB 37 [v] ∧ Wide 32 W R v (rv xs) ∧ ∀ j, v.ownBlock = some j → ∃ o, W.heap[j]? = some o ∧ o.isCells = true
theorem HoldsR.lt {LB R : Nat} {xs : List (List UInt8)} {W : World} (h : HoldsR LB R xs W) : LB < W.heap.size := by obtain ⟨v, h1, _⟩ := h; exact h1.lt
theorem sb_of {LB : Nat} {W : World} {t : TypeId} {v : Value} (h : Blk W LB t [v]) : SB LB W = LB :: ownL v := by
  unfold SB; rw [h.cell 0]; rfl
theorem HoldsR.stays {LB R : Nat} {xs : List (List UInt8)} {W W' : World} {row : Option Nat} (h : HoldsR LB R xs W) (hLB : LB < R) (hg : W.grownBy W' row) (hr : ∀ r, row = some r → Mine LB R W r) : HoldsR LB R xs W' := by
  obtain ⟨v, h1, h2, h3⟩ := h
  have hne : ∀ j, v.ownBlock = some j → row ≠ some j := fun j hj e => by
    have := (hr j e).2.1
    rw [sb_of h1] at this
    exact this (List.mem_cons_of_mem _ (mem_ownL.2 hj))
  refine ⟨v, blk_stays h1 hLB hg hr, h2.grown hg hne, fun j hj => ?_⟩
  obtain ⟨o, ho, hc⟩ := h3 j hj
  exact ⟨o, (hg.block j (Array.getElem?_eq_some_iff.1 ho).1 (fun e => hne j hj e.symm)).trans ho, hc⟩
theorem HoldsR.minds {LB R l : Nat} {xs : List (List UInt8)} {W : World} {o : Obj} (h : HoldsR LB R xs W) (hLB : LB < R) (hl : R ≤ l) (h0 : W.heap[l]? = some o) (hc : o.isCells = false) (o' : Obj) : HoldsR LB R xs (W.putObj l o') := by
  obtain ⟨v, h1, h2, h3⟩ := h
  have hne : ∀ j, v.ownBlock = some j → j ≠ l := fun j hj e => by
    obtain ⟨o2, h4, h5⟩ := h3 j hj
    subst e; rw [h0] at h4; cases h4; rw [hc] at h5; cases h5
  refine ⟨v, blk_minds h1 hLB hl o', h2.kept (F := [l]) ⟨rfl, rfl, rfl, Nat.le_of_eq (World.putObj_size).symm, fun k _ hk => World.putObj_heap_other (by simpa using hk)⟩ (fun j hj hm => by simp at hm; exact hne j hj hm), fun j hj => ?_⟩
  obtain ⟨o2, h4, h5⟩ := h3 j hj
  exact ⟨o2, (World.putObj_heap_other (hne j hj)).trans h4, h5⟩
theorem HoldsR.below {LB R : Nat} {xs : List (List UInt8)} {W W' : World} (h : HoldsR LB R xs W) (hb : Below W.heap.size W W') : HoldsR LB R xs W' := by
  obtain ⟨v, h1, h2, h3⟩ := h
  refine ⟨v, h1.below hb h1.lt, h2.below hb, fun j hj => ?_⟩
  obtain ⟨o, ho, hc⟩ := h3 j hj
  exact ⟨o, (hb.block j (Array.getElem?_eq_some_iff.1 ho).1).trans ho, hc⟩
theorem holds_new {W : World} {LB R : Nat} (h : Blk W LB 37 [.slice none 0 0]) : HoldsR LB R [] W := ⟨_, h, wide_nil0 32 W R, fun j hj => by simp [Value.ownBlock] at hj⟩

/-- 'list = append(list, name)', in a round. -/
theorem HoldsR.collected {LB R : Nat} {xs : List (List UInt8)} {W W1 : World} {v v' : Value} {o : Obj} {r : List UInt8} (h1 : Blk W LB 37 [v]) (h3 : ∀ j, v.ownBlock = some j → ∃ o, W.heap[j]? = some o ∧ o.isCells = true) (hLB : LB < R)
    (h2 : Wide 32 W R v (rv xs)) (hw : Wide 32 W1 R v' (rv xs ++ bv r)) (hg : Grew (W.alloc o) v W1 v') (hr : r.length = 32) :
    HoldsR LB R (xs ++ [r]) (W1.setCell ⟨LB, 0, none⟩ v') ∧ KeepsFrom R W (W1.setCell ⟨LB, 0, none⟩ v') ∧ KpB LB R W (W1.setCell ⟨LB, 0, none⟩ v') ∧ Blk W1 LB 37 [v] ∧ (∀ B0, B0 ≤ LB → Below B0 W (W1.setCell ⟨LB, 0, none⟩ v')) ∧ Kept (LB :: ownL v) W (W1.setCell ⟨LB, 0, none⟩ v') := by
  have hvo : ∀ j, v.ownBlock = some j → R ≤ j := h2.own
  have hx0 : 0 < (rv xs ++ bv r).length := by rw [List.length_append, bv_length, hr]; omega
  have hk1 : Kept (ownL v) W W1 := (Kept.of_below _ ((Below.refl _ W).alloc (Nat.le_refl _) o)).trans (Kept.of_grown _ hg.grown (fun j hj => mem_ownL.2 hj)) (NewF.refl _ _)
  have hLv : LB ∉ ownL v := fun hm => by have := hvo LB (mem_ownL.1 hm); omega
  have hb1 : Blk W1 LB 37 [v] := h1.kept hk1 hLv
  have hLv' : v'.ownBlock ≠ some LB := fun e => by have := hw.own LB e; omega
  have hk2 : Kept [LB] W1 (W1.setCell ⟨LB, 0, none⟩ v') := (Kept.refl _ _).setCell _ _ (.inl (by simp))
  have hk : Kept (LB :: ownL v) W (W1.setCell ⟨LB, 0, none⟩ v') := (hk1.mono (fun x hx => List.mem_cons_of_mem _ hx)).trans (hk2.mono (fun x hx => by simp at hx; rw [hx]; exact List.mem_cons_self)) (NewF.refl _ _)
  have hb2 : Blk (W1.setCell ⟨LB, 0, none⟩ v') LB 37 [v'] := hb1.set 0 v'
  have hw2 : Wide 32 (W1.setCell ⟨LB, 0, none⟩ v') R v' (rv (xs ++ [r])) := by
    rw [rv_append, rv_sole]
    exact hw.kept hk2 (fun j hj hm => by simp at hm; subst hm; exact hLv' hj)
  refine ⟨⟨v', hb2, hw2, fun j hj => ?_⟩, ⟨hk.size, fun k o2 hkR h0 hc => (hk.block k (Array.getElem?_eq_some_iff.1 h0).1 (fun hm => ?_)).trans h0⟩, KpB.of_kept hk (fun x hx => by rw [sb_of h1]; exact hx) (fun x hx => ?_), hb1, fun B0 hB => hk.below (by have := h1.lt; omega) (fun x hx => ?_), hk⟩
  · obtain ⟨n, cap, g, off, ao, e, ha⟩ := hw2
    have hc : 0 < cap := by
      have h5 := ha.len
      have h6 := ha.le
      rw [rv_append, rv_sole] at h5
      rcases Nat.eq_zero_or_pos n with hn | hn
      · rw [hn, Nat.zero_mul] at h5; omega
      · omega
    rw [e, ha.addr hc] at hj
    simp [Value.ownBlock] at hj
    subst hj
    have h7 := ha.room 0 (Nat.mul_pos hc (by decide))
    cases hq : (W1.setCell ⟨LB, 0, none⟩ v').heap[g]? with
    | none => simp [World.cell?, hq] at h7
    | some ob =>
      refine ⟨ob, rfl, ?_⟩
      cases ob with
      | cells _ _ _ => rfl
      | _ => simp [World.cell?, hq] at h7
  · rcases List.mem_cons.1 hm with rfl | hm
    · omega
    · obtain ⟨o3, h4, h5⟩ := h3 k (mem_ownL.1 hm)
      rw [h0] at h4; cases h4; rw [hc] at h5; cases h5
  · rw [sb_of hb2] at hx
    rw [sb_of h1]
    rcases List.mem_cons.1 hx with rfl | hx
    · exact .inl List.mem_cons_self
    · rcases hg.own with h5 | ⟨j, h5, h6⟩
      · exact .inl (List.mem_cons_of_mem _ (mem_ownL.2 (h5 ▸ mem_ownL.1 hx)))
      · rw [mem_ownL, h5] at hx
        cases hx
        simp at h6
        exact .inr (by omega)
  · rcases List.mem_cons.1 hx with rfl | hx
    · exact hB
    · have := hvo x (mem_ownL.1 hx); omega
end Go.Proofs.Ytjodhagjfjgbcaa
