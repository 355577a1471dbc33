/-
  The texts Vote, VSame, one behind the other.
-/
import Derived.Test.YtnbdpalbompjlaaDoorM8
import Derived.Test.YtnbdpalbompjlaaDoorWSame
import Derived.Laws.StructEq
import Derived.Test.YtnbdpalbompjlaaDoorM3
/-
  Votes as cells: written out, in memory, held against each other.
-/
namespace Go.Proofs.YtnbdpalbompjlaaDoor
open Go.RowKit
set_option maxRecDepth 10000

/-- A vote's cells: who, slot, target. -/
def vcell (x : Nat × Int × List UInt8) : List Value := .int .i64 (x.1 : Int) :: .int .i64 x.2.1 :: bv x.2.2
def vv (l : List (Nat × Int × List UInt8)) : List Value := l.flatMap vcell
/-- Their targets are as long as they are. -/
def Vots (l : List (Nat × Int × List UInt8)) : Prop := ∀ x ∈ l, x.2.2.length = 32
theorem vcell_length {x : Nat × Int × List UInt8} (h : x.2.2.length = 32) : (vcell x).length = 34 := by simp [vcell, bv_length, h]
theorem vv_append (a b : List (Nat × Int × List UInt8)) : vv (a ++ b) = vv a ++ vv b := by simp [vv]
theorem vv_sole (x : Nat × Int × List UInt8) : vv [x] = vcell x := by simp [vv]
theorem vcell_one (x : Nat × Int × List UInt8) : ∀ v ∈ vcell x, v.oneCell' = true := by
  intro v hv
  simp only [vcell, List.mem_cons] at hv
  rcases hv with rfl | rfl | h
  · rfl
  · rfl
  · exact bv_one _ v h
theorem vv_one (l : List (Nat × Int × List UInt8)) : ∀ v ∈ vv l, v.oneCell' = true := by
  intro v hv
  rw [vv, List.mem_flatMap] at hv
  obtain ⟨x, _, h⟩ := hv
  exact vcell_one x v h
theorem vv_length : ∀ (l : List (Nat × Int × List UInt8)), Vots l → (vv l).length = l.length * 34
  | [], _ => rfl
  | x :: l, h => by
    have h1 := vv_length l (fun y hy => h y (List.mem_cons_of_mem _ hy))
    have h2 := vcell_length (h x List.mem_cons_self)
    rw [vv, List.flatMap_cons, List.length_append, h2, ← vv, h1, List.length_cons]
    omega
theorem vv_at : ∀ (l : List (Nat × Int × List UInt8)) (i j : Nat) (x : Nat × Int × List UInt8), Vots l → l[i]? = some x → j < 34 → (vv l)[i * 34 + j]? = (vcell x)[j]?
  | [], i, j, x, _, h, _ => by simp at h
  | y :: l, 0, j, x, hT, h, hj => by
    simp at h
    subst h
    rw [vv, List.flatMap_cons, Nat.zero_mul, Nat.zero_add, List.getElem?_append_left (by rw [vcell_length (hT y List.mem_cons_self)]; exact hj)]
  | y :: l, i + 1, j, x, hT, h, hj => by
    have hx := vcell_length (hT y List.mem_cons_self)
    rw [vv, List.flatMap_cons, List.getElem?_append_right (by rw [hx]; omega), hx, show (i + 1) * 34 + j - 34 = i * 34 + j by omega, ← vv]
    exact vv_at l i j x (fun z hz => hT z (List.mem_cons_of_mem _ hz)) (by simpa using h) hj
theorem Lies.vote {w : World} {B b off : Nat} {ao : Option Addr} {l : List (Nat × Int × List UInt8)} (h : Lies w B ao b off (vv l)) (hT : Vots l) {i : Nat} {x : Nat × Int × List UInt8} (hi : l[i]? = some x) : ∀ j v, (vcell x)[j]? = some v → w.cell? ⟨b, off + i * 34 + j, none⟩ = some v := fun j v hj => by
  have hjl : j < 34 := by
    have := (List.getElem?_eq_some_iff.1 hj).1
    rwa [vcell_length (hT x (List.mem_of_getElem? hi))] at this
  rw [Nat.add_assoc]
  exact h.cells _ v ((vv_at l i j x hT hi hjl).trans hj)
theorem vcell_inj {x y : Nat × Int × List UInt8} (h : vcell x = vcell y) : x = y := by
  obtain ⟨a, s, T⟩ := x
  obtain ⟨b, t, U⟩ := y
  simp only [vcell, List.cons.injEq, Value.int.injEq, true_and] at h
  obtain ⟨h1, h2, h3⟩ := h
  have h3 : T = U := by
    have := congrArg List.length h3
    rw [bv_length, bv_length] at this
    apply List.ext_getElem? 
    intro i
    have hi := congrArg (fun l => l[i]?) h3
    simp only [bv, List.getElem?_map] at hi
    cases ht : T[i]? with
    | none =>
      cases hu : U[i]? with
      | none => rfl
      | some c => rw [ht, hu] at hi; simp at hi
    | some c =>
      cases hu : U[i]? with
      | none => rw [ht, hu] at hi; simp at hi
      | some d =>
        rw [ht, hu] at hi
        simp at hi
        exact congrArg some (UInt8.toNat_inj.1 (by omega))
  have h1 : a = b := by omega
  rw [h1, h2, h3]

def vplace : Array (Nat × Nat) := #[(0, 1), (1, 1), (2, 32)]
def vzero : List Value := vcell (0, 0, List.replicate 32 0)
theorem vote_parts0 : Tryd.prog.built 51 = fun parts => Go.Instr.fill (fun x => vplace[x]?) vzero.toArray parts := by kernel_rfl
/-- 'api.Vote{Validator: i, Slot: s, Target: T}' -/
theorem built_avote (i : Nat) (s : Int) (T : List UInt8) (hT : T.length = 32) : Tryd.prog.built 51 [(0, .int .i64 (i : Int)), (1, .int .i64 s), (2, .agg (bv T).toArray)] = some (vcell (i, s, T)).toArray := by
  rw [vote_parts0]
  have e1 := fill_step (place := fun x => vplace[x]?) (z := vzero) (j := 0) (off := 0) (size := 1) (v := .int .i64 (i : Int)) (rest := [(1, .int .i64 s), (2, .agg (bv T).toArray)]) rfl rfl (by decide)
  have e2 := fill_step (place := fun x => vplace[x]?) (z := vcell (i, 0, List.replicate 32 0)) (j := 1) (off := 1) (size := 1) (v := .int .i64 s) (rest := [(2, .agg (bv T).toArray)]) rfl rfl (by simp [vcell, bv_length])
  have e3 := fill_step (place := fun x => vplace[x]?) (z := vcell (i, s, List.replicate 32 0)) (j := 2) (off := 2) (size := 32) (v := .agg (bv T).toArray) (rest := []) rfl (by simp [Value.cells, bv_length, hT]) (by simp [vcell, bv_length])
  have s3 : splice (vcell (i, s, List.replicate 32 0)) 2 (Value.agg (bv T).toArray).cells.toList = vcell (i, s, T) := by
    rw [show (Value.agg (bv T).toArray).cells.toList = bv T by simp [Value.cells]]
    simp only [splice, bv_length, hT]
    rw [List.drop_of_length_le (by simp [vcell, bv_length]), List.append_nil]
    rfl
  rw [s3] at e3
  exact e1.trans (e2.trans e3)

theorem Tryd.sizeVote : (Tryd.prog.info? 51).map (·.size) = some 34 := by kernel_rfl
theorem Tryd.infoVote : (Tryd.prog.info? 51).map (fun i => (i.zero, i.size, i.bytes)) = some (some (.agg vzero.toArray), 34, 48) := by kernel_rfl
theorem vote_size {x : Nat × Int × List UInt8} (h : x.2.2.length = 32) : (Tryd.prog.info? 51).map (·.size) = some (vcell x).length := by rw [vcell_length h]; exact Tryd.sizeVote
theorem Tryd.aggVote (w : World) : (isAgg 51).run Tryd.prog w = .ok true w := by
  unfold isAgg
  rw [Sem.run_bind, run_underlying Tryd.underlying51 w]
  rfl

theorem Tryd.fieldsVote : Tryd.prog.underlying 51 = some (.struct (Tryd.prog.fieldsOf 51)) := by kernel_rfl
theorem Tryd.heldVote : Tryd.prog.stoodInHeld 51 = false := by kernel_rfl
theorem vpart_cells (x : Nat × Int × List UInt8) (hx : x.2.2.length = 32) (w : World) : (part 26 (vcell x).toArray 2).run Tryd.prog w = .ok (.agg (bv x.2.2).toArray) w := by
  have ha : (isAgg 26).run Tryd.prog w = .ok true w := by
    unfold isAgg
    rw [Sem.run_bind, run_underlying Tryd.underlying26 w]
    rfl
  have hs : (sizeOf 26).run Tryd.prog w = .ok 32 w := by
    have hz := Tryd.sizeRootB
    cases hq : Tryd.prog.info? 26 with
    | none => rw [hq] at hz; cases hz
    | some i => rw [hq] at hz; simp at hz; simp [sizeOf, typeInfo, hq, hz]
  simp only [part, Sem.run_bind, ha, Result.andThen_ok, if_true, hs]
  have hb : (bv x.2.2).length = 32 := by rw [bv_length, hx]
  simp [vcell, List.take_of_length_le (Nat.le_of_eq hb)]

/-- Two votes held against each other. -/
theorem vote_eq (w : World) (x y : Nat × Int × List UInt8) (hx : x.2.2.length = 32) (hy : y.2.2.length = 32) :
    (Op.equalIn 10000 51 (.agg (vcell x).toArray) (.agg (vcell y).toArray)).run Tryd.prog w = .ok (x == y) w := by
  rw [run_equalIn_struct w 9999 51 _ _ Tryd.fieldsVote Tryd.heldVote]
  have p1 : ∀ z : Nat × Int × List UInt8, (part 3 (vcell z).toArray 0).run Tryd.prog w = .ok (.int .i64 (z.1 : Int)) w := fun z => by
    simp [part, isAgg, run_underlying Tryd.underlying3, vcell]
  have p2 : ∀ z : Nat × Int × List UInt8, (part 3 (vcell z).toArray 1).run Tryd.prog w = .ok (.int .i64 z.2.1) w := fun z => by
    simp [part, isAgg, run_underlying Tryd.underlying3, vcell]
  have e1 : (Op.equalIn 9999 3 (.int .i64 (x.1 : Int)) (.int .i64 (y.1 : Int))).run Tryd.prog w = .ok ((x.1 : Int) == (y.1 : Int)) w := run_equalIn_int (P := Tryd.prog) w 9998 3 .i64 .i64 (x.1 : Int) (y.1 : Int) Tryd.underlying3
  have e2 : (Op.equalIn 9999 3 (.int .i64 x.2.1) (.int .i64 y.2.1)).run Tryd.prog w = .ok (x.2.1 == y.2.1) w := run_equalIn_int (P := Tryd.prog) w 9998 3 .i64 .i64 x.2.1 y.2.1 Tryd.underlying3
  have e3 : (Op.equalIn 9999 26 (.agg (bv x.2.2).toArray) (.agg (bv y.2.2).toArray)).run Tryd.prog w = .ok (x.2.2 == y.2.2) w := run_equalIn_bytes (P := Tryd.prog) w 9997 26 5 32 Tryd.underlying26 Tryd.underlying5 sizeU8 x.2.2 y.2.2 hx hy
  simp only [Program.fieldsOf, Tryd.underlying51, Op.eqFields]
  rw [if_pos (by decide), if_pos (by decide), if_pos (by decide)]
  have hxy : (x == y) = (((x.1 : Int) == (y.1 : Int)) && (x.2.1 == y.2.1) && (x.2.2 == y.2.2)) := by
    obtain ⟨a, s, T⟩ := x
    obtain ⟨b, t, U⟩ := y
    rw [Bool.eq_iff_iff]
    simp only [beq_iff_eq, Bool.and_eq_true, Prod.mk.injEq]
    constructor
    · rintro ⟨rfl, rfl, rfl⟩; exact ⟨⟨rfl, rfl⟩, rfl⟩
    · rintro ⟨⟨h1, h2⟩, h3⟩; exact ⟨by omega, h2, h3⟩
  rw [hxy]
  simp only [Sem.run_bind, p1, e1, Result.andThen_ok]
  cases h1 : ((x.1 : Int) == (y.1 : Int)) with
  | false => simp
  | true =>
    simp only [Bool.not_true, Bool.false_eq_true, if_false, Sem.run_bind, p2, e2, Result.andThen_ok, Bool.true_and]
    cases h2 : (x.2.1 == y.2.1) with
    | false => simp
    | true =>
      simp only [Bool.not_true, Bool.false_eq_true, if_false, Sem.run_bind, vpart_cells x hx, vpart_cells y hy, e3, Result.andThen_ok, Bool.true_and]
      cases h3 : (x.2.2 == y.2.2) <;> simp

/-- A vote out of memory, in a region whose operations come in any order. -/
theorem stepAt_load_vote {ops : Array Oper} {o : Oper} {a : Act} {w : World} {R : Value → World → Prop} {d : Tmp} (hd : o.dst = some d) (hw : Region.wanted o (yielded ops a.tmps) = true) (hz : decide (d < a.tmps.size) = true) (y : Operand) (ho : o.op = .load 51 y)
    (g off : Nat) (x : Nat × Int × List UInt8) (hx : a.eval y = .pointer (some ⟨g, off, none⟩)) (hl : x.2.2.length = 32) (hc : ∀ j v, (vcell x)[j]? = some v → w.cell? ⟨g, off + j, none⟩ = some v) (h : R (.agg (vcell x).toArray) w) : stepAt Tryd.prog ops o a w R := by
  refine stepAt_value hd hw hz _ w ?_ h
  unfold execOp
  simp only [ho, hx, Sem.run_bind, run_loadAt_agg hc 51 Tryd.aggVote (vote_size hl), Result.andThen_ok]
  rfl
theorem wpList_load_vote {ops : Array Oper} {rest : List Oper} {o : Oper} {a : Act} {w : World} {Q : Exit → Act → World → Prop} (y : Operand) (ho : o.op = .load 51 y) (hgd : Region.wanted o (yielded ops a.tmps) = true)
    (g off : Nat) (x : Nat × Int × List UInt8) (hx : a.eval y = .pointer (some ⟨g, off, none⟩)) (hl : x.2.2.length = 32) (hc : ∀ j v, (vcell x)[j]? = some v → w.cell? ⟨g, off + j, none⟩ = some v)
    (h : wpList Tryd.prog ops Q rest (a.put o.dst (.agg (vcell x).toArray)) w) : wpList Tryd.prog ops Q (o :: rest) a w := by
  refine wpList_step fun K hK => ?_
  rw [if_pos hgd]
  unfold Oper.wp execOp
  simp only [ho, hx, Sem.run_bind, run_loadAt_agg hc 51 Tryd.aggVote (vote_size hl), Result.andThen_ok]
  exact hK _ _ h

theorem Tryd.eqGuardVote : Tryd.prog.eqGuardType Tryd.prog.depth 51 = false := by kernel_rfl
theorem run_neq_vote (w : World) (xo yo : Operand) (x y : Nat × Int × List UInt8) (hx : x.2.2.length = 32) (hy : y.2.2.length = 32) :
    (do eqGuard .neq 51 xo yo (.agg (vcell x).toArray) (.agg (vcell y).toArray); binOp .neq 51 (.agg (vcell x).toArray) (.agg (vcell y).toArray)).run Tryd.prog w = .ok (.bool (!(x == y))) w := by
  simp only [Sem.run_bind, run_eqGuard_agg w .neq 51 xo yo _ _ Tryd.eqGuardVote, Result.andThen_ok, run_neq_struct, vote_eq w x y hx hy]
theorem stepAt_neq_vote {ops : Array Oper} {o : Oper} {a : Act} {w : World} {R : Value → World → Prop} {d : Tmp} (hd : o.dst = some d) (hw : Region.wanted o (yielded ops a.tmps) = true) (hz : decide (d < a.tmps.size) = true) (xo yo : Operand) (ty : TypeId) (ho : o.op = .binOp .neq 51 xo yo ty)
    (x y : Nat × Int × List UInt8) (ex : a.eval xo = .agg (vcell x).toArray) (ey : a.eval yo = .agg (vcell y).toArray) (hx : x.2.2.length = 32) (hy : y.2.2.length = 32) (h : R (.bool (!(x == y))) w) : stepAt Tryd.prog ops o a w R := by
  refine stepAt_value hd hw hz _ w ?_ h
  have hr := run_neq_vote w xo yo x y hx hy
  unfold execOp
  simp only [ho, ex, ey]
  rw [Sem.run_bind, hr]
  rfl
theorem wpList_neq_vote {ops : Array Oper} {rest : List Oper} {o : Oper} {a : Act} {w : World} {Q : Exit → Act → World → Prop} (xo yo : Operand) (ty : TypeId) (ho : o.op = .binOp .neq 51 xo yo ty) (hgd : Region.wanted o (yielded ops a.tmps) = true)
    (x y : Nat × Int × List UInt8) (ex : a.eval xo = .agg (vcell x).toArray) (ey : a.eval yo = .agg (vcell y).toArray) (hx : x.2.2.length = 32) (hy : y.2.2.length = 32)
    (h : wpList Tryd.prog ops Q rest (a.put o.dst (.bool (!(x == y)))) w) : wpList Tryd.prog ops Q (o :: rest) a w := by
  refine wpList_step fun K hK => ?_
  rw [if_pos hgd]
  have hr := run_neq_vote w xo yo x y hx hy
  unfold Oper.wp execOp
  simp only [ho, ex, ey]
  rw [Sem.run_bind, hr]
  exact hK _ _ h
end Go.Proofs.YtnbdpalbompjlaaDoor

/-
  What the reference's Same answers of two rows of votes.
-/
namespace Go.Proofs.YtnbdpalbompjlaaDoor
open Go.RowKit
set_option maxRecDepth 100000

set_option maxHeartbeats 4000000 in
theorem vsame_any (w : World) (ao ao2 : Option Addr) (la ca b off lb cb b2 off2 : Nat) (L R : List (Nat × Int × List UInt8)) (hv1 : Vots L) (hv2 : Vots R) (h1 : L.length = la) (h2 : R.length = lb) (hs1 : Lies w w.heap.size ao b off (vv L)) (hs2 : Lies w w.heap.size ao2 b2 off2 (vv R)) (hn : la ≤ 100000) :
    Calls Tryd.prog 18 #[.slice ao la ca, .slice ao2 lb cb] w fun e w' => e = .returned (.bool (decide (L = R))) ∧ Below w.heap.size w w' := by
  have H1 := Lib.hid h1
  have H2 := Lib.hid h2
  have HS1 := Lib.hid hs1
  have HS2 := Lib.hid hs2
  have HV1 := Lib.hid hv1
  have HV2 := Lib.hid hv2
  clear h1 h2 hs1 hs2 hv1 hv2
  by_cases hl : la = lb
  · subst hl
    go_enter Tryd.func18, Tryd.ntmps18
    go_wp2_with fail
    go_loopw [13] (fun i wr => ∃ (j : Nat), j ≤ la ∧ i = .int .i64 j ∧ Hid (L.take j = R.take j) ∧ Hid (Below w.heap.size w wr)) (fun i _ => la - (intOf i).toNat)
    case atStart => exact ⟨0, Nat.zero_le _, rfl, Lib.hid rfl, Lib.hid (Below.refl _ _)⟩
    case round =>
      obtain ⟨j, hj, rfl, HP, HBel⟩ := hrel
      by_cases hlt : j < la
      · obtain ⟨x, hx⟩ : ∃ x, L[j]? = some x := ⟨_, List.getElem?_eq_getElem (by rw [H1.out]; exact hlt)⟩
        obtain ⟨y, hy⟩ : ∃ y, R[j]? = some y := ⟨_, List.getElem?_eq_getElem (by rw [H2.out]; exact hlt)⟩
        have ha := HS1.out.addr (by rw [vv_length L HV1.out, H1.out]; omega)
        have ha2 := HS2.out.addr (by rw [vv_length R HV2.out, H2.out]; omega)
        subst ha
        subst ha2
        have HX := Lib.hid hx
        have HY := Lib.hid hy
        have HXl := Lib.hid (HV1.out x (List.mem_of_getElem? hx))
        have HYl := Lib.hid (HV2.out y (List.mem_of_getElem? hy))
        obtain ⟨Z, hZ⟩ : ∃ Z, Z = !(x == y) := ⟨_, rfl⟩
        have HZ := Lib.hid hZ.symm
        clear hx hy hZ
        go_upto_region 6 with fail
        refine wp_region_free (P := Tryd.prog) 9 (fun w' => Below wr.heap.size wr w') (fun oq v w' => match oq with
            | 0 => v = .slice (some ⟨b, off, none⟩) la ca
            | 1 => v = .int .i64 (j : Int)
            | 2 => v = .pointer (some ⟨b, off + j * 34, none⟩)
            | 3 => v = .agg (vcell x).toArray
            | 4 => v = .slice (some ⟨b2, off2, none⟩) la cb
            | 5 => v = .int .i64 (j : Int)
            | 6 => v = .pointer (some ⟨b2, off2 + j * 34, none⟩)
            | 7 => v = .agg (vcell y).toArray
            | 8 => v = .bool Z
            | _ => True) (by kernel_rfl) (by kernel_rfl) (Below.refl _ _).drew ?gb ?vb ?steps ?fin
        case gb => exact fun a b h1 h2 => h1.trans (h2.mono h1.size)
        case vb =>
          intro oq v a b h hb
          match oq with
          | 0 => exact h
          | 1 => exact h
          | 2 => exact h
          | 3 => exact h
          | 4 => exact h
          | 5 => exact h
          | 6 => exact h
          | 7 => exact h
          | 8 => exact h
          | _ + 9 => trivial
        case steps =>
          intro vals
          simp only [List.take_succ_cons, List.take_zero, freeSteps, Act.put, List.setIfInBounds_toArray, List.set_cons_zero, List.set_cons_succ, Nat.reduceAdd]
          refine ⟨fun w8 hG hW => ?_, fun w8 hG hW => ?_, fun w8 hG hW => ?_, fun w8 hG hW => ?_, fun w8 hG hW => ?_, fun w8 hG hW => ?_, fun w8 hG hW => ?_, fun w8 hG hW => ?_, fun w8 hG hW => ?_, trivial⟩
          · clear hW
            refine stepAt_value rfl rfl rfl (.slice (some ⟨b, off, none⟩) la ca) w8 ?_ ⟨rfl, Below.refl _ _⟩
            go_simp
          · clear hW
            refine stepAt_value rfl rfl rfl (.int .i64 (j : Int)) w8 ?_ ⟨rfl, Below.refl _ _⟩
            go_simp
          · have q0 := hW 0 (by decide)
            simp only at q0
            have q1 := hW 1 (by decide)
            simp only at q1
            rw [q0, q1]
            clear hW
            refine stepAt_value rfl rfl rfl (.pointer (some ⟨b, off + j * 34, none⟩)) w8 ?_ ⟨rfl, Below.refl _ _⟩
            go_simp
          · have q2 := hW 2 (by decide)
            simp only at q2
            rw [q2]
            clear hW
            exact stepAt_load_vote rfl rfl rfl (.tmp 18) rfl b (off + j * 34) x rfl HXl.out (fun i v hi => ((HS1.out.keep (HBel.out.trans (hG.mono HBel.out.size))).vote HV1.out HX.out i v hi)) ⟨rfl, Below.refl _ _⟩
          · clear hW
            refine stepAt_value rfl rfl rfl (.slice (some ⟨b2, off2, none⟩) la cb) w8 ?_ ⟨rfl, Below.refl _ _⟩
            go_simp
          · clear hW
            refine stepAt_value rfl rfl rfl (.int .i64 (j : Int)) w8 ?_ ⟨rfl, Below.refl _ _⟩
            go_simp
          · have q4 := hW 4 (by decide)
            simp only at q4
            have q5 := hW 5 (by decide)
            simp only at q5
            rw [q4, q5]
            clear hW
            refine stepAt_value rfl rfl rfl (.pointer (some ⟨b2, off2 + j * 34, none⟩)) w8 ?_ ⟨rfl, Below.refl _ _⟩
            go_simp
          · have q6 := hW 6 (by decide)
            simp only at q6
            rw [q6]
            clear hW
            exact stepAt_load_vote rfl rfl rfl (.tmp 22) rfl b2 (off2 + j * 34) y rfl HYl.out (fun i v hi => ((HS2.out.keep (HBel.out.trans (hG.mono HBel.out.size))).vote HV2.out HY.out i v hi)) ⟨rfl, Below.refl _ _⟩
          · have q3 := hW 3 (by decide)
            simp only at q3
            have q7 := hW 7 (by decide)
            simp only at q7
            rw [q3, q7]
            clear hW
            exact stepAt_neq_vote rfl rfl rfl (.tmp 19) (.tmp 23) _ rfl x y rfl rfl HXl.out HYl.out ⟨congrArg Value.bool HZ.out, Below.refl _ _⟩
        case fin =>
          intro vals w8 hG hV
          have q8 : vals 8 = .bool Z := hV 8 (by omega)
          simp only [List.take_succ_cons, List.take_zero, List.drop_succ_cons, List.drop_zero, putAll, Act.put, List.setIfInBounds_toArray, List.set_cons_zero, List.set_cons_succ, Nat.reduceAdd]
          rw [q8]
          clear hV q8
          generalize vals 0 = x0
          generalize vals 1 = x1
          generalize vals 2 = x2
          generalize vals 3 = x3
          generalize vals 4 = x4
          generalize vals 5 = x5
          generalize vals 6 = x6
          generalize vals 7 = x7
          have HB8 := Lib.hid (HBel.out.trans (hG.mono HBel.out.size))
          clear hG
          by_cases hxy : x = y
          · have hz : Z = false := by rw [← HZ.out, hxy]; simp
            subst hz
            have HN := Lib.hid (show L.take (j + 1) = R.take (j + 1) by rw [List.take_add_one, List.take_add_one, HP.out, HX.out, HY.out, hxy])
            clear hxy
            go_wp2_with fail
            go_roundw
            case rel => exact ⟨j + 1, by omega, by go_num, HN, HB8⟩
            case measure => simp [intOf]; omega
          · have hz : Z = true := by rw [← HZ.out]; simpa using hxy
            have HFa := Lib.hid (show decide (L = R) = false by
              rw [decide_eq_false_iff_not]
              intro e
              have h1 := HX.out
              rw [e, HY.out] at h1
              exact hxy (Option.some.inj h1).symm)
            subst hz
            clear hxy
            go_wp2_with fail
            go_ret
            rw [HFa.out]
            exact ⟨rfl, HB8.out⟩
      · have HFa := Lib.hid (show decide (L = R) = true by
          rw [decide_eq_true_iff]
          have h := HP.out
          rw [List.take_of_length_le (by rw [H1.out]; omega), List.take_of_length_le (by rw [H2.out]; omega)] at h
          exact h)
        go_wp2_with fail
        go_ret
        rw [HFa.out]
        exact ⟨rfl, HBel.out⟩
  · have HFa := Lib.hid (show decide (L = R) = false by
      rw [decide_eq_false_iff_not]
      intro e
      rw [e, H2.out] at H1
      exact hl H1.out.symm)
    have hl2 : ¬ ((la : Int) = (lb : Int)) := by omega
    go_enter Tryd.func18, Tryd.ntmps18
    go_wp2_with fail
    go_ret
    rw [HFa.out]
    exact ⟨rfl, Below.refl _ _⟩

/-- The value reads as these votes. -/
def VRow (w : World) (v : Value) (L : List (Nat × Int × List UInt8)) : Prop := Vots L ∧ ∃ ao cap b off, v = .slice ao L.length cap ∧ Lies w w.heap.size ao b off (vv L)
theorem VRow.keep {w w' : World} {v : Value} {L : List (Nat × Int × List UInt8)} (h : VRow w v L) (hb : Below w.heap.size w w') : VRow w' v L := by
  obtain ⟨hv, ao, cap, b, off, rfl, hl⟩ := h
  exact ⟨hv, ao, cap, b, off, rfl, hl.below hb⟩
theorem Wide.vrow {w : World} {base : Nat} {v : Value} {L : List (Nat × Int × List UInt8)} (h : Wide 34 w base v (vv L)) (hv : Vots L) : VRow w v L := by
  obtain ⟨ao, n, cap, b, off, rfl, hn, hl⟩ := h.lies
  rw [vv_length L hv] at hn
  obtain rfl : L.length = n := by omega
  exact ⟨hv, ao, cap, b, off, rfl, hl⟩
theorem vsame_row {w : World} {v u : Value} {L R : List (Nat × Int × List UInt8)} (h1 : VRow w v L) (h2 : VRow w u R) (hn : L.length ≤ 100000) :
    Calls Tryd.prog 18 #[v, u] w fun e w' => e = .returned (.bool (decide (L = R))) ∧ Below w.heap.size w w' := by
  obtain ⟨hv1, ao, cap, b, off, rfl, hl⟩ := h1
  obtain ⟨hv2, ao2, cap2, b2, off2, rfl, hl2⟩ := h2
  exact vsame_any w ao ao2 _ cap b off _ cap2 b2 off2 L R hv1 hv2 rfl rfl hl hl2 hn
end Go.Proofs.YtnbdpalbompjlaaDoor
