/-
  The texts Vote, VSame, RefTag, one behind the other.
-/
import Derived.Test.YtnbdpalbompjlaaDoorM7
import Derived.Test.YtnbdpalbompjlaaDoorWSame
import Derived.Laws.StructEq
import Derived.Test.YtnbdpalbompjlaaDoorM3
import Derived.Test.YtnbdpalbompjlaaDoorM10
import Derived.Test.YtnbdpalbompjlaaDoorInfo8
import Derived.Test.YtnbdpalbompjlaaDoorRefOf
import Derived.Deep.DeepCutAuto
/-
  Votes as cells: written out, in memory, held against each other.
-/
namespace Go.Proofs.YtnbdpalbompjlaaDoor
open Go.RowKit
set_option maxRecDepth 10000

/-- A vote's cells: who, slot, target. -/
def vcell (x : Nat × Int × List UInt8) : List Value := .int .i64 (x.1 : Int) :: .int .i64 x.2.1 :: bv x.2.2
def vv (l : List (Nat × Int × List UInt8)) : List Value := l.flatMap vcell
/-- Their targets are as long as they are. -/
def Vots (l : List (Nat × Int × List UInt8)) : Prop := ∀ x ∈ l, x.2.2.length = 32
theorem vcell_length {x : Nat × Int × List UInt8} (h : x.2.2.length = 32) : (vcell x).length = 34 := by simp [vcell, bv_length, h]
theorem vv_append (a b : List (Nat × Int × List UInt8)) : vv (a ++ b) = vv a ++ vv b := by simp [vv]
theorem vv_sole (x : Nat × Int × List UInt8) : vv [x] = vcell x := by simp [vv]
theorem vcell_one (x : Nat × Int × List UInt8) : ∀ v ∈ vcell x, v.oneCell' = true := by
  intro v hv
  simp only [vcell, List.mem_cons] at hv
  rcases hv with rfl | rfl | h
  · rfl
  · rfl
  · exact bv_one _ v h
theorem vv_one (l : List (Nat × Int × List UInt8)) : ∀ v ∈ vv l, v.oneCell' = true := by
  intro v hv
  rw [vv, List.mem_flatMap] at hv
  obtain ⟨x, _, h⟩ := hv
  exact vcell_one x v h
theorem vv_length : ∀ (l : List (Nat × Int × List UInt8)), Vots l → (vv l).length = l.length * 34
  | [], _ => rfl
  | x :: l, h => by
    have h1 := vv_length l (fun y hy => h y (List.mem_cons_of_mem _ hy))
    have h2 := vcell_length (h x List.mem_cons_self)
    rw [vv, List.flatMap_cons, List.length_append, h2, ← vv, h1, List.length_cons]
    omega
theorem vv_at : ∀ (l : List (Nat × Int × List UInt8)) (i j : Nat) (x : Nat × Int × List UInt8), Vots l → l[i]? = some x → j < 34 → (vv l)[i * 34 + j]? = (vcell x)[j]?
  | [], i, j, x, _, h, _ => by simp at h
  | y :: l, 0, j, x, hT, h, hj => by
    simp at h
    subst h
    rw [vv, List.flatMap_cons, Nat.zero_mul, Nat.zero_add, List.getElem?_append_left (by rw [vcell_length (hT y List.mem_cons_self)]; exact hj)]
  | y :: l, i + 1, j, x, hT, h, hj => by
    have hx := vcell_length (hT y List.mem_cons_self)
    rw [vv, List.flatMap_cons, List.getElem?_append_right (by rw [hx]; omega), hx, show (i + 1) * 34 + j - 34 = i * 34 + j by omega, ← vv]
    exact vv_at l i j x (fun z hz => hT z (List.mem_cons_of_mem _ hz)) (by simpa using h) hj
theorem Lies.vote {w : World} {B b off : Nat} {ao : Option Addr} {l : List (Nat × Int × List UInt8)} (h : Lies w B ao b off (vv l)) (hT : Vots l) {i : Nat} {x : Nat × Int × List UInt8} (hi : l[i]? = some x) : ∀ j v, (vcell x)[j]? = some v → w.cell? ⟨b, off + i * 34 + j, none⟩ = some v := fun j v hj => by
  have hjl : j < 34 := by
    have := (List.getElem?_eq_some_iff.1 hj).1
    rwa [vcell_length (hT x (List.mem_of_getElem? hi))] at this
  rw [Nat.add_assoc]
  exact h.cells _ v ((vv_at l i j x hT hi hjl).trans hj)
theorem vcell_inj {x y : Nat × Int × List UInt8} (h : vcell x = vcell y) : x = y := by
  obtain ⟨a, s, T⟩ := x
  obtain ⟨b, t, U⟩ := y
  simp only [vcell, List.cons.injEq, Value.int.injEq, true_and] at h
  obtain ⟨h1, h2, h3⟩ := h
  have h3 : T = U := by
    have := congrArg List.length h3
    rw [bv_length, bv_length] at this
    apply List.ext_getElem? 
    intro i
    have hi := congrArg (fun l => l[i]?) h3
    simp only [bv, List.getElem?_map] at hi
    cases ht : T[i]? with
    | none =>
      cases hu : U[i]? with
      | none => rfl
      | some c => rw [ht, hu] at hi; simp at hi
    | some c =>
      cases hu : U[i]? with
      | none => rw [ht, hu] at hi; simp at hi
      | some d =>
        rw [ht, hu] at hi
        simp at hi
        exact congrArg some (UInt8.toNat_inj.1 (by omega))
  have h1 : a = b := by omega
  rw [h1, h2, h3]

def vplace : Array (Nat × Nat) := #[(0, 1), (1, 1), (2, 32)]
def vzero : List Value := vcell (0, 0, List.replicate 32 0)
theorem vote_parts0 : Tryd.prog.built 51 = fun parts => Go.Instr.fill (fun x => vplace[x]?) vzero.toArray parts := by kernel_rfl
/-- 'api.Vote{Validator: i, Slot: s, Target: T}' -/
theorem built_avote (i : Nat) (s : Int) (T : List UInt8) (hT : T.length = 32) : Tryd.prog.built 51 [(0, .int .i64 (i : Int)), (1, .int .i64 s), (2, .agg (bv T).toArray)] = some (vcell (i, s, T)).toArray := by
  rw [vote_parts0]
  have e1 := fill_step (place := fun x => vplace[x]?) (z := vzero) (j := 0) (off := 0) (size := 1) (v := .int .i64 (i : Int)) (rest := [(1, .int .i64 s), (2, .agg (bv T).toArray)]) rfl rfl (by decide)
  have e2 := fill_step (place := fun x => vplace[x]?) (z := vcell (i, 0, List.replicate 32 0)) (j := 1) (off := 1) (size := 1) (v := .int .i64 s) (rest := [(2, .agg (bv T).toArray)]) rfl rfl (by simp [vcell, bv_length])
  have e3 := fill_step (place := fun x => vplace[x]?) (z := vcell (i, s, List.replicate 32 0)) (j := 2) (off := 2) (size := 32) (v := .agg (bv T).toArray) (rest := []) rfl (by simp [Value.cells, bv_length, hT]) (by simp [vcell, bv_length])
  have s3 : splice (vcell (i, s, List.replicate 32 0)) 2 (Value.agg (bv T).toArray).cells.toList = vcell (i, s, T) := by
    rw [show (Value.agg (bv T).toArray).cells.toList = bv T by simp [Value.cells]]
    simp only [splice, bv_length, hT]
    rw [List.drop_of_length_le (by simp [vcell, bv_length]), List.append_nil]
    rfl
  rw [s3] at e3
  exact e1.trans (e2.trans e3)

theorem Tryd.sizeVote : (Tryd.prog.info? 51).map (·.size) = some 34 := by kernel_rfl
theorem Tryd.infoVote : (Tryd.prog.info? 51).map (fun i => (i.zero, i.size, i.bytes)) = some (some (.agg vzero.toArray), 34, 48) := by kernel_rfl
theorem vote_size {x : Nat × Int × List UInt8} (h : x.2.2.length = 32) : (Tryd.prog.info? 51).map (·.size) = some (vcell x).length := by rw [vcell_length h]; exact Tryd.sizeVote
theorem Tryd.aggVote (w : World) : (isAgg 51).run Tryd.prog w = .ok true w := by
  unfold isAgg
  rw [Sem.run_bind, run_underlying Tryd.underlying51 w]
  rfl

theorem Tryd.fieldsVote : Tryd.prog.underlying 51 = some (.struct (Tryd.prog.fieldsOf 51)) := by kernel_rfl
theorem Tryd.heldVote : Tryd.prog.stoodInHeld 51 = false := by kernel_rfl
theorem vpart_cells (x : Nat × Int × List UInt8) (hx : x.2.2.length = 32) (w : World) : (part 26 (vcell x).toArray 2).run Tryd.prog w = .ok (.agg (bv x.2.2).toArray) w := by
  have ha : (isAgg 26).run Tryd.prog w = .ok true w := by
    unfold isAgg
    rw [Sem.run_bind, run_underlying Tryd.underlying26 w]
    rfl
  have hs : (sizeOf 26).run Tryd.prog w = .ok 32 w := by
    have hz := Tryd.sizeRootB
    cases hq : Tryd.prog.info? 26 with
    | none => rw [hq] at hz; cases hz
    | some i => rw [hq] at hz; simp at hz; simp [sizeOf, typeInfo, hq, hz]
  simp only [part, Sem.run_bind, ha, Result.andThen_ok, if_true, hs]
  have hb : (bv x.2.2).length = 32 := by rw [bv_length, hx]
  simp [vcell, List.take_of_length_le (Nat.le_of_eq hb)]

/-- Two votes held against each other. -/
theorem vote_eq (w : World) (x y : Nat × Int × List UInt8) (hx : x.2.2.length = 32) (hy : y.2.2.length = 32) :
    (Op.equalIn 10000 51 (.agg (vcell x).toArray) (.agg (vcell y).toArray)).run Tryd.prog w = .ok (x == y) w := by
  rw [run_equalIn_struct w 9999 51 _ _ Tryd.fieldsVote Tryd.heldVote]
  have p1 : ∀ z : Nat × Int × List UInt8, (part 3 (vcell z).toArray 0).run Tryd.prog w = .ok (.int .i64 (z.1 : Int)) w := fun z => by
    simp [part, isAgg, run_underlying Tryd.underlying3, vcell]
  have p2 : ∀ z : Nat × Int × List UInt8, (part 3 (vcell z).toArray 1).run Tryd.prog w = .ok (.int .i64 z.2.1) w := fun z => by
    simp [part, isAgg, run_underlying Tryd.underlying3, vcell]
  have e1 : (Op.equalIn 9999 3 (.int .i64 (x.1 : Int)) (.int .i64 (y.1 : Int))).run Tryd.prog w = .ok ((x.1 : Int) == (y.1 : Int)) w := run_equalIn_int (P := Tryd.prog) w 9998 3 .i64 .i64 (x.1 : Int) (y.1 : Int) Tryd.underlying3
  have e2 : (Op.equalIn 9999 3 (.int .i64 x.2.1) (.int .i64 y.2.1)).run Tryd.prog w = .ok (x.2.1 == y.2.1) w := run_equalIn_int (P := Tryd.prog) w 9998 3 .i64 .i64 x.2.1 y.2.1 Tryd.underlying3
  have e3 : (Op.equalIn 9999 26 (.agg (bv x.2.2).toArray) (.agg (bv y.2.2).toArray)).run Tryd.prog w = .ok (x.2.2 == y.2.2) w := run_equalIn_bytes (P := Tryd.prog) w 9997 26 5 32 Tryd.underlying26 Tryd.underlying5 sizeU8 x.2.2 y.2.2 hx hy
  simp only [Program.fieldsOf, Tryd.underlying51, Op.eqFields]
  rw [if_pos (by decide), if_pos (by decide), if_pos (by decide)]
  have hxy : (x == y) = (((x.1 : Int) == (y.1 : Int)) && (x.2.1 == y.2.1) && (x.2.2 == y.2.2)) := by
    obtain ⟨a, s, T⟩ := x
    obtain ⟨b, t, U⟩ := y
    rw [Bool.eq_iff_iff]
    simp only [beq_iff_eq, Bool.and_eq_true, Prod.mk.injEq]
    constructor
    · rintro ⟨rfl, rfl, rfl⟩; exact ⟨⟨rfl, rfl⟩, rfl⟩
    · rintro ⟨⟨h1, h2⟩, h3⟩; exact ⟨by omega, h2, h3⟩
  rw [hxy]
  simp only [Sem.run_bind, p1, e1, Result.andThen_ok]
  cases h1 : ((x.1 : Int) == (y.1 : Int)) with
  | false => simp
  | true =>
    simp only [Bool.not_true, Bool.false_eq_true, if_false, Sem.run_bind, p2, e2, Result.andThen_ok, Bool.true_and]
    cases h2 : (x.2.1 == y.2.1) with
    | false => simp
    | true =>
      simp only [Bool.not_true, Bool.false_eq_true, if_false, Sem.run_bind, vpart_cells x hx, vpart_cells y hy, e3, Result.andThen_ok, Bool.true_and]
      cases h3 : (x.2.2 == y.2.2) <;> simp

/-- A vote out of memory, in a region whose operations come in any order. -/
theorem stepAt_load_vote {ops : Array Oper} {o : Oper} {a : Act} {w : World} {R : Value → World → Prop} {d : Tmp} (hd : o.dst = some d) (hw : Region.wanted o (yielded ops a.tmps) = true) (hz : decide (d < a.tmps.size) = true) (y : Operand) (ho : o.op = .load 51 y)
    (g off : Nat) (x : Nat × Int × List UInt8) (hx : a.eval y = .pointer (some ⟨g, off, none⟩)) (hl : x.2.2.length = 32) (hc : ∀ j v, (vcell x)[j]? = some v → w.cell? ⟨g, off + j, none⟩ = some v) (h : R (.agg (vcell x).toArray) w) : stepAt Tryd.prog ops o a w R := by
  refine stepAt_value hd hw hz _ w ?_ h
  unfold execOp
  simp only [ho, hx, Sem.run_bind, run_loadAt_agg hc 51 Tryd.aggVote (vote_size hl), Result.andThen_ok]
  rfl
theorem wpList_load_vote {ops : Array Oper} {rest : List Oper} {o : Oper} {a : Act} {w : World} {Q : Exit → Act → World → Prop} (y : Operand) (ho : o.op = .load 51 y) (hgd : Region.wanted o (yielded ops a.tmps) = true)
    (g off : Nat) (x : Nat × Int × List UInt8) (hx : a.eval y = .pointer (some ⟨g, off, none⟩)) (hl : x.2.2.length = 32) (hc : ∀ j v, (vcell x)[j]? = some v → w.cell? ⟨g, off + j, none⟩ = some v)
    (h : wpList Tryd.prog ops Q rest (a.put o.dst (.agg (vcell x).toArray)) w) : wpList Tryd.prog ops Q (o :: rest) a w := by
  refine wpList_step fun K hK => ?_
  rw [if_pos hgd]
  unfold Oper.wp execOp
  simp only [ho, hx, Sem.run_bind, run_loadAt_agg hc 51 Tryd.aggVote (vote_size hl), Result.andThen_ok]
  exact hK _ _ h

theorem Tryd.eqGuardVote : Tryd.prog.eqGuardType Tryd.prog.depth 51 = false := by kernel_rfl
theorem run_neq_vote (w : World) (xo yo : Operand) (x y : Nat × Int × List UInt8) (hx : x.2.2.length = 32) (hy : y.2.2.length = 32) :
    (do eqGuard .neq 51 xo yo (.agg (vcell x).toArray) (.agg (vcell y).toArray); binOp .neq 51 (.agg (vcell x).toArray) (.agg (vcell y).toArray)).run Tryd.prog w = .ok (.bool (!(x == y))) w := by
  simp only [Sem.run_bind, run_eqGuard_agg w .neq 51 xo yo _ _ Tryd.eqGuardVote, Result.andThen_ok, run_neq_struct, vote_eq w x y hx hy]
theorem stepAt_neq_vote {ops : Array Oper} {o : Oper} {a : Act} {w : World} {R : Value → World → Prop} {d : Tmp} (hd : o.dst = some d) (hw : Region.wanted o (yielded ops a.tmps) = true) (hz : decide (d < a.tmps.size) = true) (xo yo : Operand) (ty : TypeId) (ho : o.op = .binOp .neq 51 xo yo ty)
    (x y : Nat × Int × List UInt8) (ex : a.eval xo = .agg (vcell x).toArray) (ey : a.eval yo = .agg (vcell y).toArray) (hx : x.2.2.length = 32) (hy : y.2.2.length = 32) (h : R (.bool (!(x == y))) w) : stepAt Tryd.prog ops o a w R := by
  refine stepAt_value hd hw hz _ w ?_ h
  have hr := run_neq_vote w xo yo x y hx hy
  unfold execOp
  simp only [ho, ex, ey]
  rw [Sem.run_bind, hr]
  rfl
theorem wpList_neq_vote {ops : Array Oper} {rest : List Oper} {o : Oper} {a : Act} {w : World} {Q : Exit → Act → World → Prop} (xo yo : Operand) (ty : TypeId) (ho : o.op = .binOp .neq 51 xo yo ty) (hgd : Region.wanted o (yielded ops a.tmps) = true)
    (x y : Nat × Int × List UInt8) (ex : a.eval xo = .agg (vcell x).toArray) (ey : a.eval yo = .agg (vcell y).toArray) (hx : x.2.2.length = 32) (hy : y.2.2.length = 32)
    (h : wpList Tryd.prog ops Q rest (a.put o.dst (.bool (!(x == y)))) w) : wpList Tryd.prog ops Q (o :: rest) a w := by
  refine wpList_step fun K hK => ?_
  rw [if_pos hgd]
  have hr := run_neq_vote w xo yo x y hx hy
  unfold Oper.wp execOp
  simp only [ho, ex, ey]
  rw [Sem.run_bind, hr]
  exact hK _ _ h
end Go.Proofs.YtnbdpalbompjlaaDoor

/-
  What the reference's Same answers of two rows of votes.
-/
namespace Go.Proofs.YtnbdpalbompjlaaDoor
open Go.RowKit
set_option maxRecDepth 100000

set_option maxHeartbeats 4000000 in
theorem vsame_any (w : World) (ao ao2 : Option Addr) (la ca b off lb cb b2 off2 : Nat) (L R : List (Nat × Int × List UInt8)) (hv1 : Vots L) (hv2 : Vots R) (h1 : L.length = la) (h2 : R.length = lb) (hs1 : Lies w w.heap.size ao b off (vv L)) (hs2 : Lies w w.heap.size ao2 b2 off2 (vv R)) (hn : la ≤ 100000) :
    Calls Tryd.prog 18 #[.slice ao la ca, .slice ao2 lb cb] w fun e w' => e = .returned (.bool (decide (L = R))) ∧ Below w.heap.size w w' := by
  have H1 := Lib.hid h1
  have H2 := Lib.hid h2
  have HS1 := Lib.hid hs1
  have HS2 := Lib.hid hs2
  have HV1 := Lib.hid hv1
  have HV2 := Lib.hid hv2
  clear h1 h2 hs1 hs2 hv1 hv2
  by_cases hl : la = lb
  · subst hl
    go_enter Tryd.func18, Tryd.ntmps18
    go_wp2_with fail
    go_loopw [13] (fun i wr => ∃ (j : Nat), j ≤ la ∧ i = .int .i64 j ∧ Hid (L.take j = R.take j) ∧ Hid (Below w.heap.size w wr)) (fun i _ => la - (intOf i).toNat)
    case atStart => exact ⟨0, Nat.zero_le _, rfl, Lib.hid rfl, Lib.hid (Below.refl _ _)⟩
    case round =>
      obtain ⟨j, hj, rfl, HP, HBel⟩ := hrel
      by_cases hlt : j < la
      · obtain ⟨x, hx⟩ : ∃ x, L[j]? = some x := ⟨_, List.getElem?_eq_getElem (by rw [H1.out]; exact hlt)⟩
        obtain ⟨y, hy⟩ : ∃ y, R[j]? = some y := ⟨_, List.getElem?_eq_getElem (by rw [H2.out]; exact hlt)⟩
        have ha := HS1.out.addr (by rw [vv_length L HV1.out, H1.out]; omega)
        have ha2 := HS2.out.addr (by rw [vv_length R HV2.out, H2.out]; omega)
        subst ha
        subst ha2
        have HX := Lib.hid hx
        have HY := Lib.hid hy
        have HXl := Lib.hid (HV1.out x (List.mem_of_getElem? hx))
        have HYl := Lib.hid (HV2.out y (List.mem_of_getElem? hy))
        obtain ⟨Z, hZ⟩ : ∃ Z, Z = !(x == y) := ⟨_, rfl⟩
        have HZ := Lib.hid hZ.symm
        clear hx hy hZ
        go_upto_region 6 with fail
        refine wp_region_free (P := Tryd.prog) 9 (fun w' => Below wr.heap.size wr w') (fun oq v w' => match oq with
            | 0 => v = .slice (some ⟨b, off, none⟩) la ca
            | 1 => v = .int .i64 (j : Int)
            | 2 => v = .pointer (some ⟨b, off + j * 34, none⟩)
            | 3 => v = .agg (vcell x).toArray
            | 4 => v = .slice (some ⟨b2, off2, none⟩) la cb
            | 5 => v = .int .i64 (j : Int)
            | 6 => v = .pointer (some ⟨b2, off2 + j * 34, none⟩)
            | 7 => v = .agg (vcell y).toArray
            | 8 => v = .bool Z
            | _ => True) (by kernel_rfl) (by kernel_rfl) (Below.refl _ _).drew ?gb ?vb ?steps ?fin
        case gb => exact fun a b h1 h2 => h1.trans (h2.mono h1.size)
        case vb =>
          intro oq v a b h hb
          match oq with
          | 0 => exact h
          | 1 => exact h
          | 2 => exact h
          | 3 => exact h
          | 4 => exact h
          | 5 => exact h
          | 6 => exact h
          | 7 => exact h
          | 8 => exact h
          | _ + 9 => trivial
        case steps =>
          intro vals
          simp only [List.take_succ_cons, List.take_zero, freeSteps, Act.put, List.setIfInBounds_toArray, List.set_cons_zero, List.set_cons_succ, Nat.reduceAdd]
          refine ⟨fun w8 hG hW => ?_, fun w8 hG hW => ?_, fun w8 hG hW => ?_, fun w8 hG hW => ?_, fun w8 hG hW => ?_, fun w8 hG hW => ?_, fun w8 hG hW => ?_, fun w8 hG hW => ?_, fun w8 hG hW => ?_, trivial⟩
          · clear hW
            refine stepAt_value rfl rfl rfl (.slice (some ⟨b, off, none⟩) la ca) w8 ?_ ⟨rfl, Below.refl _ _⟩
            go_simp
          · clear hW
            refine stepAt_value rfl rfl rfl (.int .i64 (j : Int)) w8 ?_ ⟨rfl, Below.refl _ _⟩
            go_simp
          · have q0 := hW 0 (by decide)
            simp only at q0
            have q1 := hW 1 (by decide)
            simp only at q1
            rw [q0, q1]
            clear hW
            refine stepAt_value rfl rfl rfl (.pointer (some ⟨b, off + j * 34, none⟩)) w8 ?_ ⟨rfl, Below.refl _ _⟩
            go_simp
          · have q2 := hW 2 (by decide)
            simp only at q2
            rw [q2]
            clear hW
            exact stepAt_load_vote rfl rfl rfl (.tmp 18) rfl b (off + j * 34) x rfl HXl.out (fun i v hi => ((HS1.out.keep (HBel.out.trans (hG.mono HBel.out.size))).vote HV1.out HX.out i v hi)) ⟨rfl, Below.refl _ _⟩
          · clear hW
            refine stepAt_value rfl rfl rfl (.slice (some ⟨b2, off2, none⟩) la cb) w8 ?_ ⟨rfl, Below.refl _ _⟩
            go_simp
          · clear hW
            refine stepAt_value rfl rfl rfl (.int .i64 (j : Int)) w8 ?_ ⟨rfl, Below.refl _ _⟩
            go_simp
          · have q4 := hW 4 (by decide)
            simp only at q4
            have q5 := hW 5 (by decide)
            simp only at q5
            rw [q4, q5]
            clear hW
            refine stepAt_value rfl rfl rfl (.pointer (some ⟨b2, off2 + j * 34, none⟩)) w8 ?_ ⟨rfl, Below.refl _ _⟩
            go_simp
          · have q6 := hW 6 (by decide)
            simp only at q6
            rw [q6]
            clear hW
            exact stepAt_load_vote rfl rfl rfl (.tmp 22) rfl b2 (off2 + j * 34) y rfl HYl.out (fun i v hi => ((HS2.out.keep (HBel.out.trans (hG.mono HBel.out.size))).vote HV2.out HY.out i v hi)) ⟨rfl, Below.refl _ _⟩
          · have q3 := hW 3 (by decide)
            simp only at q3
            have q7 := hW 7 (by decide)
            simp only at q7
            rw [q3, q7]
            clear hW
            exact stepAt_neq_vote rfl rfl rfl (.tmp 19) (.tmp 23) _ rfl x y rfl rfl HXl.out HYl.out ⟨congrArg Value.bool HZ.out, Below.refl _ _⟩
        case fin =>
          intro vals w8 hG hV
          have q8 : vals 8 = .bool Z := hV 8 (by omega)
          simp only [List.take_succ_cons, List.take_zero, List.drop_succ_cons, List.drop_zero, putAll, Act.put, List.setIfInBounds_toArray, List.set_cons_zero, List.set_cons_succ, Nat.reduceAdd]
          rw [q8]
          clear hV q8
          generalize vals 0 = x0
          generalize vals 1 = x1
          generalize vals 2 = x2
          generalize vals 3 = x3
          generalize vals 4 = x4
          generalize vals 5 = x5
          generalize vals 6 = x6
          generalize vals 7 = x7
          have HB8 := Lib.hid (HBel.out.trans (hG.mono HBel.out.size))
          clear hG
          by_cases hxy : x = y
          · have hz : Z = false := by rw [← HZ.out, hxy]; simp
            subst hz
            have HN := Lib.hid (show L.take (j + 1) = R.take (j + 1) by rw [List.take_add_one, List.take_add_one, HP.out, HX.out, HY.out, hxy])
            clear hxy
            go_wp2_with fail
            go_roundw
            case rel => exact ⟨j + 1, by omega, by go_num, HN, HB8⟩
            case measure => simp [intOf]; omega
          · have hz : Z = true := by rw [← HZ.out]; simpa using hxy
            have HFa := Lib.hid (show decide (L = R) = false by
              rw [decide_eq_false_iff_not]
              intro e
              have h1 := HX.out
              rw [e, HY.out] at h1
              exact hxy (Option.some.inj h1).symm)
            subst hz
            clear hxy
            go_wp2_with fail
            go_ret
            rw [HFa.out]
            exact ⟨rfl, HB8.out⟩
      · have HFa := Lib.hid (show decide (L = R) = true by
          rw [decide_eq_true_iff]
          have h := HP.out
          rw [List.take_of_length_le (by rw [H1.out]; omega), List.take_of_length_le (by rw [H2.out]; omega)] at h
          exact h)
        go_wp2_with fail
        go_ret
        rw [HFa.out]
        exact ⟨rfl, HBel.out⟩
  · have HFa := Lib.hid (show decide (L = R) = false by
      rw [decide_eq_false_iff_not]
      intro e
      rw [e, H2.out] at H1
      exact hl H1.out.symm)
    have hl2 : ¬ ((la : Int) = (lb : Int)) := by omega
    go_enter Tryd.func18, Tryd.ntmps18
    go_wp2_with fail
    go_ret
    rw [HFa.out]
    exact ⟨rfl, Below.refl _ _⟩

/-- The value reads as these votes. -/
def VRow (w : World) (v : Value) (L : List (Nat × Int × List UInt8)) : Prop := Vots L ∧ ∃ ao cap b off, v = .slice ao L.length cap ∧ Lies w w.heap.size ao b off (vv L)
theorem VRow.keep {w w' : World} {v : Value} {L : List (Nat × Int × List UInt8)} (h : VRow w v L) (hb : Below w.heap.size w w') : VRow w' v L := by
  obtain ⟨hv, ao, cap, b, off, rfl, hl⟩ := h
  exact ⟨hv, ao, cap, b, off, rfl, hl.below hb⟩
theorem Wide.vrow {w : World} {base : Nat} {v : Value} {L : List (Nat × Int × List UInt8)} (h : Wide 34 w base v (vv L)) (hv : Vots L) : VRow w v L := by
  obtain ⟨ao, n, cap, b, off, rfl, hn, hl⟩ := h.lies
  rw [vv_length L hv] at hn
  obtain rfl : L.length = n := by omega
  exact ⟨hv, ao, cap, b, off, rfl, hl⟩
theorem vsame_row {w : World} {v u : Value} {L R : List (Nat × Int × List UInt8)} (h1 : VRow w v L) (h2 : VRow w u R) (hn : L.length ≤ 100000) :
    Calls Tryd.prog 18 #[v, u] w fun e w' => e = .returned (.bool (decide (L = R))) ∧ Below w.heap.size w w' := by
  obtain ⟨hv1, ao, cap, b, off, rfl, hl⟩ := h1
  obtain ⟨hv2, ao2, cap2, b2, off2, rfl, hl2⟩ := h2
  exact vsame_any w ao ao2 _ cap b off _ cap2 b2 off2 L R hv1 hv2 rfl rfl hl hl2 hn
end Go.Proofs.YtnbdpalbompjlaaDoor

/-
  What the reference's text and Of answer: the tag.
-/
namespace Go.Proofs.YtnbdpalbompjlaaDoor
open Go.RowKit
set_option maxRecDepth 10000


/-- A block of bytes, sliced, as append's source. -/
theorem Blk.src {P : Program} {w : World} {g : Nat} {t e tx : TypeId} {l : List UInt8} (h : Blk w g t (bv l)) (ht : P.underlying tx = some (.slice e)) : Src P 1 tx (.slice (some ⟨g, 0, none⟩) l.length l.length) l.length (bv l) w :=
  Src.ofSlice w ht ⟨g, 0, none⟩ _ _ (bv l) (by rw [bv_length, Nat.mul_one]) (fun j u hj => by rw [Addr.add_lit, Nat.zero_add, h.cell]; exact hj) (bv_one l)

set_option maxHeartbeats 1000000 in
theorem text_any (w : World) (D : List UInt8) (hD : D.length = 32) :
    Calls Tryd.prog 55 #[.agg (bv D).toArray] w fun e w' => e = .returned (.string ⟨D.toArray⟩) ∧ Below w.heap.size w w' := by
  obtain ⟨i0, hi, hz0, hz1, hz2⟩ := info_parts Tryd.info5
  obtain ⟨w1, hw1⟩ : ∃ w1, w1 = w.alloc (.cells (bv D).toArray 26) := ⟨_, rfl⟩
  have hb1 : Blk w1 w.heap.size 26 (bv D) := by rw [hw1]; exact Blk.new w 26 (bv D).toArray
  have hB1 : Below w.heap.size w w1 := by rw [hw1]; exact (Below.refl _ _).alloc (Nat.le_refl _) _
  have es : w1.heap.size = w.heap.size + 1 := by rw [hw1]; simp
  have HS := Lib.hid ((hb1.alloc (.cells #[] 5)).src (P := Tryd.prog) (tx := 86) Tryd.underlying86)
  rw [hD] at HS
  have HH := Lib.hid (held_empty w1 5 (w.heap.size + 1) (by omega))
  have HB1 := Lib.hid hB1
  have HD := Lib.hid hD
  have HW1 := Lib.hid hw1
  have HE := Lib.hid es
  clear hb1 hB1 hD hw1 es
  go_enter Tryd.func55, Tryd.ntmps55
  go_wp2_with (at_builtin; rw [← HW1.out]; refine wpList_append_held rfl _ _ 86 86 rfl rfl HH.out 5 i0 (.int .u8 0) 1 Tryd.underlying86 hi hz0 hz1 hz2 rfl _ rfl 32 (bv D) HS.out ?e2 ?e3 ?e4 ?_)
  case e2 => unfold maxLen; simp
  case e3 => simp
  case e4 => simp
  intro v2 w2 hh2 hg2
  have hb2 : Below w1.heap.size w1 w2 := ((Below.refl _ _).alloc (Nat.le_refl _) _).trans (hg2.below HH.out (by simp))
  have HB2 := Lib.hid (HB1.out.trans (hb2.mono HB1.out.size))
  have hcv := Held.string (P := Tryd.prog) (show Held w2 w1.heap.size v2 (bv D) by simpa using hh2) 86 9 5 Tryd.underlying86 Tryd.underlying5 Tryd.underlying9
  clear hh2 hg2 hb2 HH HS hi hz0 hz1 hz2
  go_wp2_with fail
  go_ret
  exact ⟨rfl, HB2.out⟩

/-- The reference's loops. -/
def PadRel (w : World) (k : List UInt8) (v : Value) (wr : World) : Prop :=
  ∃ i : Nat, k.length + i ≤ 64 ∧ v = .string ⟨(zeros k i).toArray⟩ ∧ Below w.heap.size w wr
def gapK (v : Value) : Nat := match v with
  | .string s => 64 - s.size
  | _ => 0
theorem fillK_zeros (k : List UInt8) (i : Nat) (h : (keyB k).length + i = 64) : zeros (keyB k) i = fillK k := by
  rw [zeros, fillK, show 64 - (keyB k).length = i by omega]

structure XorIn (w : World) (K : List UInt8) (wr : World) : Prop where
  res : Blk wr w.heap.size 30 (zb 16)
  hB : Below w.heap.size w wr
theorem XorIn.below {w : World} {K : List UInt8} {wr w' : World} (h : XorIn w K wr) (hb : Below wr.heap.size wr w') : XorIn w K w' :=
  ⟨h.res.below hb h.res.lt, h.hB.trans (hb.mono h.hB.size)⟩
theorem XorIn.alloc2 {w : World} {K : List UInt8} {wr : World} (h : XorIn w K wr) (o p : Obj) : XorIn w K ((wr.alloc o).alloc p) :=
  h.below (((Below.refl _ _).alloc (Nat.le_refl _) _).alloc (by simp) _)
theorem XorIn.step {w : World} {K : List UInt8} {wr : World} (h : XorIn w K wr) {o : Obj} {cs : Array Value} : XorIn w K ((wr.alloc o).setRow wr.heap.size cs) :=
  h.below (below_setRow ((Below.refl _ _).alloc (Nat.le_refl _) _) (Nat.le_refl _) _)
def XorRel (w : World) (K : List UInt8) (vi vo x : Value) (wr : World) : Prop :=
  ∃ i : Nat, x = .int .i64 (i : Int) ∧ i ≤ 64 ∧ vi = .string ⟨(mask 54 (K.take i)).toArray⟩ ∧ vo = .string ⟨(mask 92 (K.take i)).toArray⟩ ∧ XorIn w K wr
theorem mask_take (m : UInt8) (K : List UInt8) (i : Nat) (h : i < K.length) : mask m (K.take (i + 1)) = mask m (K.take i) ++ [K.getD i 0 ^^^ m] := by
  rw [List.take_add_one, getD_some K i (x := 0) h]; simp [mask]

def TagRel (w : World) (g8 g9 : Nat) (D : List UInt8) (x : Value) (wr : World) : Prop :=
  ∃ i : Nat, x = .int .i64 (i : Int) ∧ i ≤ 16 ∧ Blk wr g9 30 (bv (D.take i ++ List.replicate (16 - i) 0)) ∧ Blk wr g8 26 (bv D) ∧ XorIn w D wr

set_option maxRecDepth 100000 in
set_option maxHeartbeats 4000000 in
theorem refTag_any (w : World) (k s : List UInt8) (hk : k.length ≤ 500) (hs : s.length ≤ 500) :
    Calls Tryd.prog 38 #[.string ⟨k.toArray⟩, .string ⟨s.toArray⟩] w fun e w' => e = .returned (.agg (bv (tag k s)).toArray) ∧ Below w.heap.size w w' := by
  obtain ⟨SK, hSK⟩ : ∃ S : ByteArray, S = ⟨k.toArray⟩ := ⟨_, rfl⟩
  obtain ⟨SS, hSS⟩ : ∃ S : ByteArray, S = ⟨s.toArray⟩ := ⟨_, rfl⟩
  rw [← hSK, ← hSS]
  have zK : SK.size = k.length := by rw [hSK]; simp [ByteArray.size]
  have zS : SS.size = s.length := by rw [hSS]; simp [ByteArray.size]
  have hzA := (zero_of_info Tryd.zero30).1
  obtain ⟨w1, hw1⟩ : ∃ w1, w1 = w.alloc (.cells (zb 16).toArray 30) := ⟨_, rfl⟩
  have hx1 : XorIn w k w1 := by rw [hw1]; exact ⟨Blk.new w 30 (zb 16).toArray, (Below.refl _ _).alloc (Nat.le_refl _) _⟩
  have HX := Lib.hid hx1
  have HW1 := Lib.hid hw1
  have HSK := Lib.hid hSK
  have HSS := Lib.hid hSS
  clear hSK hSS hx1 hw1
  go_enter Tryd.func38, Tryd.ntmps38
  go_upto_if 13 with fail
  rw [← HW1.out]
  clear HW1
  go_cut [0] (fun v wr => v = .string ⟨(keyB k).toArray⟩ ∧ XorIn w k wr)
  case first =>
    by_cases h64 : (64 : Int) < (k.length : Int)
    · have h1 := refof_any w1 k (by omega)
      rw [← HSK.out] at h1
      have H1 := Lib.hid h1
      clear h1
      go_wp2_with fail
      refine H1.out.mono ?_
      rintro e w2 ⟨rfl, hb2⟩
      have HB2 := Lib.hid hb2
      clear hb2 H1
      go_wp2_with fail
      refine (text_any w2 (digest k) (digest_length _)).mono ?_
      rintro e w3 ⟨rfl, hb3⟩
      have HB3 := Lib.hid hb3
      clear hb3
      go_wp2_with fail
      go_meet
      have hk : 64 < k.length := by omega
      have hb := HB2.out.trans (HB3.out.mono HB2.out.size)
      exact ⟨by rw [keyB, if_pos hk], HX.out.res.below hb HX.out.res.lt, HX.out.hB.trans (hb.mono HX.out.hB.size)⟩
    · go_wp2_with fail
      go_meet
      exact ⟨by rw [keyB, if_neg (by omega), HSK.out], HX.out⟩
  case rest =>
  clear HX
  obtain ⟨rfl, hx⟩ := hcut
  have HX := Lib.hid hx
  clear hx
  obtain ⟨KB, hKB⟩ : ∃ K, K = keyB k := ⟨_, rfl⟩
  have hKl := keyB_le k
  rw [← hKB] at hKl ⊢
  go_wp2_with fail
  go_loopw [0] (fun v wr => PadRel wc KB v wr) (fun v _ => gapK v)
  case atStart => exact ⟨0, by omega, by simp [zeros], Below.refl _ _⟩
  case round =>
    obtain ⟨i, hi, rfl, hB⟩ := hrel
    obtain ⟨Z, hZ⟩ : ∃ Z : ByteArray, Z = ⟨(zeros KB i).toArray⟩ := ⟨_, rfl⟩
    rw [← hZ]
    obtain ⟨n, hn⟩ : ∃ n, n = KB.length + i := ⟨_, rfl⟩
    have zZ : Z.size = n := by rw [hZ, hn]; simp [ByteArray.size, zeros_length]
    by_cases hlt : n < 64
    · have d0 : (n : Int) < 64 := by omega
      have HN := Lib.hid (show Z ++ ⟨#[0]⟩ = ⟨(zeros KB (i + 1)).toArray⟩ by rw [hZ, ← zeros_succ]; apply ByteArray.ext; simp)
      have HB := Lib.hid hB
      have HZZ := Lib.hid hn
      clear hZ hB hn
      go_wp2_with fail
      have hn := HZZ.out
      refine ⟨⟨i + 1, by omega, by rw [HN.out], HB.out⟩, ?_⟩
      rw [HN.out]
      have zz : Z.data.size = n := zZ
      simp only [gapK, ByteArray.size, List.size_toArray, zeros_length]
      omega
    · have hK : zeros KB i = fillK k := by rw [hKB]; exact fillK_zeros k i (by rw [← hKB]; omega)
      have d0 : ¬ (n : Int) < 64 := by omega
      have en : n = 64 := by omega
      subst en
      rw [hK] at hZ
      obtain ⟨K, hKK⟩ : ∃ K, K = fillK k := ⟨_, rfl⟩
      have hKl : K.length = 64 := by rw [hKK]; exact fillK_length k
      rw [← hKK] at hZ hK
      have HKK := Lib.hid hKK
      have HZ := Lib.hid hZ
      have HX2 := Lib.hid (show XorIn w K wr from ⟨HX.out.res.below hB HX.out.res.lt, HX.out.hB.trans (hB.mono HX.out.hB.size)⟩)
      clear hKK hZ hB hn hK hi hlt HX hKB d0
      go_wp2_with fail
      go_loopw [5, 6, 7] (fun a b x wr => XorRel w K a b x wr) (fun _ _ x _ => 64 - intN x)
      case atStart => exact ⟨0, rfl, by omega, by simp [mask], by simp [mask], HX2.out⟩
      case round =>
        clear HX2
        obtain ⟨j, rfl, hj, rfl, rfl, hX⟩ := hrel
        obtain ⟨A, hA⟩ : ∃ A : ByteArray, A = ⟨(mask 54 (K.take j)).toArray⟩ := ⟨_, rfl⟩
        obtain ⟨B, hB⟩ : ∃ A : ByteArray, A = ⟨(mask 92 (K.take j)).toArray⟩ := ⟨_, rfl⟩
        rw [← hA, ← hB]
        have zA : A.size = j := by rw [hA]; simp [ByteArray.size, mask_length, hKl]; omega
        have zB : B.size = j := by rw [hB]; simp [ByteArray.size, mask_length, hKl]; omega
        have HX := Lib.hid hX
        by_cases hlt : j < 64
        · have d0 : (j : Int) < 64 := by omega
          have hjK : j < K.length := by omega
          obtain ⟨c, hc⟩ : ∃ c, c = K.getD j 0 := ⟨_, rfl⟩
          have hix : ∀ w', (Instr.index 9 (.string Z) (.int .i64 (j : Int))).run Tryd.prog w' = .ok (.int .u8 (c.toNat : Int)) w' := fun w' => index_text w' Z K j c HZ.out (by rw [hc]; exact getD_some K j hjK)
          have r1 := rule_xor8 c 54
          have r2 := rule_xor8 c 92
          have e1 : ((54 : UInt8).toNat : Int) = 54 := rfl
          have e2 : ((92 : UInt8).toNat : Int) = 92 := rfl
          rw [e1] at r1
          rw [e2] at r2
          clear e1 e2
          obtain ⟨x, hx⟩ : ∃ x, x = c ^^^ 54 := ⟨_, rfl⟩
          obtain ⟨y, hy⟩ : ∃ x, x = c ^^^ 92 := ⟨_, rfl⟩
          rw [← hx] at r1
          rw [← hy] at r2
          obtain ⟨C1, hC1⟩ : ∃ A : ByteArray, A = ⟨[x].toArray⟩ := ⟨_, rfl⟩
          obtain ⟨C2, hC2⟩ : ∃ A : ByteArray, A = ⟨[y].toArray⟩ := ⟨_, rfl⟩
          have v1 := conv_bytes (l := [x]) (Blk.new wr 5 (bv [x]).toArray)
          have v2 := conv_bytes (l := [y]) (Blk.new (wr.alloc (.cells #[.int .u8 (x.toNat : Int)] 5)) 5 (bv [y]).toArray)
          rw [← hC1] at v1
          rw [← hC2] at v2
          simp only [bv, List.map_cons, List.map_nil, List.length_cons, List.length_nil, Nat.reduceAdd, World.size_alloc] at v1 v2
          have z1 : C1.size = 1 := by rw [hC1]; rfl
          have z2 : C2.size = 1 := by rw [hC2]; rfl
          have HN1 := Lib.hid (show A ++ C1 = ⟨(mask 54 (K.take (j + 1))).toArray⟩ by rw [hA, hC1, mask_take 54 K j hjK, ← hc, ← hx]; apply ByteArray.ext; simp)
          have HN2 := Lib.hid (show B ++ C2 = ⟨(mask 92 (K.take (j + 1))).toArray⟩ by rw [hB, hC2, mask_take 92 K j hjK, ← hc, ← hy]; apply ByteArray.ext; simp)
          clear hA hB hX hc hx hy hC1 hC2
          go_wp2_with fail
          refine ⟨⟨j + 1, by simp, by omega, by rw [HN1.out], by rw [HN2.out], HX.out.alloc2 _ _⟩, ?_⟩
          simp only [intN]
          omega
        · have d0 : ¬ (j : Int) < 64 := by omega
          have ej : j = 64 := by omega
          subst ej
          rw [List.take_of_length_le (by omega)] at hA hB
          have zz1 : s.length ≤ 500 := hs
          have HAS := Lib.hid (show A ++ SS = ⟨(mask 54 K ++ s).toArray⟩ by rw [hA, HSS.out]; apply ByteArray.ext; simp)
          have HBB := Lib.hid hB
          clear hA hB hX d0 hlt
          go_wp2_with fail
          rw [HAS.out]
          refine (refof_any wr (mask 54 K ++ s) (by simp [mask_length, hKl]; omega)).mono ?_
          rintro e w2 ⟨rfl, hb2⟩
          have HX2 := Lib.hid (HX.out.below hb2)
          obtain ⟨D, hD⟩ : ∃ D, D = digest (mask 54 K ++ s) := ⟨_, rfl⟩
          have hDl : D.length = 32 := by rw [hD]; exact digest_length _
          rw [← hD]
          have HD := Lib.hid (show D = inner k s by rw [hD, inner, ← HKK.out])
          clear hb2 HX hD
          go_wp2_with fail
          refine (text_any w2 D hDl).mono ?_
          rintro e w3 ⟨rfl, hb3⟩
          have HX3 := Lib.hid (HX2.out.below hb3)
          obtain ⟨SD, hSD⟩ : ∃ A : ByteArray, A = ⟨D.toArray⟩ := ⟨_, rfl⟩
          rw [← hSD]
          have zD : SD.size = 32 := by rw [hSD]; simp [ByteArray.size, hDl]
          have HBS := Lib.hid (show B ++ SD = ⟨(mask 92 K ++ D).toArray⟩ by rw [HBB.out, hSD]; apply ByteArray.ext; simp)
          clear hb3 HX2 hSD
          go_wp2_with fail
          rw [HBS.out]
          refine (refof_any w3 (mask 92 K ++ D) (by simp [mask_length, hKl, hDl])).mono ?_
          rintro e w4 ⟨rfl, hb4⟩
          have hX4 := HX3.out.below hb4
          obtain ⟨D2, hD2⟩ : ∃ D2, D2 = digest (mask 92 K ++ D) := ⟨_, rfl⟩
          have hl2 : D2.length = 32 := by rw [hD2]; exact digest_length _
          rw [← hD2]
          have HD2 := Lib.hid (show D2 = outer k s by rw [hD2, outer, ← HKK.out, ← HD.out])
          have hlt4 := hX4.res.lt
          have hzR := (zero_of_info Tryd.zero26).1
          have hn4 := Blk.new w4 26 (zb 32).toArray
          have HN4 := Lib.hid hn4
          have hr4 := hn4.setRow (bv D2)
          have hX5 := hX4.step (o := .cells (zb 32).toArray 26) (cs := (bv D2).toArray)
          have HZ2 := Lib.hid (show (Tryd.prog.info? 26).map (·.size) = some (bv D2).length by rw [bv_length, hl2]; exact Tryd.size26)
          have HLL := Lib.hid (show 0 + (bv D2).length ≤ (zb 32).toArray.toList.length by rw [bv_length, hl2]; simp [zb_length])
          have HP := Lib.hid (splice_all (zb 32).toArray.toList (bv D2) (by rw [bv_length, hl2]; simp [zb_length]))
          have e5 : ((w4.alloc (.cells (zb 32).toArray 26)).setRow w4.heap.size (bv D2).toArray).heap.size = w4.heap.size + 1 := by rw [setRow_size']; simp
          have HR4 := Lib.hid hr4
          have HX5 := Lib.hid hX5
          have HE5 := Lib.hid e5
          clear hb4 hD2 hX4 hn4 hr4 hX5 HX3 e5
          go_wp2_with ((with_reducible refine wpList_store_part ?_ 26 (.tmp 8) (.tmp 49) ?_ w4.heap.size 0 (bv D2) ?_ ?_ 26 _ HN4.out HZ2.out HLL.out (bv_one _) ?_); rfl; rfl; rfl; rfl; rw [HP.out])
          generalize (w4.alloc (.cells (zb 32).toArray 26)).setRow w4.heap.size (bv D2).toArray = w5 at HR4 HX5 HE5 ⊢
          have h9 := Blk.new w5 30 (zb 16).toArray
          have h8 := HR4.out.alloc (.cells (zb 16).toArray 30)
          have hx := HX5.out.below ((Below.refl w5.heap.size w5).alloc (Nat.le_refl _) (.cells (zb 16).toArray 30))
          rw [HE5.out] at h9
          have HS := Lib.hid (show TagRel w w4.heap.size (w4.heap.size + 1) D2 (.int .i64 0) (w5.alloc (.cells (zb 16).toArray 30)) from ⟨0, rfl, by omega, h9, h8, hx.res, hx.hB⟩)
          clear h9 h8 hx HR4 HX5 HE5 HN4 HZ2 HLL HP
          go_loopw [10, 50] (fun _ x wr => TagRel w w4.heap.size (w4.heap.size + 1) D2 x wr) (fun _ x _ => 16 - intN x)
          case atStart => exact HS.out
          case round =>
            clear HS
            obtain ⟨i, rfl, hi, h9, h8, hX⟩ := hrel
            by_cases hlt : i < 16
            · have d0 : (i : Int) < 16 := by omega
              have d1 : (i : Int) < 32 := by omega
              have hiD : i < D2.length := by omega
              obtain ⟨c, hc⟩ : ∃ c, c = D2.getD i 0 := ⟨_, rfl⟩
              have q := (h8.cell i).trans (bv_some (x := c) (by rw [hc]; exact getD_some D2 i hiD))
              have hsome := (h9.cell i).trans (bv_some (l := D2.take i ++ List.replicate (16 - i) 0) (x := 0) (by rw [List.getElem?_append_right (by rw [List.length_take]; omega), List.length_take, Nat.min_eq_left (by omega), Nat.sub_self, List.getElem?_replicate, if_pos (by omega)]))
              have f := h9.free i
              have h9' := h9.set i (.int .u8 (c.toNat : Int))
              have hset : (D2.take i ++ List.replicate (16 - i) 0).set i c = D2.take (i + 1) ++ List.replicate (16 - (i + 1)) 0 := by
                rw [List.set_append_right _ _ (by rw [List.length_take]; omega), List.length_take, Nat.min_eq_left (by omega), Nat.sub_self, show 16 - i = 16 - (i + 1) + 1 by omega, List.replicate_succ, List.set_cons_zero, List.take_add_one, getD_some D2 i (x := 0) hiD, ← hc]
                simp
              rw [bv_set, hset] at h9'
              have h8' := h8.other ⟨w4.heap.size + 1, i, none⟩ (.int .u8 (c.toNat : Int)) (by simp)
              have hX' : XorIn w D2 (wr.setCell ⟨w4.heap.size + 1, i, none⟩ (.int .u8 (c.toNat : Int))) := ⟨hX.res.other _ _ (by simp; omega), hX.hB.setCell (p := ⟨w4.heap.size + 1, i, none⟩) (by simp; omega) _⟩
              have H' := Lib.hid (show TagRel w w4.heap.size (w4.heap.size + 1) D2 (.int .i64 ((i : Int) + 1)) (wr.setCell ⟨w4.heap.size + 1, i, none⟩ (.int .u8 (c.toNat : Int))) from ⟨i + 1, by simp, by omega, h9', h8', hX'⟩)
              clear h9 h8 hX h9' h8' hX' hc hset
              go_wp2_with fail
              refine ⟨H'.out, ?_⟩
              simp only [intN]
              omega
            · have ei : i = 16 := by omega
              subst ei
              have d0 : ¬ ((16 : Nat) : Int) < 16 := by omega
              simp only [Nat.sub_self, List.replicate_zero, List.append_nil] at h9
              obtain ⟨T, hT⟩ : ∃ T, T = D2.take 16 := ⟨_, rfl⟩
              rw [← hT] at h9
              have htk : T.length = 16 := by rw [hT, List.length_take]; omega
              have HTT := Lib.hid (show T = tag k s by rw [hT, tag, HD2.out])
              have HC := Lib.hid (Blk.cells h9)
              have HR := Lib.hid hX.res
              have HZT := Lib.hid (show (Tryd.prog.info? 30).map (·.size) = some (bv T).length by rw [bv_length, htk]; exact Tryd.size30)
              have HLL := Lib.hid (show 0 + (bv T).length ≤ (zb 16).length by rw [bv_length, htk, zb_length]; omega)
              have HP := Lib.hid (splice_all (zb 16) (bv T) (by rw [bv_length, htk, zb_length]))
              have HR2 := Lib.hid (hX.res.setRow (bv T))
              have HB2 := Lib.hid (below_setRow hX.hB (Nat.le_refl w.heap.size) (bv T).toArray)
              clear h9 h8 hX hT d0 hlt
              go_wp2_with (first
                | ((with_reducible refine wpList_load_cells ?_ 30 (.tmp 9) ?_ _ 0 _ ?_ 16 5 HC.out Tryd.underlying30 HZT.out ?_); rfl; rfl; rfl)
                | ((with_reducible refine wpList_store_part ?_ 30 (.tmp 4) (.tmp 59) ?_ w.heap.size 0 (bv T) ?_ ?_ 30 _ HR.out HZT.out HLL.out (bv_one _) ?_); rfl; rfl; rfl; rfl; rw [HP.out]))
              refine bodyPost_ret (v := .agg (bv T).toArray) ?_ rfl ⟨by rw [HTT.out], HB2.out⟩
              exact results_cell_row rfl _ _ w.heap.size 30 _ (0, 0) (.array 16 5) rfl HR2.out Tryd.underlying30 rfl (by rw [List.size_toArray]; exact HZT.out)
end Go.Proofs.YtnbdpalbompjlaaDoor
