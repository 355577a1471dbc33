/-
  What the document's Same (of rows, of messages) answers.
-/
import Derived.Test.YtnbdpalbompjlaaDoorM8
import Derived.Deep.QuietTactic
import Derived.BigQuiet
import Derived.Stop.BytesEq
import Derived.Deep.DeepCutAuto
namespace Go.Proofs.YtnbdpalbompjlaaDoor
open Go.RowKit
set_option maxRecDepth 10000

theorem below_dN {n : Nat} {w w' : World} (h : Below n w w') (k : Nat) : Below n w (w'.drewN k) := ⟨h.os, h.tape, h.output, h.size, h.block⟩

theorem take_same {l r : List Bool} {k : Nat} {x : Bool} (h : l.take k = r.take k) (h1 : l[k]? = some x) (h2 : r[k]? = some x) : l.take (k + 1) = r.take (k + 1) := by
  rw [List.take_add_one, List.take_add_one, h, h1, h2]

set_option maxHeartbeats 1000000 in
theorem brow_same (w : World) (u v : Value) (l r : List Bool) (hu : BRow w w.heap.size u l) (hv : BRow w w.heap.size v r) (hl : l.length ≤ 1000) :
    Calls Tryd.prog 42 #[u, v] w fun e w' => e = .returned (.bool (l == r)) ∧ Below w.heap.size w w' := by
  obtain ⟨ao, cap, b, off, rfl, _, _, hr⟩ := hu
  obtain ⟨ao2, cap2, b2, off2, rfl, _, _, hr2⟩ := hv
  obtain ⟨L, hL⟩ : ∃ L, L = l.length := ⟨_, rfl⟩
  obtain ⟨L2, hL2⟩ : ∃ L, L = r.length := ⟨_, rfl⟩
  rw [← hL] at hl
  rw [← hL, ← hL2]
  by_cases hne : L = L2
  · subst hne
    have HL := Lib.hid hL
    have HL2 := Lib.hid hL2
    have HR := Lib.hid hr
    have HR2 := Lib.hid hr2
    clear hL hL2 hr hr2
    go_enter Tryd.func42, Tryd.ntmps42
    go_wp2_with fail
    go_loopw [5, 13] (fun _ i wr => ∃ k : Nat, k ≤ L ∧ i = .int .i64 k ∧ Hid (l.take k = r.take k) ∧ Below w.heap.size w wr) (fun _ i _ => L - (intOf i).toNat)
    case atStart => exact ⟨0, Nat.zero_le _, rfl, Lib.hid rfl, Below.refl _ _⟩
    case round =>
      obtain ⟨k, hk, rfl, HT, hbel⟩ := hrel
      by_cases hlt : k < L
      · have hkl : k < l.length := by rw [← HL.out]; exact hlt
        have hkr : k < r.length := by rw [← HL2.out]; exact hlt
        obtain ⟨x, hx⟩ : ∃ x, l[k]? = some x := ⟨_, List.getElem?_eq_getElem hkl⟩
        obtain ⟨y, hy⟩ : ∃ y, r[k]? = some y := ⟨_, List.getElem?_eq_getElem hkr⟩
        obtain rfl := HR.out.addr (by omega)
        obtain rfl := HR2.out.addr (by omega)
        have hb1 := HR.out.lt (by omega)
        have hb2 := HR2.out.lt (by omega)
        have c1 := (hbel.cell (p := ⟨b, off + k, none⟩) hb1).trans (HR.out.cells k x hx)
        have c2 := (hbel.cell (p := ⟨b2, off2 + k, none⟩) hb2).trans (HR2.out.cells k y hy)
        have d0 : (0 : Int) ≤ (k : Int) := by omega
        have d1 : (k : Int) < (L : Int) := by omega
        by_cases hxy : x = y
        · subst hxy
          have HN := Lib.hid (take_same HT.out hx hy)
          clear hx hy hkl hkr
          go_wp2_with fail
          go_quiet (fail)
          go_wp2
          go_roundw
          case rel => exact ⟨k + 1, by omega, by go_num, HN, below_dN hbel _⟩
          case measure => simp [intOf]; omega
        · have HN := Lib.hid (show (l == r) = false by
            rw [beq_eq_false_iff_ne]
            intro e
            rw [e, hy] at hx
            exact hxy (Option.some.inj hx).symm)
          have dx : (x == y) = false := by simpa using hxy
          have dx2 : (x != y) = true := by simpa using hxy
          clear hx hy hkl hkr
          go_wp2_with fail
          go_quiet (fail)
          go_wp2
          go_ret
          exact ⟨by rw [HN.out]; rfl, below_dN hbel _⟩
      · have HN := Lib.hid (show (l == r) = true by
          rw [beq_iff_eq, ← List.take_of_length_le (l := l) (i := k) (by rw [← HL.out]; omega), HT.out, List.take_of_length_le (by rw [← HL2.out]; omega)])
        go_wp2
        go_ret
        exact ⟨by rw [HN.out]; rfl, hbel⟩
  · have HN := Lib.hid (show (l == r) = false by
      rw [beq_eq_false_iff_ne]
      intro e
      rw [e] at hL
      omega)
    have d1 : ¬ ((L : Int) = (L2 : Int)) := by omega
    rw [HN.out]
    clear hL hL2 hr hr2
    go_enter Tryd.func42, Tryd.ntmps42
    go_wp2
    go_ret
    exact ⟨rfl, Below.refl _ _⟩

/-- Two messages are the same. -/
def msgSame (M M' : Msg) : Bool := (M.k == M'.k) && ((M.s == M'.s) && ((M.T == M'.T) && ((M.m == M'.m) && ((((M.b : Int)) == (M'.b : Int)) && ((M.G == M'.G) && (M.l == M'.l))))))
theorem msgSame_iff (M M' : Msg) : msgSame M M' = true ↔ M = M' := by
  obtain ⟨k, s, T, m, b, l, G⟩ := M
  obtain ⟨k', s', T', m', b', l', G'⟩ := M'
  simp only [msgSame, Bool.and_eq_true, beq_iff_eq, Msg.mk.injEq]
  constructor
  · rintro ⟨h1, h2, h3, h4, h5, h6, h7⟩
    exact ⟨h1, h2, h3, h4, by omega, h7, h6⟩
  · rintro ⟨h1, h2, h3, h4, h5, h6, h7⟩
    exact ⟨h1, h2, h3, h4, by omega, h7, h6⟩

theorem sizeU8 (w : World) : (sizeOf 5).run Tryd.prog w = .ok 1 w := by
  have hz : (Tryd.prog.info? 5).map (·.size) = some 1 := by kernel_rfl
  cases hq : Tryd.prog.info? 5 with
  | none => rw [hq] at hz; cases hz
  | some i => rw [hq] at hz; simp at hz; simp [sizeOf, typeInfo, hq, hz]
theorem target_eq (w : World) (r s : List UInt8) (hr : r.length = 32) (hs : s.length = 32) : (Op.equalIn 10000 26 (.agg (bv r).toArray) (.agg (bv s).toArray)).run Tryd.prog w = .ok (r == s) w :=
  run_equalIn_bytes w 9998 26 5 32 Tryd.underlying26 Tryd.underlying5 sizeU8 r s hr hs
theorem tags_eq (w : World) (r s : List UInt8) (hr : r.length = 16) (hs : s.length = 16) : (Op.equalIn 10000 30 (.agg (bv r).toArray) (.agg (bv s).toArray)).run Tryd.prog w = .ok (r == s) w :=
  run_equalIn_bytes w 9998 30 5 16 Tryd.underlying30 Tryd.underlying5 sizeU8 r s hr hs
theorem Tryd.sizeRoot : (Tryd.prog.info? 26).map (·.size) = some 32 := by kernel_rfl
theorem Tryd.sizeTag : (Tryd.prog.info? 30).map (·.size) = some 16 := by kernel_rfl

/-- An array of bytes out of memory, at an operation that is wanted. -/
theorem wpList_load_bytesG {ops : Array Oper} {rest : List Oper} {o : Oper} {a : Act} {w : World} {Q : Exit → Act → World → Prop} (ty : TypeId) (x : Operand) (ho : o.op = .load ty x) (hgd : Region.wanted o (yielded ops a.tmps) = true)
    (g off : Nat) (l : List UInt8) (hx : a.eval x = .pointer (some ⟨g, off, none⟩)) (n : Nat) (e : TypeId) (hu : Tryd.prog.underlying ty = some (.array n e)) (hi : (Tryd.prog.info? ty).map (·.size) = some (bv l).length)
    (hc : ∀ j v, (bv l)[j]? = some v → w.cell? ⟨g, off + j, none⟩ = some v)
    (h : wpList Tryd.prog ops Q rest (a.put o.dst (.agg (bv l).toArray)) w) : wpList Tryd.prog ops Q (o :: rest) a w := by
  refine wpList_step fun K hK => ?_
  rw [if_pos hgd]
  unfold Oper.wp execOp
  simp only [ho, hx, Sem.run_bind, run_loadAt_cells hc ty n e hu hi, Result.andThen_ok]
  exact hK _ _ h

set_option maxHeartbeats 8000000 in
theorem msame_any (w : World) (M M' : Msg) (sl sl' : Value) (hf : M.Fits) (hf' : M'.Fits) (hr : BRow w w.heap.size sl M.l) (hr' : BRow w w.heap.size sl' M'.l) (hl : M.l.length ≤ 1000) :
    Calls Tryd.prog 22 #[.agg (mc M sl).toArray, .agg (mc M' sl').toArray] w fun e w' => e = .returned (.bool (msgSame M M')) ∧ Below w.heap.size w w' := by
  have hb0 := ((Below.refl w.heap.size w).alloc (Nat.le_refl _) (.cells (mc M sl).toArray 32)).alloc (by simp) (.cells (mc M' sl').toArray 32)
  have hk1 : Blk _ w.heap.size 32 (mc M sl) := (Blk.new w 32 (mc M sl).toArray).alloc (.cells (mc M' sl').toArray 32)
  have hk2 : Blk _ (w.heap.size + 1) 32 (mc M' sl') := Blk.newAt (w.alloc (.cells (mc M sl).toArray 32)) 32 (mc M' sl').toArray (w.heap.size + 1) (by simp)
  have HR := Lib.hid (hr.bits hb0)
  have HR' := Lib.hid (hr'.bits hb0)
  have HB := Lib.hid hb0
  obtain ⟨w0, hw0⟩ : ∃ x, (w.alloc (.cells (mc M sl).toArray 32)).alloc (.cells (mc M' sl').toArray 32) = x := ⟨_, rfl⟩
  rw [hw0] at hk1 hk2 HR HR' HB
  obtain ⟨g, hg⟩ : ∃ x, w.heap.size = x := ⟨_, rfl⟩
  rw [hg] at hk1 hk2
  obtain ⟨a0, a1, a34, a35, a36⟩ := hk1.msg hf
  obtain ⟨b0, b1, b34, b35, b36⟩ := hk2.msg hf'
  have HK1 := Lib.hid hk1
  have HK2 := Lib.hid hk2
  have HW0 := Lib.hid hw0
  have HG := Lib.hid hg
  have HF := Lib.hid hf
  have HF' := Lib.hid hf'
  clear hk1 hk2 hw0 hg hf hf' hr hr' hb0
  obtain ⟨Z, hZ⟩ : ∃ Z, Z = msgSame M M' := ⟨_, rfl⟩
  rw [← hZ]
  have HS := Lib.hid hZ
  unfold msgSame at HS
  clear hZ
  by_cases e1 : M.k = M'.k
  · have E1 : (M.k == M'.k) = true := by simpa using e1
    rw [E1, Bool.true_and] at HS
    rw [e1] at a0
    by_cases e2 : M.s = M'.s
    · have E2 : (M.s == M'.s) = true := by simpa using e2
      rw [E2, Bool.true_and] at HS
      rw [e2] at a1
      have t1 := target_eq w0 M.T M'.T HF.out.T HF'.out.T
      by_cases e3 : M.T = M'.T
      · have E3 : (M.T == M'.T) = true := by simpa using e3
        rw [E3] at t1
        rw [E3, Bool.true_and] at HS
        by_cases e4 : M.m = M'.m
        · have E4 : (M.m == M'.m) = true := by simpa using e4
          rw [E4, Bool.true_and] at HS
          rw [e4] at a34
          by_cases e5 : M.b = M'.b
          · have E5 : ((M.b : Int) == (M'.b : Int)) = true := by rw [e5, beq_self_eq_true]
            rw [E5, Bool.true_and] at HS
            rw [e5] at a35
            have t2 := tags_eq w0 M.G M'.G HF.out.G HF'.out.G
            by_cases e6 : M.G = M'.G
            · have E6 : (M.G == M'.G) = true := by simpa using e6
              rw [E6] at t2
              rw [E6, Bool.true_and] at HS
              have HC := Lib.hid (brow_same w0 sl sl' M.l M'.l HR.out HR'.out hl)
              clear e1 e2 e3 e4 e5 e6 E1 E2 E3 E4 E5 E6
              go_enter Tryd.func22, Tryd.ntmps22
              go_upto_region 1 with fail
              rw [HW0.out, HG.out]
              go_wp2_with (first
                | ((with_reducible refine wpList_load_bytesG 26 (.tmp 18) ?_ ?_ g 2 M.T ?_ 32 5 Tryd.underlying26 ?_ ?_ ?_); rfl; rfl; rfl; (rw [bv_length, HF.out.T]; exact Tryd.sizeRoot); (exact fun j v hj => (HK1.out.cell _).trans (mc_T sl j v hj)))
                | ((with_reducible refine wpList_load_bytesG 26 (.tmp 20) ?_ ?_ (g + 1) 2 M'.T ?_ 32 5 Tryd.underlying26 ?_ ?_ ?_); rfl; rfl; rfl; (rw [bv_length, HF'.out.T]; exact Tryd.sizeRoot); (exact fun j v hj => (HK2.out.cell _).trans (mc_T sl' j v hj)))
                | ((with_reducible refine wpList_load_bytesG 30 (.tmp 39) ?_ ?_ g 37 M.G ?_ 16 5 Tryd.underlying30 ?_ ?_ ?_); rfl; rfl; rfl; (rw [bv_length, HF.out.G]; exact Tryd.sizeTag); (exact fun j v hj => (HK1.out.cell _).trans (mc_G HF.out sl j v hj)))
                | ((with_reducible refine wpList_load_bytesG 30 (.tmp 41) ?_ ?_ (g + 1) 37 M'.G ?_ 16 5 Tryd.underlying30 ?_ ?_ ?_); rfl; rfl; rfl; (rw [bv_length, HF'.out.G]; exact Tryd.sizeTag); (exact fun j v hj => (HK2.out.cell _).trans (mc_G HF'.out sl' j v hj))))
              refine HC.out.mono ?_
              rintro e w1 ⟨rfl, hb1⟩
              have HBF := Lib.hid (HB.out.trans (hb1.mono HB.out.size))
              rw [← HS.out]
              clear hb1
              go_wp2_with fail
              go_ret
              exact ⟨rfl, HBF.out⟩
            · have E6 : (M.G == M'.G) = false := by simpa using e6
              rw [E6] at t2
              rw [E6, Bool.false_and] at HS
              clear e1 e2 e3 e4 e5 e6 E1 E2 E3 E4 E5 E6
              go_enter Tryd.func22, Tryd.ntmps22
              go_upto_region 1 with fail
              rw [HW0.out, HG.out]
              go_wp2_with (first
                | ((with_reducible refine wpList_load_bytesG 26 (.tmp 18) ?_ ?_ g 2 M.T ?_ 32 5 Tryd.underlying26 ?_ ?_ ?_); rfl; rfl; rfl; (rw [bv_length, HF.out.T]; exact Tryd.sizeRoot); (exact fun j v hj => (HK1.out.cell _).trans (mc_T sl j v hj)))
                | ((with_reducible refine wpList_load_bytesG 26 (.tmp 20) ?_ ?_ (g + 1) 2 M'.T ?_ 32 5 Tryd.underlying26 ?_ ?_ ?_); rfl; rfl; rfl; (rw [bv_length, HF'.out.T]; exact Tryd.sizeRoot); (exact fun j v hj => (HK2.out.cell _).trans (mc_T sl' j v hj)))
                | ((with_reducible refine wpList_load_bytesG 30 (.tmp 39) ?_ ?_ g 37 M.G ?_ 16 5 Tryd.underlying30 ?_ ?_ ?_); rfl; rfl; rfl; (rw [bv_length, HF.out.G]; exact Tryd.sizeTag); (exact fun j v hj => (HK1.out.cell _).trans (mc_G HF.out sl j v hj)))
                | ((with_reducible refine wpList_load_bytesG 30 (.tmp 41) ?_ ?_ (g + 1) 37 M'.G ?_ 16 5 Tryd.underlying30 ?_ ?_ ?_); rfl; rfl; rfl; (rw [bv_length, HF'.out.G]; exact Tryd.sizeTag); (exact fun j v hj => (HK2.out.cell _).trans (mc_G HF'.out sl' j v hj))))
              go_ret
              exact ⟨by rw [HS.out]; rfl, HB.out⟩
          · have E5 : ((M.b : Int) == (M'.b : Int)) = false := by rw [beq_eq_false_iff_ne]; omega
            rw [E5, Bool.false_and] at HS
            clear e1 e2 e3 e4 e5 E1 E2 E3 E4
            go_enter Tryd.func22, Tryd.ntmps22
            go_upto_region 1 with fail
            rw [HW0.out, HG.out]
            go_wp2_with (first
              | ((with_reducible refine wpList_load_bytesG 26 (.tmp 18) ?_ ?_ g 2 M.T ?_ 32 5 Tryd.underlying26 ?_ ?_ ?_); rfl; rfl; rfl; (rw [bv_length, HF.out.T]; exact Tryd.sizeRoot); (exact fun j v hj => (HK1.out.cell _).trans (mc_T sl j v hj)))
              | ((with_reducible refine wpList_load_bytesG 26 (.tmp 20) ?_ ?_ (g + 1) 2 M'.T ?_ 32 5 Tryd.underlying26 ?_ ?_ ?_); rfl; rfl; rfl; (rw [bv_length, HF'.out.T]; exact Tryd.sizeRoot); (exact fun j v hj => (HK2.out.cell _).trans (mc_T sl' j v hj)))
              | ((with_reducible refine wpList_load_bytesG 30 (.tmp 39) ?_ ?_ g 37 M.G ?_ 16 5 Tryd.underlying30 ?_ ?_ ?_); rfl; rfl; rfl; (rw [bv_length, HF.out.G]; exact Tryd.sizeTag); (exact fun j v hj => (HK1.out.cell _).trans (mc_G HF.out sl j v hj)))
              | ((with_reducible refine wpList_load_bytesG 30 (.tmp 41) ?_ ?_ (g + 1) 37 M'.G ?_ 16 5 Tryd.underlying30 ?_ ?_ ?_); rfl; rfl; rfl; (rw [bv_length, HF'.out.G]; exact Tryd.sizeTag); (exact fun j v hj => (HK2.out.cell _).trans (mc_G HF'.out sl' j v hj))))
            go_ret
            exact ⟨by rw [HS.out]; rfl, HB.out⟩
        · have E4 : (M.m == M'.m) = false := by simpa using e4
          rw [E4, Bool.false_and] at HS
          clear e1 e2 e3 e4 E1 E2 E3
          go_enter Tryd.func22, Tryd.ntmps22
          go_upto_region 1 with fail
          rw [HW0.out, HG.out]
          go_wp2_with (first
            | ((with_reducible refine wpList_load_bytesG 26 (.tmp 18) ?_ ?_ g 2 M.T ?_ 32 5 Tryd.underlying26 ?_ ?_ ?_); rfl; rfl; rfl; (rw [bv_length, HF.out.T]; exact Tryd.sizeRoot); (exact fun j v hj => (HK1.out.cell _).trans (mc_T sl j v hj)))
            | ((with_reducible refine wpList_load_bytesG 26 (.tmp 20) ?_ ?_ (g + 1) 2 M'.T ?_ 32 5 Tryd.underlying26 ?_ ?_ ?_); rfl; rfl; rfl; (rw [bv_length, HF'.out.T]; exact Tryd.sizeRoot); (exact fun j v hj => (HK2.out.cell _).trans (mc_T sl' j v hj)))
            | ((with_reducible refine wpList_load_bytesG 30 (.tmp 39) ?_ ?_ g 37 M.G ?_ 16 5 Tryd.underlying30 ?_ ?_ ?_); rfl; rfl; rfl; (rw [bv_length, HF.out.G]; exact Tryd.sizeTag); (exact fun j v hj => (HK1.out.cell _).trans (mc_G HF.out sl j v hj)))
            | ((with_reducible refine wpList_load_bytesG 30 (.tmp 41) ?_ ?_ (g + 1) 37 M'.G ?_ 16 5 Tryd.underlying30 ?_ ?_ ?_); rfl; rfl; rfl; (rw [bv_length, HF'.out.G]; exact Tryd.sizeTag); (exact fun j v hj => (HK2.out.cell _).trans (mc_G HF'.out sl' j v hj))))
          go_ret
          exact ⟨by rw [HS.out]; rfl, HB.out⟩
      · have E3 : (M.T == M'.T) = false := by simpa using e3
        rw [E3] at t1
        rw [E3, Bool.false_and] at HS
        clear e1 e2 e3 E1 E2 E3
        go_enter Tryd.func22, Tryd.ntmps22
        go_upto_region 1 with fail
        rw [HW0.out, HG.out]
        go_wp2_with (first
          | ((with_reducible refine wpList_load_bytesG 26 (.tmp 18) ?_ ?_ g 2 M.T ?_ 32 5 Tryd.underlying26 ?_ ?_ ?_); rfl; rfl; rfl; (rw [bv_length, HF.out.T]; exact Tryd.sizeRoot); (exact fun j v hj => (HK1.out.cell _).trans (mc_T sl j v hj)))
          | ((with_reducible refine wpList_load_bytesG 26 (.tmp 20) ?_ ?_ (g + 1) 2 M'.T ?_ 32 5 Tryd.underlying26 ?_ ?_ ?_); rfl; rfl; rfl; (rw [bv_length, HF'.out.T]; exact Tryd.sizeRoot); (exact fun j v hj => (HK2.out.cell _).trans (mc_T sl' j v hj)))
          | ((with_reducible refine wpList_load_bytesG 30 (.tmp 39) ?_ ?_ g 37 M.G ?_ 16 5 Tryd.underlying30 ?_ ?_ ?_); rfl; rfl; rfl; (rw [bv_length, HF.out.G]; exact Tryd.sizeTag); (exact fun j v hj => (HK1.out.cell _).trans (mc_G HF.out sl j v hj)))
          | ((with_reducible refine wpList_load_bytesG 30 (.tmp 41) ?_ ?_ (g + 1) 37 M'.G ?_ 16 5 Tryd.underlying30 ?_ ?_ ?_); rfl; rfl; rfl; (rw [bv_length, HF'.out.G]; exact Tryd.sizeTag); (exact fun j v hj => (HK2.out.cell _).trans (mc_G HF'.out sl' j v hj))))
        go_ret
        exact ⟨by rw [HS.out]; rfl, HB.out⟩
    · have E2 : (M.s == M'.s) = false := by simpa using e2
      rw [E2, Bool.false_and] at HS
      clear e1 e2 E1
      go_enter Tryd.func22, Tryd.ntmps22
      go_upto_region 1 with fail
      rw [HW0.out, HG.out]
      go_wp2_with (first
        | ((with_reducible refine wpList_load_bytesG 26 (.tmp 18) ?_ ?_ g 2 M.T ?_ 32 5 Tryd.underlying26 ?_ ?_ ?_); rfl; rfl; rfl; (rw [bv_length, HF.out.T]; exact Tryd.sizeRoot); (exact fun j v hj => (HK1.out.cell _).trans (mc_T sl j v hj)))
        | ((with_reducible refine wpList_load_bytesG 26 (.tmp 20) ?_ ?_ (g + 1) 2 M'.T ?_ 32 5 Tryd.underlying26 ?_ ?_ ?_); rfl; rfl; rfl; (rw [bv_length, HF'.out.T]; exact Tryd.sizeRoot); (exact fun j v hj => (HK2.out.cell _).trans (mc_T sl' j v hj)))
        | ((with_reducible refine wpList_load_bytesG 30 (.tmp 39) ?_ ?_ g 37 M.G ?_ 16 5 Tryd.underlying30 ?_ ?_ ?_); rfl; rfl; rfl; (rw [bv_length, HF.out.G]; exact Tryd.sizeTag); (exact fun j v hj => (HK1.out.cell _).trans (mc_G HF.out sl j v hj)))
        | ((with_reducible refine wpList_load_bytesG 30 (.tmp 41) ?_ ?_ (g + 1) 37 M'.G ?_ 16 5 Tryd.underlying30 ?_ ?_ ?_); rfl; rfl; rfl; (rw [bv_length, HF'.out.G]; exact Tryd.sizeTag); (exact fun j v hj => (HK2.out.cell _).trans (mc_G HF'.out sl' j v hj))))
      go_ret
      exact ⟨by rw [HS.out]; rfl, HB.out⟩
  · have E1 : (M.k == M'.k) = false := by simpa using e1
    rw [E1, Bool.false_and] at HS
    clear e1
    go_enter Tryd.func22, Tryd.ntmps22
    go_upto_region 1 with fail
    rw [HW0.out, HG.out]
    go_wp2_with (first
      | ((with_reducible refine wpList_load_bytesG 26 (.tmp 18) ?_ ?_ g 2 M.T ?_ 32 5 Tryd.underlying26 ?_ ?_ ?_); rfl; rfl; rfl; (rw [bv_length, HF.out.T]; exact Tryd.sizeRoot); (exact fun j v hj => (HK1.out.cell _).trans (mc_T sl j v hj)))
      | ((with_reducible refine wpList_load_bytesG 26 (.tmp 20) ?_ ?_ (g + 1) 2 M'.T ?_ 32 5 Tryd.underlying26 ?_ ?_ ?_); rfl; rfl; rfl; (rw [bv_length, HF'.out.T]; exact Tryd.sizeRoot); (exact fun j v hj => (HK2.out.cell _).trans (mc_T sl' j v hj)))
      | ((with_reducible refine wpList_load_bytesG 30 (.tmp 39) ?_ ?_ g 37 M.G ?_ 16 5 Tryd.underlying30 ?_ ?_ ?_); rfl; rfl; rfl; (rw [bv_length, HF.out.G]; exact Tryd.sizeTag); (exact fun j v hj => (HK1.out.cell _).trans (mc_G HF.out sl j v hj)))
      | ((with_reducible refine wpList_load_bytesG 30 (.tmp 41) ?_ ?_ (g + 1) 37 M'.G ?_ 16 5 Tryd.underlying30 ?_ ?_ ?_); rfl; rfl; rfl; (rw [bv_length, HF'.out.G]; exact Tryd.sizeTag); (exact fun j v hj => (HK2.out.cell _).trans (mc_G HF'.out sl' j v hj))))
    go_ret
    exact ⟨by rw [HS.out]; rfl, HB.out⟩
end Go.Proofs.YtnbdpalbompjlaaDoor
