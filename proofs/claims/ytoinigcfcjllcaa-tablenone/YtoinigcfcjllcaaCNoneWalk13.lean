/-
  The texts NoneWalk13, one behind the other.
-/
import Derived.Test.YtoinigcfcjllcaaNoneM9
import Derived.Test.YtoinigcfcjllcaaCSame13
import Derived.Test.YtoinigcfcjllcaaCFreeTwo
import Derived.Test.YtoinigcfcjllcaaCOpenCalls
/-
  The walk of TableNone.
-/
namespace Go.Proofs.Ytoinigcfcjllcaa
open Go Go.RowKit
set_option maxRecDepth 10000

theorem wpList_build_rows4 {P : Program} {ops : Array Oper} {rest : List Oper} {o : Oper} {a : Act} {w : World} {Q : Exit → Act → World → Prop} (hgd : o.guard = none) (t e : TypeId) (len : Nat) (parts : Array (Nat × Operand)) (ho : o.op = .buildSlice t len parts)
    (ie : TypeInfo) (z : Value) {s : Nat} (hs : 0 < s) (rows : List (List Value)) (hr : ∀ r ∈ rows, r.length = s)
    (hu : P.underlying t = some (.slice e)) (hie : P.info? e = some ie) (hz : ie.zero = some z) (hsz : ie.size = s) (hlen : len = rows.length) (hpos : 0 < len) (hsmall : len * s ≤ 2 ^ 24)
    (hp : (parts.toList.map fun x => (x.1, a.eval x.2)) = ((aggs rows).zipIdx 0).map fun x => (x.2, x.1))
    (h : wpList P ops Q rest (a.put o.dst (.slice (some ⟨w.heap.size, 0, none⟩) len len)) (w.alloc (.cells rows.flatten.toArray e))) : wpList P ops Q (o :: rest) a w := by
  refine wpList_plain hgd fun K hK => ?_
  unfold Oper.wp execOp
  simp only [ho, Sem.run_bind, run_build_rows w t e len _ ie z hs rows hr hu hie hz hsz hlen hpos hsmall (show (parts.map fun (i, x) => (i, a.eval x)).toList = _ by rw [Array.toList_map]; exact hp), Result.andThen_ok]
  exact hK _ _ h
/-- The votes of nobody, or of slots that can't be. -/
def noneV (n : Int) (tg : List UInt8) : List Vt := [⟨-1, 0, tg⟩, ⟨n, 0, tg⟩, ⟨0, -1, tg⟩, ⟨0, 1073741825, tg⟩]
def noneR (n : Int) (tg : List UInt8) : List (List Value) := [vcl ⟨-1, 0, tg⟩, vcl ⟨n, 0, tg⟩, vcl ⟨0, -1, tg⟩, vcl ⟨0, 1073741825, tg⟩]
theorem noneR_len (n : Int) (tg : List UInt8) (ht : tg.length = 32) : ∀ r ∈ noneR n tg, r.length = 34 := fun r hr => by
  simp only [noneR, List.mem_cons, List.not_mem_nil, or_false] at hr
  rcases hr with rfl | rfl | rfl | rfl <;> exact vcl_length ht
theorem none_at {t : Tb} {n : Int} {tg : List UInt8} (ht : tg.length = 32) (hn : n = (t.n : Int)) (q : Nat) (hq : q < 4) : ∃ vo, (noneV n tg)[q]? = some vo ∧ vo.g.length = 32 ∧ ¬ okV t vo := by
  match q, hq with
  | 0, _ => exact ⟨_, rfl, ht, fun h => by have := h.1; simp at this⟩
  | 1, _ => exact ⟨_, rfl, ht, fun h => by have := h.2.1; simp only at this; omega⟩
  | 2, _ => exact ⟨_, rfl, ht, fun h => by have := h.2.2.1; simp at this⟩
  | 3, _ => exact ⟨_, rfl, ht, fun h => by have := h.2.2.2; simp at this⟩
theorem none_row {n : Int} {tg : List UInt8} {q : Nat} {vo : Vt} (h : (noneV n tg)[q]? = some vo) : (noneR n tg)[q]? = some (vcl vo) := by
  rw [show noneR n tg = (noneV n tg).map vcl from rfl, List.getElem?_map, h]; rfl
theorem none_cell {n : Int} {tg : List UInt8} (ht : tg.length = 32) {q p : Nat} {vo : Vt} {x : Value} (h : (noneV n tg)[q]? = some vo) (hl : vo.g.length = 32) (hp : (vcl vo)[p]? = some x) : (noneR n tg).flatten[q * 34 + p]? = some x := by
  have hpl : p < 34 := by
    have := (List.getElem?_eq_some_iff.1 hp).1
    rwa [vcl_length hl] at this
  rw [rows_at (s := 34) (by decide) _ _ (noneR_len n tg ht), show (q * 34 + p) / 34 = q by omega, show (q * 34 + p) % 34 = p by omega, none_row h]
  exact hp
set_option maxHeartbeats 16000000 in
theorem none_any (w00 : World) (n k : Int) (ao : Option Addr) (len cap cb off : Nat) (l : List Cl) (tg : List UInt8) (ht : tg.length = 32) (hl : l.length = len) (h : Lies w00 w00.heap.size ao cb off (ccls l)) :
    Calls Try.prog 9 #[.int .i64 n, .int .i64 k, .slice ao len cap, .agg (bv tg).toArray] w00 fun e w' => e = .returned (.bool true) ∧ Below w00.heap.size w00 w' := by
  have hb0 : Below w00.heap.size w00 (w00.alloc (.cells (bv tg).toArray 27)) := (Below.refl _ w00).alloc (Nat.le_refl _) _
  have hx := Blk.new w00 27 (bv tg).toArray
  rw [List.toList_toArray] at hx
  obtain ⟨R, hR⟩ : ∃ R, R = w00.heap.size := ⟨_, rfl⟩
  rw [← hR] at hx
  have HR := Lib.hid hx
  have HB0 := Lib.hid hb0
  have hs := (h.keep hb0).more hb0.size
  clear h hx
  go_enter Try.func9, Try.ntmps9
  go_upto_region 1 with fail
  rw [← hR]
  generalize w00.alloc (.cells (bv tg).toArray 27) = w at HR HB0 hs hb0 ⊢
  have HS := Lib.hid hs
  clear hR hs hb0
  go_wp2_with fail
  refine (alive_any w).mono ?_
  rintro e w1 ⟨rfl, hb1⟩
  have HB := Lib.hid hb1
  clear hb1
  by_cases hbig : (200 : Int) < (len : Int)
  · go_wp2_with fail
    go_ret
    exact ⟨rfl, HB0.out.trans (HB.out.mono HB0.out.size)⟩
  go_wp2_with fail
  refine (new_any w1 n k).mono ?_
  rintro e w5 (⟨hn, rfl, rfl⟩ | ⟨n1, n2, k1, k2, b, m, g, rfl, hT, hH, hb2⟩)
  · go_wp2_with fail
    refine (rtnew_bad _ n k hn).mono ?_
    rintro e w5 ⟨rfl, rfl⟩
    go_wp2_with fail
    go_ret
    exact ⟨rfl, HB0.out.trans (HB.out.mono HB0.out.size)⟩
  have HT1 := Lib.hid hT
  have HH1 := Lib.hid (hH.mono HB.out.size)
  have HB2 := Lib.hid (HB.out.trans (hb2.mono HB.out.size))
  have HNN := Lib.hid (show n = ((newT n.toNat k.toNat).n : Int) by show n = (n.toNat : Int); omega)
  clear hT hH hb2
  go_wp2_with fail
  refine (rtnew_any w5 n k n1 n2 k1 k2).mono ?_
  rintro e w6 ⟨F, rb, rfl, ⟨g1, g2, g3, v, hRR⟩, hH, hb3⟩
  have HT := Lib.hid (show TT w b m g rb g1 g2 g3 (newT n.toNat k.toNat) w6 from ⟨F, v, TR.new (w0 := w) HB2.out HT1.out HH1.out hRR hH hb3⟩)
  clear HT1 HH1 HB HB2 hRR hH hb3 n1 n2 k1 k2
  go_wp2_with fail
  go_loopw [44] (fun i wr => ∃ (j : Nat) (T : Tb), j ≤ len ∧ T.fs.length ≤ j ∧ Hid (n = (T.n : Int)) ∧ i = .int .i64 j ∧ Hid (TT w b m g rb g1 g2 g3 T wr)) (fun i _ => len - (intOf i).toNat)
  case atStart => exact ⟨0, newT n.toNat k.toNat, Nat.zero_le _, Nat.le_refl 0, HNN, rfl, HT⟩
  case round =>
    clear HT HNN
    obtain ⟨j, T, hj, hjT, HTN0, rfl, HT⟩ := hrel
    by_cases hlt : j < len
    · obtain ⟨c, hc⟩ : ∃ c, l[j]? = some c := ⟨_, List.getElem?_eq_getElem (by omega)⟩
      obtain ⟨hao, hcc⟩ := (HS.out.keep HT.out.bl).call hc
      subst hao
      have HCE := Lib.hid hcc
      have hjl : (j : Int) < (len : Int) := by omega
      have HLEN := Lib.hid (show T.fs.length ≤ 1000 by omega)
      have HJT := Lib.hid hjT
      clear hc hcc
      have HZ := Lib.hid (zero_call wr)
      have hbc : Below wr.heap.size wr ((wr.alloc (.cells #[.bool false, .int .i64 0, .int .i64 0, .int .i64 0] 41)).setRow wr.heap.size (ccl c).toArray) := below_row ((Below.refl _ wr).alloc (Nat.le_refl _) _) (Nat.le_refl _) _
      have HX := Lib.hid (HT.out.into hbc (Nat.le_refl _) (HZ.out.setRow (ccl c)))
      go_upto_region 12 with (first
        | ((with_reducible refine wpList_load_call (.tmp 46) ?_ ?_ cb (off + j * 4) c ?_ HCE.out ?_); rfl; rfl; rfl)
        | ((with_reducible refine wpList_store_call (.tmp 13) (.tmp 47) ?_ ?_ wr.heap.size cl0 c ?_ ?_ HZ.out ?_); rfl; rfl; rfl; rfl))
      try simp only [Act.put]
      obtain ⟨X, hX⟩ : ∃ X, X = wr.heap.size := ⟨_, rfl⟩
      rw [← hX] at HX ⊢
      generalize (wr.alloc (.cells #[.bool false, .int .i64 0, .int .i64 0, .int .i64 0] 41)).setRow X (ccl c).toArray = w5 at HX ⊢
      clear hbc HZ hX HCE HT
      cases hf : c.f with
      | true =>
        have c0 := HX.out.blk.cell 0
        simp only [ccl, List.getElem?_cons_zero] at c0
        rw [hf] at c0
        clear hf
        replace HX := Lib.hid HX.out.tt
        go_wp2_with fail
        go_roundw
        case rel => exact ⟨j + 1, T, by omega, Nat.le_trans HJT.out (by omega), HTN0, by go_num, HX⟩
        case measure => simp [intOf]; omega
      | false =>
        have c0 := HX.out.blk.cell 0
        simp only [ccl, List.getElem?_cons_zero] at c0
        rw [hf] at c0
        clear hf
        go_upto_region 13 with fail
        clear c0
        obtain ⟨CO, hCO⟩ : ∃ CO, CO = (takeT T (ctv c)).1 := ⟨_, rfl⟩
        obtain ⟨TN, hTN⟩ : ∃ TN, TN = (takeT T (ctv c)).2 := ⟨_, rfl⟩
        have HCO := Lib.hid hCO.symm
        have HTN := Lib.hid hTN
        have HFN := Lib.hid (show TN.fs.length ≤ T.fs.length + 1 by rw [hTN]; exact take_fs _ _)
        have HNK := Lib.hid (show n = (TN.n : Int) by rw [hTN, (takeT_nk T (ctv c)).1]; exact HTN0.out)
        clear hCO hTN
        refine wp_region_freeD (P := Try.prog) 8 3 7 (by decide) (by decide) (by decide) (fun i => match i with
          | 0 => .pointer (some ⟨b, 0, none⟩)
          | 1 => .agg (ccl c).toArray
          | 2 => .agg (vcl (ctv c)).toArray
          | 3 => .int .i64 CO
          | 4 => .pointer (some ⟨rb, 0, none⟩)
          | 5 => .agg (ccl c).toArray
          | 6 => .agg (vcl (ctv c)).toArray
          | 7 => .int .i64 CO
          | _ => undef) (fun x y w' => TX w b m g rb g1 g2 g3 X c (cond x TN T) (cond y TN T) w') (by kernel_rfl) (by kernel_rfl) (HX.out.below (Below.refl _ _).drew) ?pb ?steps ?fin
        case pb => exact fun x y a b h hb => h.below hb
        case steps =>
          intro vals
          simp only [List.take_succ_cons, List.take_zero, freeStepsD, Act.put, List.setIfInBounds_toArray, List.set_cons_zero, List.set_cons_succ, Nat.reduceAdd, Nat.reduceEqDiff, reduceIte]
          refine ⟨fun x y w8 hG hW => ?_, fun x y w8 hG hW => ?_, fun x y w8 hG hW => ?_, fun y w8 hG hW => ?_, fun x y w8 hG hW => ?_, fun x y w8 hG hW => ?_, fun x y w8 hG hW => ?_, fun x w8 hG hW => ?_, trivial⟩
          · clear hW
            refine stepAt_value rfl rfl rfl (.pointer (some ⟨b, 0, none⟩)) w8 ?_ ⟨rfl, Below.refl _ _⟩
            go_simp
          · clear hW
            refine stepAt_load_run rfl rfl rfl _ _ rfl _ _ rfl (run_load_call hG.blk.callAll) ⟨rfl, Below.refl _ _⟩
          · have q1 := hW 1 (by decide)
            simp only at q1
            rw [q1]
            clear hW
            refine stepAt_call rfl rfl rfl 19 #[.agg (ccl c).toArray] (by go_simp) ((cvote_any w8 c).mono fun e w' ⟨h1, h2⟩ => ⟨_, h1, rfl, h2⟩)
          · have q0 := hW 0 (by decide)
            simp only at q0
            have q2 := hW 2 (by decide)
            simp only at q2
            rw [q0, q2]
            clear hW
            refine stepAt_call rfl rfl rfl 13 #[.pointer (some ⟨b, 0, none⟩), .agg (vcl (ctv c)).toArray] (by go_simp) ((hG.take (ctv c) (ctv_len c) HLEN.out).mono fun e w' ⟨h1, h2⟩ => ⟨_, h1, congrArg (Value.int .i64) HCO.out, by have h3 : TX w b m g rb g1 g2 g3 X c (takeT T (ctv c)).2 (cond y TN T) w' := h2; rw [← HTN.out] at h3; exact h3⟩)
          · clear hW
            refine stepAt_value rfl rfl rfl (.pointer (some ⟨rb, 0, none⟩)) w8 ?_ ⟨rfl, Below.refl _ _⟩
            go_simp
          · clear hW
            refine stepAt_load_run rfl rfl rfl _ _ rfl _ _ rfl (run_load_call hG.blk.callAll) ⟨rfl, Below.refl _ _⟩
          · have q5 := hW 5 (by decide)
            simp only at q5
            rw [q5]
            clear hW
            refine stepAt_call rfl rfl rfl 19 #[.agg (ccl c).toArray] (by go_simp) ((cvote_any w8 c).mono fun e w' ⟨h1, h2⟩ => ⟨_, h1, rfl, h2⟩)
          · have q4 := hW 4 (by decide)
            simp only at q4
            have q6 := hW 6 (by decide)
            simp only at q6
            rw [q4, q6]
            clear hW
            refine stepAt_call rfl rfl rfl 20 #[.pointer (some ⟨rb, 0, none⟩), .agg (vcl (ctv c)).toArray] (by go_simp) ((hG.rtake (ctv c) (ctv_len c) HLEN.out).mono fun e w' ⟨h1, h2⟩ => ⟨_, h1, congrArg (Value.int .i64) HCO.out, by have h3 : TX w b m g rb g1 g2 g3 X c (cond x TN T) (takeT T (ctv c)).2 w' := h2; rw [← HTN.out] at h3; exact h3⟩)
        case fin =>
          intro vals w6 hV hMid
          have q3 := hV 3 (by omega)
          have q7 := hV 7 (by omega)
          simp only at q3 q7
          simp only [List.take_succ_cons, List.take_zero, List.drop_succ_cons, List.drop_zero, putAll, Act.put, List.setIfInBounds_toArray, List.set_cons_zero, List.set_cons_succ, Nat.reduceAdd]
          rw [q3, q7]
          clear hV q3 q7 HX HCO
          have HX := Lib.hid (show TX w b m g rb g1 g2 g3 X c TN TN w6 from hMid)
          clear hMid
          generalize vals 0 = z0
          generalize vals 1 = z1
          generalize vals 2 = z2
          generalize vals 4 = z4
          generalize vals 5 = z5
          generalize vals 6 = z6
          have hco : ((CO == CO) = true) := beq_self_eq_true CO
          go_upto_region 15 with fail
          clear hco
          replace HX := Lib.hid HX.out.tt
          have HRr := Lib.hid ((HR.out.below HX.out.bl HR.out.lt).rootAll)
          obtain ⟨i0, hi0, hz0, hy0, _⟩ := info_parts Try.infoVote
          have HI := Lib.hid (⟨hi0, hz0, hy0⟩ : Try.prog.info? 29 = some i0 ∧ i0.zero = some (.agg (vcl vt0).toArray) ∧ i0.size = 34)
          clear hi0 hz0 hy0
          have HF1 := Lib.hid (built_vtW (-1) tg ht)
          have HF2 := Lib.hid (built_vtW n tg ht)
          have HF3 := Lib.hid (built_vtS (-1) tg ht)
          have HF4 := Lib.hid (built_vtS 1073741825 tg ht)
          have HRW := Lib.hid (show ∀ r ∈ noneR n tg, r.length = 34 from noneR_len n tg ht)
          have HBX := Lib.hid (Blk.new w6 29 (noneR n tg).flatten.toArray)
          have hba : Below w6.heap.size w6 (w6.alloc (.cells (noneR n tg).flatten.toArray 29)) := (Below.refl _ _).alloc (Nat.le_refl _) _
          go_wp2_with (first
            | ((with_reducible refine wpList_load_name (.tmp 7) ?_ ?_ R 0 tg ?_ ht HRr.out ?_); rfl; rfl; rfl)
            | ((with_reducible refine wpList_build_l 29 #[(0, .const (.int .i64 (-1))), (2, .tmp 59)] _ _ HF1.out ?_ ?_ ?_ ?_); rfl; rfl; rfl)
            | ((with_reducible refine wpList_build_l 29 #[(0, .tmp 61), (2, .tmp 62)] _ _ HF2.out ?_ ?_ ?_ ?_); rfl; rfl; rfl)
            | ((with_reducible refine wpList_build_l 29 #[(1, .const (.int .i64 (-1))), (2, .tmp 64)] _ _ HF3.out ?_ ?_ ?_ ?_); rfl; rfl; rfl)
            | ((with_reducible refine wpList_build_l 29 #[(1, .const (.int .i64 1073741825)), (2, .tmp 66)] _ _ HF4.out ?_ ?_ ?_ ?_); rfl; rfl; rfl)
            | ((with_reducible refine wpList_build_rows4 ?_ 50 29 4 #[(0, .tmp 60), (1, .tmp 63), (2, .tmp 65), (3, .tmp 67)] ?_ i0 (.agg (vcl vt0).toArray) (s := 34) (by decide) (noneR n tg) HRW.out Try.underlying50 HI.out.1 HI.out.2.1 HI.out.2.2 ?_ (by decide) (by decide) ?_ ?_); rfl; rfl; rfl; rfl))
          obtain ⟨VB, hVB⟩ : ∃ VB, VB = w6.heap.size := ⟨_, rfl⟩
          have HX0 := Lib.hid (HX.out.below hba)
          have HVA := Lib.hid (show VB ∉ [b, m, g] by obtain ⟨F, v, h⟩ := HX.out; exact (h.away (X := VB) (by omega)).1)
          rw [← hVB] at HBX ⊢
          generalize w6.alloc (.cells (noneR n tg).flatten.toArray 29) = wS at HX0 HBX ⊢
          clear hVB hba HX HF1 HF2 HF3 HF4 HRr
          go_loopw [70] (fun i wr => ∃ (q : Nat), q ≤ 4 ∧ i = .int .i64 q ∧ Hid (TT w b m g rb g1 g2 g3 TN wr) ∧ Hid (Blk wr VB 29 (noneR n tg).flatten)) (fun i _ => 4 - (intOf i).toNat)
          case atStart => exact ⟨0, Nat.zero_le _, rfl, HX0, HBX⟩
          case round =>
            clear HX0 HBX
            obtain ⟨q, hq, rfl, HX, HBX⟩ := hrel
            by_cases hq4 : q < 4
            · obtain ⟨vo, hvo, hvl, hno⟩ := none_at (t := TN) (tg := tg) ht HNK.out q hq4
              have HVL := Lib.hid hvl
              have HNT := Lib.hid (takeT_off hno)
              have HLF := Lib.hid (show TN.fs.length ≤ 1000 by have := HFN.out; have := HJT.out; omega)
              have HCV := Lib.hid (show ∀ p x, (vcl vo)[p]? = some x → wr.cell? ⟨VB, q * 34 + p, none⟩ = some x from fun p x hp => by rw [HBX.out.cell]; exact none_cell ht hvo hvl hp)
              have hq4' : (q : Int) < 4 := by omega
              have HZ := Lib.hid (zero_voteC wr)
              have hbc : Below wr.heap.size wr ((wr.alloc (.cells #[.int .i64 0, .int .i64 0, .int .u8 0, .int .u8 0, .int .u8 0, .int .u8 0, .int .u8 0, .int .u8 0, .int .u8 0, .int .u8 0, .int .u8 0, .int .u8 0, .int .u8 0, .int .u8 0, .int .u8 0, .int .u8 0, .int .u8 0, .int .u8 0, .int .u8 0, .int .u8 0, .int .u8 0, .int .u8 0, .int .u8 0, .int .u8 0, .int .u8 0, .int .u8 0, .int .u8 0, .int .u8 0, .int .u8 0, .int .u8 0, .int .u8 0, .int .u8 0, .int .u8 0, .int .u8 0] 29)).setRow wr.heap.size (vcl vo).toArray) := below_row ((Below.refl _ wr).alloc (Nat.le_refl _) _) (Nat.le_refl _) _
              have HY := Lib.hid (HZ.out.setRow (vcl vo))
              clear hvo hno hvl
              go_upto_region 18 with (first
                | ((with_reducible refine wpList_load_vote (.tmp 72) ?_ ?_ VB (q * 34) vo ?_ HVL.out HCV.out ?_); rfl; rfl; rfl)
                | ((with_reducible refine wpList_store_vote (.tmp 15) (.tmp 73) ?_ ?_ wr.heap.size vt0 vo ?_ ?_ HZ.out vt0_len HVL.out ?_); rfl; rfl; rfl; rfl))
              try simp only [Act.put]
              replace HX := Lib.hid (HX.out.below hbc)
              replace HBX := Lib.hid (HBX.out.below hbc HBX.out.lt)
              obtain ⟨Y, hY⟩ : ∃ Y, Y = wr.heap.size := ⟨_, rfl⟩
              rw [← hY] at HX HBX HY ⊢
              generalize (wr.alloc (.cells #[.int .i64 0, .int .i64 0, .int .u8 0, .int .u8 0, .int .u8 0, .int .u8 0, .int .u8 0, .int .u8 0, .int .u8 0, .int .u8 0, .int .u8 0, .int .u8 0, .int .u8 0, .int .u8 0, .int .u8 0, .int .u8 0, .int .u8 0, .int .u8 0, .int .u8 0, .int .u8 0, .int .u8 0, .int .u8 0, .int .u8 0, .int .u8 0, .int .u8 0, .int .u8 0, .int .u8 0, .int .u8 0, .int .u8 0, .int .u8 0, .int .u8 0, .int .u8 0, .int .u8 0, .int .u8 0] 29)).setRow Y (vcl vo).toArray = wY at HX HBX HY ⊢
              clear hbc HZ hY HCV
              have HYA := Lib.hid HY.out.voteAll
              obtain ⟨FS, vS, hTR⟩ := HX.out
              go_wp2_with ((with_reducible refine wpList_load_vote (.tmp 15) ?_ ?_ Y 0 vo ?_ HVL.out HYA.out ?_); rfl; rfl; rfl)
              refine (take_any wY b m g TN vo hTR.p HVL.out HLF.out).mono ?_
              rintro e wZ ⟨rfl, hT, hk⟩
              rw [HNT.out] at hT
              rw [HNT.out]
              replace HX := Lib.hid (show TT w b m g rb g1 g2 g3 TN wZ from ⟨FS, vS, hTR.setp hT hk⟩)
              replace HBX := Lib.hid (HBX.out.kept hk HVA.out)
              clear hTR hT hk HY HYA
              go_wp2_with fail
              go_roundw
              case rel => exact ⟨q + 1, by omega, by go_num, HX, HBX⟩
              case measure => simp [intOf]; omega
            · obtain rfl : q = 4 := by omega
              obtain ⟨wq, hwq⟩ : ∃ wq, wq = wr := ⟨_, rfl⟩
              rw [← hwq] at HX ⊢
              clear hwq hq4 HBX
              obtain ⟨FS, vS, hTR⟩ := HX.out
              go_wp2_with fail
              refine (same_any _ b m g rb g1 g2 g3 FS vS _ hTR.p hTR.q).mono ?_
              rintro e w8 ⟨rfl, hbc⟩
              clear hTR
              replace HX := Lib.hid (HX.out.below hbc)
              clear hbc
              go_wp2_with fail
              go_roundw
              case rel => exact ⟨j + 1, TN, by omega, Nat.le_trans HFN.out (by have := HJT.out; omega), HNK, by go_num, HX⟩
              case measure => simp [intOf]; omega
    · obtain rfl : j = len := by omega
      go_wp2_with fail
      go_ret
      exact ⟨rfl, HB0.out.trans (HT.out.bl.mono HB0.out.size)⟩
end Go.Proofs.Ytoinigcfcjllcaa
