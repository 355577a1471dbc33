/-
  The texts WClone, one behind the other.
-/
import Derived.Test.YtjodhagjfjgbcaaCOpenZ
import Derived.Test.YtjodhagjfjgbcaaIsM2
import Derived.Test.YtjodhagjfjgbcaaCInts
import Derived.Laws.CopyOwn
import Derived.Laws.BitsLemmas
import Derived.Laws.BitsAllLaws
import Derived.Laws.MakeOwn
import Derived.Test.YtjodhagjfjgbcaaIsM1
import Derived.Deep.DeepCutAuto
import Derived.Deep.Cut
/-
  slices.Clone and slices.Repeat of numbers, math/bits.Mul at 1.
-/
namespace Go.Proofs.Ytjodhagjfjgbcaa
open Go.RowKit
set_option maxRecDepth 10000

theorem zv_one (l : List Int) : ∀ v ∈ zv l, v.oneCell' = true := by intro v hv; simp [zv] at hv; obtain ⟨a, _, rfl⟩ := hv; rfl
theorem zv_append (a b : List Int) : zv (a ++ b) = zv a ++ zv b := by simp [zv]
theorem zv_set (l : List Int) (j : Nat) (x : Int) : (zv l).set j (.int .i64 x) = zv (l.set j x) := by simp [zv, List.map_set]
theorem wide_owned {k : Nat} {w : World} {base : Nat} {v : Value} {xs : List Value} (h : Wide k w base v xs) (hx : 0 < xs.length) : ∃ j, v.ownBlock = some j ∧ base ≤ j := by
  have ho := h.own
  obtain ⟨n, cap, g, off, ao, rfl, h⟩ := h
  have hc : 0 < cap := by
    have h1 := h.len
    have h2 := h.le
    rcases Nat.eq_zero_or_pos n with hn | hn
    · rw [hn, Nat.zero_mul] at h1; omega
    · omega
  refine ⟨g, ?_, ?_⟩
  · rw [h.addr hc]; rfl
  · exact ho g (by rw [h.addr hc]; rfl)

theorem eql_nilZ (w : World) (ao : Option Addr) (n cap : Nat) : (binOp .eql 42 (.slice ao n cap) (.slice none 0 0)).run Try.prog w = .ok (.bool ao.isNone) w := by
  have h := run_equal_slice_nil (P := Try.prog) w 42 3 ao n cap Try.underlying42
  simp only [binOp]
  simp [h]

/-- A copy of a slice of numbers, in memory of its own. -/
theorem clone_ints (w : World) (ao : Option Addr) (cap g off : Nat) (l : List Int) (hl : 0 < l.length) (hm : l.length ≤ 1000) (h : Lies w w.heap.size ao g off (zv l)) :
    Calls Try.prog 58 #[.slice ao l.length cap] w fun e w' => ∃ v', e = .returned v' ∧ Wide 1 w' w.heap.size v' (zv l) ∧ Below w.heap.size w w' := by
  obtain ⟨i0, hi0, hz0, hz1, hz2⟩ := info_parts Try.info3
  have ha := h.addr (by rw [zv_length]; exact hl)
  subst ha
  have heq := eql_nilZ w (some ⟨g, off, none⟩) l.length cap
  have HWE := Lib.hid (wide_empty 1 w 3 w.heap.size (Nat.le_refl _))
  have HB := Lib.hid (show Below w.heap.size w (w.alloc (.cells #[] 3)) from (Below.refl _ w).alloc (Nat.le_refl _) _)
  have HM := Lib.hid (show ([] : List Value).length + l.length ≤ maxLen by unfold maxLen; simp; omega)
  have HM2 := Lib.hid (show (([] : List Value).length + l.length) * 8 ≤ 140737488355328 by simp; omega)
  have HSR := Lib.hid ((h.below HB.out).src cap 42 3 Try.underlying42 (n := l.length) (k := 1) (by rw [zv_length, Nat.mul_one]) (zv_one _) (by decide))
  clear h
  go_enter Try.func58, Try.ntmps58
  go_wp2_with (at_builtin; refine wpList_append_wide rfl _ _ 42 42 rfl rfl HWE.out (by decide) 3 i0 (.int .i64 0) 8 Try.underlying42 hi0 hz0 hz1 hz2 rfl _ rfl l.length (zv l) HSR.out HM.out HM2.out HB.out.size ?_)
  intro v' w' hv hg
  have HV := Lib.hid hv
  have HG := Lib.hid (HB.out.trans (hg.belowW HWE.out HB.out.size))
  clear hv hg heq
  go_wp2_with fail
  go_ret
  exact ⟨_, rfl, HV.out, HG.out⟩

/-- Once so many. -/
theorem mul64_one (w : World) (n : Nat) (hn : n ≤ 1000) : Calls Try.prog 66 #[.int .u64 1, .int .u64 (n : Int)] w fun e w' => e = .returned (.tuple #[.int .u64 0, .int .u64 (n : Int)]) ∧ w' = w := by
  have e1 : bits .and .u64 (n : Int) 4294967295 = (n : Int) := by
    have := bits_mask .u64 64 (by decide) (fun n h0 h1 => by rw [IntKind.wrap_u64]; omega) 32 (by decide) (n : Int) (by omega) (by omega)
    rw [show ((2 : Int) ^ 32 - 1) = 4294967295 from by decide, show ((2 : Int) ^ 32) = 4294967296 from by decide] at this
    rw [this]
    omega
  have e2 : bits .and .u64 1 4294967295 = 1 := by decide
  have e3 : bits .and .u64 0 4294967295 = 0 := by decide
  have e4 : IntKind.u64.wrap (n : Int) = (n : Int) := by rw [IntKind.wrap_u64]; omega
  have e5 : (n : Int) / 4294967296 = 0 := by omega
  go_enter Try.func66, Try.ntmps66
  go_wp2_with fail
  go_ret2
  exact ⟨rfl, rfl⟩
theorem mul_one_n (w : World) (n : Nat) (hn : n ≤ 1000) : Calls Try.prog 63 #[.int .u64 1, .int .u64 (n : Int)] w fun e w' => e = .returned (.tuple #[.int .u64 0, .int .u64 (n : Int)]) ∧ w' = w := by
  go_enter Try.func63, Try.ntmps63
  go_wp2_with fail
  refine (mul64_one w n hn).mono ?_
  rintro e w' ⟨rfl, rfl⟩
  go_wp2_with fail
  go_ret2
  exact ⟨rfl, rfl⟩

theorem measK (N j K : Nat) (x : Int) (hx : x = ((j + K : Nat) : Int)) (h : j < N) (hk : 0 < K) : N - (intOf (.int .i64 x)).toNat < N - (intOf (.int .i64 (j : Int))).toNat := by
  subst hx
  simp only [intOf]
  omega
/-- copy, as one operation of a region. -/
theorem copy_oper {P : Program} {o : Oper} {a : Act} {w : World} {K : Act → World → Prop} {Q : Exit → Act → World → Prop} (hgd : o.guard = none) (d s : Operand) (dT sT : TypeId)
    (ho : o.op = .call { callee := .builtin .copy, args := #[d, s], argTypes := #[dT, sT] }) (elem : TypeId) (hu : P.underlying dT = some (.slice elem)) (hsz : (P.info? elem).map (·.size) = some 1)
    (dp sp : Option Addr) (dLen dCap sLen sCap : Nat) (hd : a.eval d = .slice dp dLen dCap) (hs : a.eval s = .slice sp sLen sCap)
    (g off : Nat) (cur : List Value) (t : TypeId) (hg : w.heap[g]? = some (.cells cur.toArray t (0, 0))) (cs : List Value) (hn : cs.length = Nat.min sLen dLen)
    (hpos : 0 < cs.length → dp = some ⟨g, off, none⟩ ∧ ∃ ad, sp = some ad ∧ ∀ j v, cs[j]? = some v → w.cell? (ad.add j) = some v)
    (hfit : off + cs.length ≤ cur.length) (h1 : ∀ v ∈ cs, v.oneCell' = true) (B : Nat) (w0 : World) (hb : RowKit.Below B w0 w) (hBg : B ≤ g)
    (h : ∀ w', RowKit.Hid (w'.heap[g]? = some (.cells (splice cur off cs).toArray t (0, 0))) → RowKit.Below B w0 w' → K (a.put o.dst (goInt cs.length)) w') : Oper.wp P o a w K Q := by
  have hw : Region.wanted o (yielded #[] a.tmps) = true := by simp [Region.wanted, hgd]
  have := step_copy_splice (ops := #[]) (Q := Q) (E := False) hgd d s dT sT ho elem hu hsz dp sp dLen dCap sLen sCap hd hs g off cur t hg cs hn hpos hfit h1 B w0 hb hBg h
  rwa [if_pos hw] at this
theorem made_zeros (m : Nat) : (madeCells (Value.int .i64 0).cells m).toList = zv (List.replicate m 0) := by
  apply List.ext_getElem?
  intro j
  by_cases h : j < m
  · simp [madeCells, Value.cells, Nat.mod_one, zv, h]
  · rw [List.getElem?_eq_none (by rw [Array.length_toList, size_madeCells]; omega), List.getElem?_eq_none (by rw [zv_length]; simp; omega)]
theorem Try.sizeI : (Try.prog.info? 3).map (·.size) = some 1 := by kernel_rfl
theorem Blk.wide {w : World} {g : Nat} {l : List Int} (h : Blk w g 3 (zv l)) (base : Nat) (hb : base ≤ g) (hm : l.length ≤ 1000) : Wide 1 w base (.slice (some ⟨g, 0, none⟩) l.length l.length) (zv l) :=
  ⟨l.length, l.length, g, 0, _, rfl, by rw [zv_length, Nat.mul_one], Nat.le_refl _, by unfold maxLen; omega, fun _ => rfl, fun a ha => by cases ha; exact hb, fun _ => h.lt, fun j u hj => by rw [Nat.zero_add, h.cell]; exact hj,
    fun j hj => by rw [Nat.zero_add, h.cell, List.getElem?_eq_getElem (by rw [zv_length]; omega)]; rfl, fun j _ => h.free _⟩
theorem rep_splice (x : Int) (n j : Nat) (h : j ≤ n) : splice (zv (List.replicate j x ++ List.replicate (n - j) 0)) j (zv (List.replicate (min j (n - j)) x)) = zv (List.replicate (j + min j (n - j)) x ++ List.replicate (n - (j + min j (n - j))) 0) := by
  unfold splice
  rw [zv_append, List.take_append_of_le_length (by rw [zv_length]; simp), List.take_of_length_le (by rw [zv_length]; simp), zv_length, List.length_replicate, List.drop_append, List.drop_of_length_le (by rw [zv_length]; simp), List.nil_append, zv_length, List.length_replicate]
  rw [← List.replicate_append_replicate, zv_append, zv_append, List.append_assoc]
  congr 2
  simp only [zv, List.map_replicate, List.drop_replicate]
  congr 1
  omega

set_option maxHeartbeats 4000000 in
/-- One number, so many times. -/
theorem repeat_ints (w : World) (x : Int) (g n : Nat) (h1 : 1 ≤ n) (hn : n ≤ 1000) (h : Lies w w.heap.size (some ⟨g, 0, none⟩) g 0 (zv [x])) :
    Calls Try.prog 59 #[.slice (some ⟨g, 0, none⟩) 1 1, .int .i64 (n : Int)] w fun e w' => ∃ v', e = .returned v' ∧ Wide 1 w' w.heap.size v' (zv (List.replicate n x)) ∧ Below w.heap.size w w' := by
  obtain ⟨i0, hi0, hz0, hz1, hz2⟩ := info_parts Try.info3
  have hmk := fun W => run_makeSlice (P := Try.prog) W 42 3 i0 (.int .i64 0) Try.underlying42 hi0 hz0 .i64 .i64 (n : Int) (n : Int) (by omega) (by omega) (by rw [hz1]; simp; omega) (by rw [hz2]; omega) (by omega)
  simp only [hz1, Nat.mul_one, Int.toNat_natCast] at hmk
  have e4 : IntKind.u64.wrap (n : Int) = (n : Int) := by rw [IntKind.wrap_u64]; omega
  have e5 : IntKind.i64.wrap (n : Int) = (n : Int) := by rw [IntKind.wrap_i64]; omega
  have d1 : ¬ ((n : Int) < 0) := by omega
  have d2 : ¬ ((9223372036854775807 : Int) < (n : Int)) := by omega
  have d3 : decide ((9223372036854775807 : Int) < (n : Int)) = false := by simp; omega
  have HB := Lib.hid (show Below w.heap.size w (w.alloc (.cells (madeCells (Value.int .i64 0).cells n) 3)) from (Below.refl _ _).alloc (Nat.le_refl _) _)
  have HG0 := Blk.new w 3 (madeCells (Value.int .i64 0).cells n)
  rw [made_zeros] at HG0
  have HG := Lib.hid HG0
  have HL := Lib.hid (h.below HB.out)
  clear HG0 h
  go_enter Try.func59, Try.ntmps59
  go_wp2_with fail
  refine (mul_one_n w n hn).mono ?_
  rintro e wq ⟨rfl, hwq⟩
  have hwq := hwq.symm
  subst hwq
  obtain ⟨wq, hwq⟩ : ∃ wq, wq = w := ⟨_, rfl⟩
  subst hwq
  go_upto_region 7 with fail
  have eC : madeCells #[Value.int IntKind.i64 0] n = madeCells (Value.int .i64 0).cells n := rfl
  rw [eC]
  obtain ⟨G, hG⟩ : ∃ G, G = wq.heap.size := ⟨_, rfl⟩
  rw [← hG] at HG ⊢
  have HGS := Lib.hid hG
  generalize wq.alloc (.cells (madeCells (Value.int .i64 0).cells n) 3) = wA at HB HG HL ⊢
  clear hG eC hmk e4 e5 d1 d2 d3
  have HC1 := Lib.hid (show (zv [x]).length = Nat.min 1 n by rw [zv_length]; simp [Nat.min_def]; omega)
  have HC2 := Lib.hid (show 0 + (zv [x]).length ≤ (zv (List.replicate n 0)).length by simp [zv_length]; omega)
  have HSRC := Lib.hid (show ∀ j v, (zv [x])[j]? = some v → wA.cell? (Addr.add ⟨g, 0, none⟩ j) = some v from fun j v hj => by rw [Addr.add_lit]; exact HL.out.cells j v hj)
  have HBG := Lib.hid (show wq.heap.size ≤ G by rw [HGS.out]; exact Nat.le_refl _)
  have HGR := Lib.hid (show wA.heap[G]? = some (.cells (zv (List.replicate n 0)).toArray 3 (0, 0)) from HG.out)
  go_wp2_with ((with_reducible refine wpList_copy_splice ?_ (.tmp 31) (.tmp 32) 42 42 ?_ 3 Try.underlying42 Try.sizeI (some ⟨G, 0, none⟩) (some ⟨g, 0, none⟩) n n 1 1 ?_ ?_ G 0 (zv (List.replicate n 0)) 3 HGR.out (zv [x]) HC1.out ?_ HC2.out (zv_one _) wq.heap.size wq HB.out HBG.out ?_); rfl; rfl; rfl; rfl; exact fun _ => ⟨rfl, _, rfl, HSRC.out⟩)
  intro w2 hG2 hB2
  have HG2 := Lib.hid (show Blk w2 G 3 (zv (List.replicate 1 x ++ List.replicate (n - 1) 0)) by
    have := hG2.out
    rw [show splice (zv (List.replicate n 0)) 0 (zv [x]) = zv (List.replicate 1 x ++ List.replicate (n - 1) 0) by
      obtain ⟨m, rfl⟩ : ∃ m, n = m + 1 := ⟨n - 1, by omega⟩
      simp [splice, zv, List.replicate_succ]] at this
    exact this)
  have HB2 := Lib.hid hB2
  clear hG2 hB2 HG HL HB HC1 HC2 HSRC HGR
  go_wp2_with fail
  go_loopw [8] (fun i wr => ∃ j : Nat, 1 ≤ j ∧ j ≤ n ∧ i = .int .i64 j ∧ Hid (Blk wr G 3 (zv (List.replicate j x ++ List.replicate (n - j) 0))) ∧ Hid (Below wq.heap.size wq wr)) (fun i _ => n - (intOf i).toNat)
  case atStart => exact ⟨1, Nat.le_refl _, h1, rfl, HG2, HB2⟩
  case round =>
    clear HG2 HB2
    obtain ⟨j, hj1, hjn, rfl, HGj, HBj⟩ := hrel
    by_cases hlt : j < n
    · have d1 : ¬ (n < j) := by omega
      have d2 : (0 : Int) ≤ (j : Int) := by omega
      have d3 : (j : Int) ≤ (n : Int) := by omega
      go_upto_region 9 with fail
      obtain ⟨K, hK⟩ : ∃ K, K = min j (n - j) := ⟨_, rfl⟩
      have hrs := rep_splice x n j hjn
      rw [← hK] at hrs
      have d4 : ¬ n = j := by omega
      refine wp_region_freeM (P := Try.prog) 8 7 (by decide) wr (fun oq => match oq with
          | 0 => .int .i64 (j : Int)
          | 1 => .slice (some ⟨G, 0, none⟩) n n
          | 2 => .int .i64 (j : Int)
          | 3 => .slice (some ⟨G, j, none⟩) (n - j) (n - j)
          | 4 => .slice (some ⟨G, 0, none⟩) n n
          | 5 => .int .i64 (j : Int)
          | 6 => .slice (some ⟨G, 0, none⟩) j n
          | 7 => goInt (K : Nat)
          | _ => undef) (fun w' => Blk w' G 3 (zv (List.replicate (j + K) x ++ List.replicate (n - (j + K)) 0)) ∧ Below wq.heap.size wq w') (by kernel_rfl) (by kernel_rfl) ?bl ?pb ?steps ?fin
      case bl => exact (Below.refl _ _).drew
      case pb => exact fun a b ⟨h1, h2⟩ hb => ⟨h1.below hb h1.lt, h2.trans (hb.mono h2.size)⟩
      case steps =>
        intro vals
        simp only [List.take_succ_cons, List.take_zero, freeStepsM, Act.put, List.setIfInBounds_toArray, List.set_cons_zero, List.set_cons_succ, Nat.reduceAdd, Nat.reduceEqDiff, reduceIte]
        refine ⟨fun w8 hG hW => ?_, fun w8 hG hW => ?_, fun w8 hG hW => ?_, fun w8 hG hW => ?_, fun w8 hG hW => ?_, fun w8 hG hW => ?_, fun w8 hG hW => ?_, fun w8 hG hW => ?_, trivial⟩
        · clear hW
          refine stepAt_value rfl rfl rfl (.int .i64 (j : Int)) w8 ?_ ⟨rfl, Below.refl _ _⟩
          go_simp
        · clear hW
          refine stepAt_value rfl rfl rfl (.slice (some ⟨G, 0, none⟩) n n) w8 ?_ ⟨rfl, Below.refl _ _⟩
          go_simp
        · clear hW
          refine stepAt_value rfl rfl rfl (.int .i64 (j : Int)) w8 ?_ ⟨rfl, Below.refl _ _⟩
          go_simp
        · have q1 := hW 1 (by decide)
          simp only at q1
          have q2 := hW 2 (by decide)
          simp only at q2
          rw [q1, q2]
          clear hW
          refine stepAt_value rfl rfl rfl (.slice (some ⟨G, j, none⟩) (n - j) (n - j)) w8 ?_ ⟨rfl, Below.refl _ _⟩
          go_simp
        · clear hW
          refine stepAt_value rfl rfl rfl (.slice (some ⟨G, 0, none⟩) n n) w8 ?_ ⟨rfl, Below.refl _ _⟩
          go_simp
        · clear hW
          refine stepAt_value rfl rfl rfl (.int .i64 (j : Int)) w8 ?_ ⟨rfl, Below.refl _ _⟩
          go_simp
        · have q4 := hW 4 (by decide)
          simp only at q4
          have q5 := hW 5 (by decide)
          simp only at q5
          rw [q4, q5]
          clear hW
          refine stepAt_value rfl rfl rfl (.slice (some ⟨G, 0, none⟩) j n) w8 ?_ ⟨rfl, Below.refl _ _⟩
          go_simp
        · have q3 := hW 3 (by decide)
          simp only at q3
          have q6 := hW 6 (by decide)
          simp only at q6
          rw [q3, q6]
          clear hW
          have hgr : Blk w8 G 3 _ := HGj.out.below hG HGj.out.lt
          refine stepAt_wp rfl rfl fun KK hKK => ?_
          refine copy_oper rfl (.tmp 41) (.tmp 44) 42 42 rfl 3 Try.underlying42 Try.sizeI _ _ (n - j) (n - j) j n rfl rfl G j _ 3 hgr (zv (List.replicate K x)) ?_ (fun _ => ⟨rfl, ⟨G, 0, none⟩, rfl, ?_⟩) ?_ (zv_one _) wq.heap.size wq (HBj.out.trans (hG.mono HBj.out.size)) HBG.out ?_
          · rw [zv_length, List.length_replicate, hK]
          · intro i v hi
            rw [Addr.add_lit, Nat.zero_add, hgr.cell, zv_append]
            have hil := (List.getElem?_eq_some_iff.1 hi).1
            rw [zv_length, List.length_replicate] at hil
            rw [List.getElem?_append_left (by rw [zv_length, List.length_replicate]; omega), ← hi]
            simp only [zv, List.map_replicate, List.getElem?_replicate]
            rw [if_pos (by omega), if_pos hil]
          · simp only [zv_length, List.length_append, List.length_replicate]; omega
          intro w3 hG3 hB3
          rw [hrs] at hG3
          refine hKK _ _ rfl ⟨?_, hG3.out, hB3⟩
          exact congrArg (fun q : Nat => goInt (q : Int)) (by rw [zv_length, List.length_replicate])
      case fin =>
        intro vals w3 hV ⟨hG3, hB3⟩
        have q7 := hV 7 (by omega)
        simp only at q7
        have q0 := hV 0 (by omega)
        simp only at q0
        simp only [List.take_succ_cons, List.take_zero, List.drop_succ_cons, List.drop_zero, putAll, Act.put, List.setIfInBounds_toArray, List.set_cons_zero, List.set_cons_succ, Nat.reduceAdd]
        rw [q7, q0]
        clear hV q7 q0
        generalize vals 1 = y1
        generalize vals 2 = y2
        generalize vals 3 = y3
        generalize vals 4 = y4
        generalize vals 5 = y5
        generalize vals 6 = y6
        have HG3 := Lib.hid hG3
        have HB3 := Lib.hid hB3
        have HW := Lib.hid (show wrap64 ((j : Int) + (K : Int)) = ((j + K : Nat) : Int) by unfold wrap64; omega)
        have hK0 : 0 < K := by omega
        have hKn : j + K ≤ n := by omega
        clear hG3 hB3 hrs hK HGj HBj
        go_wp2_with fail
        go_roundw
        case rel => exact ⟨j + K, by omega, by omega, by first | rw [HW.out] | rw [Int.natCast_add], HG3, HB3⟩
        case measure => exact measK n j K _ (by first | exact HW.out | rw [Int.natCast_add]) hlt hK0
    · obtain rfl : j = n := by omega
      go_wp2_with fail
      go_ret
      have hfin := HGj.out
      rw [Nat.sub_self, List.replicate_zero, List.append_nil] at hfin
      have hw := hfin.wide wq.heap.size HBG.out (by simp; omega)
      simp only [List.length_replicate] at hw
      exact ⟨_, rfl, hw, HBj.out⟩
end Go.Proofs.Ytjodhagjfjgbcaa
