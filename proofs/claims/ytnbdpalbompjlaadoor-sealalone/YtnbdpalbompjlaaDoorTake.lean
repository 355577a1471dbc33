/-
  What take does.
-/
import Derived.Test.YtnbdpalbompjlaaDoorM5
namespace Go.Proofs.YtnbdpalbompjlaaDoor
open Go.RowKit
set_option maxRecDepth 10000

theorem Tryd.size5 : (Tryd.prog.info? 5).map (·.size) = some 1 := by kernel_rfl
theorem Tryd.size82 : (Tryd.prog.info? 82).map (·.size) = some 64 := by kernel_rfl

theorem sizeOf5 (w : World) : (sizeOf 5).run Tryd.prog w = .ok 1 w := by
  cases hq : Tryd.prog.info? 5 with
  | none => have h := Tryd.size5; rw [hq] at h; cases h
  | some i => have h := Tryd.size5; rw [hq] at h; simp at h; simp [sizeOf, typeInfo, hq, h]

theorem slice64_at (w : World) (g off n : Nat) (hn : n < 64) : (Instr.sliceAt 82 (.pointer (some ⟨g, off, none⟩)) (some (.int .i64 (n : Int))) none none).run Tryd.prog w = .ok (.slice (some ⟨g, off + n, none⟩) (64 - n) (64 - n)) w := by
  have h := run_sliceAt_array_l (P := Tryd.prog) w 82 ⟨g, off, none⟩ (by kernel_rfl) .i64 (n : Int) (by omega) (by
    have : Tryd.prog.arrayLen 82 = 64 := by kernel_rfl
    omega)
  rw [h, show Tryd.prog.arrayLen 82 = 64 by kernel_rfl, show Tryd.prog.elem 82 = 5 by kernel_rfl, sizeOf5]
  simp only [Result.andThen_ok, slicedAt, Int.toNat_natCast, Nat.mul_one]
  rw [if_neg (by omega), Addr.add_lit]

def strN : Value → Nat
  | .string s => s.size
  | _ => 0

theorem mix_list (w : World) (h ws : List Nat) (hT : Tabs w) (hh : h.length = 8) (hws : ws.length = 64) :
    Calls Tryd.prog 78 #[.agg (uv h).toArray, .agg (uv ws).toArray] w fun e w' => e = .returned (.agg (uv (mixed h ws)).toArray) ∧ Below w.heap.size w w' := by
  match h, hh with
  | [a0, a1, a2, a3, a4, a5, a6, a7], _ => exact mix_any w a0 a1 a2 a3 a4 a5 a6 a7 ws hT hws

theorem spread_in {w w' : World} (hb : Below w.heap.size w w') (B : List UInt8) (hB : B.length = 64) :
    Calls Tryd.prog 79 #[.agg (bv B).toArray] w' fun e w'' => e = .returned (.agg (uv (spw B 64)).toArray) ∧ Below w.heap.size w w'' :=
  (spread_any w' B hB).mono fun _ _ ⟨h1, h2⟩ => ⟨h1, hb.trans (h2.mono hb.size)⟩
theorem mix_in {w w' : World} (hb : Below w.heap.size w w') (h ws : List Nat) (hT : Tabs w) (hh : h.length = 8) (hws : ws.length = 64) :
    Calls Tryd.prog 78 #[.agg (uv h).toArray, .agg (uv ws).toArray] w' fun e w'' => e = .returned (.agg (uv (mixed h ws)).toArray) ∧ Below w.heap.size w w'' :=
  (mix_list w' h ws (hT.below hb hT.size) hh hws).mono fun _ _ ⟨h1, h2⟩ => ⟨h1, hb.trans (h2.mono hb.size)⟩

def TakeRel (w : World) (g : Nat) (bs l : List UInt8) (m : Nat) (x : Value) (wr : World) : Prop :=
  ∃ c t, l = c ++ t ∧ x = .string ⟨t.toArray⟩ ∧ (∃ h blk, StM wr g (bs ++ c) m h blk) ∧ Kept g w wr

set_option maxHeartbeats 4000000 in
theorem take_any (w : World) (g : Nat) (bs l : List UInt8) (hT : Tabs w) (hg : 2 ≤ g) (hs : St w g bs) (hl : l.length ≤ 100000) :
    Calls Tryd.prog 66 #[.pointer (some ⟨g, 0, none⟩), .string ⟨l.toArray⟩] w fun e w' => e = .returned (.tuple #[]) ∧ St w' g (bs ++ l) ∧ Kept g w w' := by
  obtain ⟨h, blk, hs⟩ := hs
  obtain ⟨m, hm⟩ : ∃ m, m = bs.length % 18446744073709551616 := ⟨_, rfl⟩
  rw [← hm] at hs
  have q73 := (hs.row.cell 73).trans (stc_73 hs.ok.wlen hs.ok.len)
  have f73 := hs.row.free 73
  have hz : (ByteArray.mk l.toArray).size = l.length := by simp [ByteArray.size]
  have hw : IntKind.u64.wrap (l.length : Int) = (l.length : Int) := by simp [IntKind.wrap, IntKind.bits, IntKind.signed]; omega
  have r1 := rule_add64
  have HS := Lib.hid hs
  have HT := Lib.hid hT
  have HM := Lib.hid hm
  clear hs hT hm
  go_enter Tryd.func66, Tryd.ntmps66
  go_wp2_with fail
  go_loopw [1] (fun x wr => TakeRel w g bs l (add64 m l.length) x wr) (fun x _ => strN x)
  case atStart =>
    have hs := HS.out
    refine ⟨[], l, rfl, rfl, ⟨h, blk, ?_, by rw [List.append_nil]; exact hs.ok⟩, (Kept.refl g w).setCell 73 _⟩
    rw [List.append_nil, ← stc_set73 hs.ok.wlen hs.ok.len]
    exact hs.row.set 73 _
  case round =>
    clear q73 f73 HS
    obtain ⟨c, t, hct, rfl, ⟨h, blk, hs⟩, hk⟩ := hrel
    by_cases ht : t = []
    · subst ht
      have hs' : St wr g (bs ++ l) := by
        have hlc : l = c := by rw [hct, List.append_nil]
        refine ⟨h, blk, ?_⟩
        rw [hlc, show (bs ++ c).length % 18446744073709551616 = add64 m c.length by rw [HM.out, add64, List.length_append]; omega]
        rw [hlc] at hs
        exact hs
      have HS := Lib.hid hs'
      clear hs hs' hct
      go_wp2_with fail
      go_end0
      exact ⟨rfl, HS.out, hk⟩
    · obtain ⟨n, hn⟩ : ∃ n, n = (bs ++ c).length % 64 := ⟨_, rfl⟩
      obtain ⟨k, hkk⟩ : ∃ k, min t.length (64 - n) = k := ⟨_, rfl⟩
      have htl : 0 < t.length := List.length_pos_iff.2 ht
      have hn64 : n < 64 := by omega
      have hk0 : 0 < k := by omega
      have hk1 : n + k ≤ 64 := by omega
      have hk2 : k ≤ t.length := by omega
      obtain ⟨S, hS⟩ : ∃ S : ByteArray, S = ⟨t.toArray⟩ := ⟨_, rfl⟩
      have hSz : S.size = t.length := by rw [hS]; simp [ByteArray.size]
      have hSne : S.toList.isEmpty = false := by
        rw [hS, ByteArray.toList_eq]
        simpa using ht
      rw [← hS]
      have q72 : wr.cell? ⟨g, 72, none⟩ = some (.int .i64 (n : Int)) := (hs.row.cell 72).trans (by rw [hn]; exact stc_72 hs.ok.wlen hs.ok.len)
      have hsl := fun w => slice64_at w g 8 n hn64
      have HS := Lib.hid hs
      have HK := Lib.hid hk
      have HN := Lib.hid hn
      have HKK := Lib.hid hkk
      have HSS := Lib.hid hS
      have HCT := Lib.hid hct
      clear hs hk hn hkk hS hct ht hz hw r1
      go_wp2_with fail
      refine wp_region_draws_tail 9 (by kernel_rfl) (by kernel_rfl) ?_
      simp only [List.take_succ_cons, List.take_zero, List.drop_succ_cons, List.drop_zero]
      repeat (go_big_quiet_step (fail))
      refine wpQuiet_nil ?_
      rintro _ ⟨nq, rfl⟩
      have hs2 : StM (wr.drewN nq) g (bs ++ c) (add64 m l.length) h blk := ⟨HS.out.row.drewN nq, HS.out.ok⟩
      have hk2' := HK.out.drewN nq
      generalize wr.drewN nq = w2 at hs2 hk2' ⊢
      clear HS HK q72 hsl
      have hfit : 8 + n + k ≤ (stc h blk ((bs ++ c).length % 64) (add64 m l.length)).length := by rw [stc_length hs2.ok.wlen hs2.ok.len]; omega
      refine wpList_copy_string rfl (.tmp 24) (.tmp 25) 86 9 rfl 5 Tryd.underlying86 Tryd.size5 g (8 + n) (64 - n) (64 - n) t k HKK.out rfl (by rw [← HSS.out]; rfl) _ 108 hs2.row hfit ?_
      have hrow := hs2.row.setRow (splice (stc h blk ((bs ++ c).length % 64) (add64 m l.length)) (8 + n) (bv (t.take k)))
      have htk : (t.take k).length = k := by rw [List.length_take]; omega
      rw [stc_spliceB hs2.ok.wlen hs2.ok.len n (t.take k) (by omega)] at hrow ⊢
      have hk3 := hk2'.setRow (stc h (splice blk n (t.take k)) ((bs ++ c).length % 64) (add64 m l.length)).toArray
      generalize w2.setRow g (stc h (splice blk n (t.take k)) ((bs ++ c).length % 64) (add64 m l.length)).toArray = w3 at hrow hk3 ⊢
      have hok := hs2.ok
      obtain ⟨B, hB⟩ : ∃ B, B = splice blk n (t.take k) := ⟨_, rfl⟩
      have hBl : B.length = 64 := by rw [hB, length_splice _ _ _ (by rw [hok.len]; omega)]; exact hok.len
      have hwl := hok.wlen
      rw [← HN.out, ← hB] at hrow
      clear hs2 hk2' hfit
      obtain ⟨nk, hnk⟩ : ∃ nk, nk = n + k := ⟨_, rfl⟩
      have enk : (n : Int) + (k : Int) = (nk : Int) := by omega
      have q72 := (hrow.cell 72).trans (stc_72 hwl hBl)
      have f72 := hrow.free 72
      have hkS : (k : Int) ≤ (S.size : Int) := by omega
      have hrow4 := hrow.set 72 (.int .i64 (nk : Int))
      rw [stc_set72 hwl hBl] at hrow4
      have hk4 := hk3.setCell 72 (.int .i64 (nk : Int))
      have hS2 : S.extract k t.length = ⟨(t.drop k).toArray⟩ := by
        rw [HSS.out]
        apply ByteArray.ext
        rw [ByteArray.data_extract, List.extract_toArray, List.extract_eq_take_drop, List.take_of_length_le (by rw [List.length_drop]; exact Nat.le_refl _)]
      have HR4 := Lib.hid hrow4
      have HK4 := Lib.hid hk4
      have HOK := Lib.hid hok
      have HBB := Lib.hid hB
      have HTK := Lib.hid htk
      have HNK := Lib.hid hnk
      have HS2 := Lib.hid hS2
      clear hrow hrow4 hk3 hk4 hok hB htk hnk hS2
      by_cases hfull : nk = 64
      · have d1 : (nk : Int) = 64 := by omega
        have hr4 : Blk (w3.setCell ⟨g, 72, none⟩ (.int .i64 64)) g 108 (stc h B 64 (add64 m l.length)) := by have hx := HR4.out; rw [hfull] at hx; exact hx
        have hk4 : Kept g w (w3.setCell ⟨g, 72, none⟩ (.int .i64 64)) := by have hx := HK4.out; rw [hfull] at hx; exact hx
        clear HR4 HK4
        have HR4 := Lib.hid hr4
        have HK4 := Lib.hid hk4
        clear hr4 hk4
        go_wp2_with fail
        generalize w3.setCell ⟨g, 72, none⟩ (.int .i64 64) = w4 at HR4 HK4 ⊢
        have hC36 : ∀ w', Below w4.heap.size w4 w' → ∀ j v, (uv h)[j]? = some v → w'.cell? ⟨g, 0 + j, none⟩ = some v := fun w' hw' j v hj => by
          rw [(HR4.out.below hw' HR4.out.lt).cell]
          exact stc_words j v hj
        have hC37 : ∀ w', Below w4.heap.size w4 w' → ∀ j v, (bv B)[j]? = some v → w'.cell? ⟨g, 8 + j, none⟩ = some v := fun w' hw' j v hj => by
          rw [(HR4.out.below hw' HR4.out.lt).cell]
          exact stc_blk hwl j v hj
        have HT4 := Lib.hid (HK4.out.tabs HT.out hg)
        refine wp_region_quiet_tail (C := fun w' => Below w4.heap.size w4 w') 11 (by kernel_rfl) (by kernel_rfl) (Below.refl _ _).drew ?_
        simp only [List.take_succ_cons, List.take_zero, List.drop_succ_cons, List.drop_zero]
        iterate 4 (go_big_quiet_step ((intro _; rfl)))
        refine BigFrame.wpQuiet_want rfl fun K hK => ?_
        refine quiet_load_cells 93 (.tmp 46) rfl g 0 (uv h) rfl 8 92 hC36 Tryd.underlying93 (by rw [uv_length, hwl]; exact Tryd.size93) (hK _ ?_)
        clear hK K
        simp only [Act.put, List.setIfInBounds_toArray, List.set_cons_zero, List.set_cons_succ]
        iterate 3 (go_big_quiet_step ((intro _; rfl)))
        refine BigFrame.wpQuiet_want rfl fun K hK => ?_
        refine quiet_load_cells 82 (.tmp 50) rfl g 8 (bv B) rfl 64 5 hC37 Tryd.underlying82 (by rw [bv_length, hBl]; exact Tryd.size82) (hK _ ?_)
        clear hK K
        simp only [Act.put, List.setIfInBounds_toArray, List.set_cons_zero, List.set_cons_succ]
        go_big_quiet_step ((intro hw'; exact spread_in hw' B hBl))
        go_big_quiet_step ((intro hw'; exact mix_in hw' h (spw B 64) HT4.out hwl (spw_length B 64)))
        refine wpQuiet_nil ?_
        intro w5 hb5
        obtain ⟨h', hh'⟩ : ∃ h', h' = mixed h (spw B 64) := ⟨_, rfl⟩
        rw [← hh']
        have hl' : h'.length = 8 := by rw [hh']; exact mixed_length _ _ hwl
        have hr5 := HR4.out.below hb5 HR4.out.lt
        have hk5 := HK4.out.below hb5
        have hr6 := hr5.setRow (splice (stc h B 64 (add64 m l.length)) 0 (uv h'))
        rw [stc_spliceW hwl hl'] at hr6
        have hk6 := hk5.setRow (stc h' B 64 (add64 m l.length)).toArray
        have HR5 := Lib.hid hr5
        have HSZ := Lib.hid (show (Tryd.prog.info? 93).map (·.size) = some (uv h').length by rw [uv_length, hl']; exact Tryd.size93)
        have HL := Lib.hid (show 0 + (uv h').length ≤ (stc h B 64 (add64 m l.length)).length by rw [stc_length hwl hBl, uv_length]; omega)
        have HSW := Lib.hid (stc_spliceW (blk := B) (n := 64) (m := add64 m l.length) hwl hl')
        have hr7 := hr6.set 72 (.int .i64 0)
        have hr7' : Blk ((w5.setRow g (stc h' B 64 (add64 m l.length)).toArray).setCell ⟨g, 72, none⟩ (.int .i64 0)) g 108 (stc h' B 0 (add64 m l.length)) := by
          have hx := stc_set72 (n := 64) (m := add64 m l.length) hl' hBl 0
          rw [← hx]; exact hr7
        have HK7 := Lib.hid (hk6.setCell 72 (.int .i64 0))
        have q72' := (hr6.cell 72).trans (stc_72 hl' hBl)
        have f72' := hr6.free 72
        have HR7 := Lib.hid hr7'
        have HH := Lib.hid hh'
        clear hr5 hk5 hr6 hk6 hr7 hr7' hh' HT4 hC36 hC37 q72 f72
        go_wp2_with ((with_reducible refine wpList_store_part ?_ 93 (.tmp 55) (.tmp 53) ?_ g 0 (uv h') ?_ ?_ 108 _ HR5.out HSZ.out HL.out (uv_one _) ?_); rfl; rfl; rfl; rfl; rw [HSW.out])
        rw [HS2.out]
        refine ⟨⟨c ++ t.take k, t.drop k, ?_, rfl, ⟨h', B, ?_, ?_⟩, HK7.out⟩, ?_⟩
        · rw [List.append_assoc, List.take_append_drop]; exact HCT.out
        · rw [← List.append_assoc, List.length_append, HTK.out, show ((bs ++ c).length + k) % 64 = 0 by have := HN.out; have := HNK.out; omega]
          exact HR7.out
        · have := HN.out
          have := HNK.out
          rw [← List.append_assoc, HH.out, HBB.out, HN.out]
          exact HOK.out.full (by rw [HTK.out]; omega)
        · simp only [strN]
          rw [hSz]
          simp [ByteArray.size]
          omega
      · have d1 : ¬ ((nk : Int) = 64) := by omega
        go_wp2_with fail
        rw [HS2.out]
        refine ⟨⟨c ++ t.take k, t.drop k, ?_, rfl, ⟨h, B, ?_, ?_⟩, HK4.out⟩, ?_⟩
        · rw [List.append_assoc, List.take_append_drop]; exact HCT.out
        · rw [← List.append_assoc, List.length_append, HTK.out, show ((bs ++ c).length + k) % 64 = nk by have := HN.out; have := HNK.out; omega]
          exact HR4.out
        · have := HN.out
          have := HNK.out
          rw [← List.append_assoc, HBB.out, HN.out]
          exact HOK.out.step (by rw [HTK.out]; omega)
        · simp only [strN]
          rw [hSz]
          simp [ByteArray.size]
          omega
end Go.Proofs.YtnbdpalbompjlaaDoor
