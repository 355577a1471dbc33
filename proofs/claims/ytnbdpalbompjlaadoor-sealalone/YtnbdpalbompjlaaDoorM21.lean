/-
  The texts SealPart, SealTag, SealCheck, SealSign, Seal1, one behind the other.
-/
import Derived.Test.YtnbdpalbompjlaaDoorM19
import Derived.Test.YtnbdpalbompjlaaDoorM8
import Derived.Test.YtnbdpalbompjlaaDoorM20
import Derived.Test.YtnbdpalbompjlaaDoorBuildRows
import Derived.Test.YtnbdpalbompjlaaDoorKey0
import Derived.Test.YtnbdpalbompjlaaDoorM7
import Derived.Test.YtnbdpalbompjlaaDoorM12
/-
  What seal.part answers.
-/
namespace Go.Proofs.YtnbdpalbompjlaaDoor
open Go.RowKit
set_option maxRecDepth 100000

/-- An empty message that was just made. -/
theorem zero_msg (w : World) : Blk (w.alloc (.cells zcells 32)) w.heap.size 32 (mc zeroMsg (.slice none 0 0)) := by
  have := Blk.new w 32 zcells
  rwa [show zcells.toList = mc zeroMsg (.slice none 0 0) from rfl] at this

set_option maxHeartbeats 4000000 in
theorem part_any (w : World) (M : Msg) (sl : Value) (hf : M.Fits) (hr : BRow w w.heap.size sl M.l) (who : Nat) :
    Calls Tryd.prog 37 #[.agg (mc M sl).toArray, .int .i64 (who : Int)] w fun e w' => ∃ su, e = .returned (.agg (mc (partM M who) su).toArray) ∧ BRow w' w'.heap.size su (partM M who).l ∧ Below w.heap.size w w' := by
  have HF := Lib.hid hf
  have hb0 : Below w.heap.size w ((w.alloc (.cells (mc M sl).toArray 32)).alloc (.cells zcells 32)) := ((Below.refl w.heap.size w).alloc (Nat.le_refl _) _).alloc (by simp) _
  have HM := Lib.hid (show Blk _ w.heap.size _ (mc M sl) from (Blk.new w 32 (mc M sl).toArray).alloc (.cells zcells 32))
  have hz := zero_msg (w.alloc (.cells (mc M sl).toArray 32))
  have HR := Lib.hid ((hr.keep hb0).more (show w.heap.size ≤ w.heap.size + 1 by omega))
  have HB := Lib.hid hb0
  have HO := Lib.hid hr.one
  obtain ⟨G, hG⟩ : ∃ G, G = w.heap.size := ⟨_, rfl⟩
  obtain ⟨Z, hZ⟩ : ∃ Z, Z = w.heap.size + 1 := ⟨_, rfl⟩
  rw [World.size_alloc, ← hZ] at hz
  rw [← hZ] at HR
  have HZ := Lib.hid hz
  have hZl : w.heap.size ≤ Z := by omega
  clear hb0 hz hr hf
  go_enter Tryd.func37, Tryd.ntmps37
  go_upto_region 1 with fail
  rw [zcells_lit]
  generalize (w.alloc (.cells (mc M sl).toArray 32)).alloc (.cells zcells 32) = w0 at HB HM HZ HR ⊢
  (try rw [← hZ])
  rw [← hG] at HM ⊢
  have HZl := Lib.hid hZl
  clear hG hZ hZl
  obtain ⟨c0, c1, c34, c35, c36⟩ := HM.out.msg HF.out
  by_cases k : M.k = 3
  · have HP := Lib.hid (partM_sum k who)
    rw [k] at c0
    have HMT := Lib.hid (fun j v hj => (HM.out.cell (2 + j)).trans (mc_T sl j v hj))
    clear k c34 c35 c36
    go_wp2_with (first
      | ((with_reducible refine wpList_load_root (.tmp 11) ?_ ?_ G 2 M.T ?_ HF.out.T HMT.out ?_); rfl; rfl; rfl)
      | ((with_reducible refine wpList_build_msg ?_ 32 #[(0, .const (.int .i64 2)), (1, .tmp 10), (2, .tmp 12), (3, .tmp 13)] ?_ (mc (voteM M who) (.slice none 0 0)).toArray ?_ ?_); rfl; rfl; (simp only [List.map_toArray, List.map_cons, List.map_nil]; exact built_vote 2 M.s who M.T HF.out.T))
      | ((with_reducible refine wpList_store_msg (.tmp 4) (.tmp 14) ?_ ?_ Z zeroMsg (voteM M who) (.slice none 0 0) (.slice none 0 0) ?_ ?_ ?_ zeroMsg_fits (voteM_fits HF.out who) ?_ ?_); rfl; rfl; rfl; rfl; exact HZ.out; rfl))
    refine ret_msg1 (g := Z) (M := voteM M who) (sl := .slice none 0 0) rfl rfl (HZ.out.setRow (mc (voteM M who) (.slice none 0 0))) (voteM_fits HF.out who) rfl ?_
    exact ⟨_, by rw [HP.out], by rw [HP.out]; exact BRow.nil _ _, below_setRow HB.out HZl.out _⟩
  · have HP := Lib.hid (partM_own k who)
    have hk : (M.k == 3) = false := by simpa using k
    clear c1 c34 c35 c36
    go_wp2_with (first
      | ((with_reducible refine wpList_load_msgG (.tmp 2) ?_ ?_ G M sl ?_ HM.out HF.out ?_); rfl; rfl; rfl)
      | ((with_reducible refine wpList_store_msg (.tmp 4) (.tmp 8) ?_ ?_ Z zeroMsg M (.slice none 0 0) sl ?_ ?_ ?_ zeroMsg_fits HF.out ?_ ?_); rfl; rfl; rfl; rfl; exact HZ.out; exact HO.out))
    refine ret_msg1 (g := Z) (M := M) (sl := sl) rfl rfl (HZ.out.setRow (mc M sl)) HF.out rfl ?_
    exact ⟨_, by rw [HP.out], by rw [HP.out]; exact (HR.out.keep (below_setRow (Below.refl Z w0) (Nat.le_refl _) _)).more (Nat.le_trans (Nat.le_of_lt HZ.out.lt) (below_setRow (Below.refl Z w0) (Nat.le_refl _) _).size), below_setRow HB.out HZl.out _⟩
end Go.Proofs.YtnbdpalbompjlaaDoor

/-
  What seal.Tag answers.
-/
namespace Go.Proofs.YtnbdpalbompjlaaDoor
open Go.RowKit
set_option maxRecDepth 100000

theorem Tryd.tagInfo : (Tryd.prog.info? 30).map (fun i => (i.zero, i.size, i.bytes)) = some (some (.agg (zb 16).toArray), 16, 16) := by kernel_rfl
theorem Tags.sole {a : List UInt8} (h : a.length = 16) : Tags [a] := fun x hx => by simp at hx; rw [hx]; exact h
/-- Tags that were just written out. -/
theorem lies_tags (w : World) (ts : List (List UInt8)) : Lies (w.alloc (.cells (tv ts).toArray 30)) (w.alloc (.cells (tv ts).toArray 30)).heap.size (some ⟨w.heap.size, 0, none⟩) w.heap.size 0 (tv ts) := by
  have h := Blk.new w 30 (tv ts).toArray
  exact ⟨fun _ => rfl, fun _ => h.lt, fun j u hj => by rw [Nat.zero_add, h.cell]; exact hj⟩
theorem rows_tv (ts : List (List UInt8)) : (ts.map bv).flatten = tv ts := by rw [tv, List.flatMap_def]
/-- 'make' of elements of k cells, none of them in use yet. -/
theorem wide_room (k : Nat) (w : World) (z : Array Value) (m : Nat) (e : TypeId) (hm : m ≤ maxLen) : Wide k (w.alloc (.cells (madeCells z (m * k)) e)) w.heap.size (.slice (some ⟨w.heap.size, 0, none⟩) 0 m) [] := by
  have hs : (madeCells z (m * k)).size = m * k := size_madeCells _ _
  refine ⟨0, m, w.heap.size, 0, _, rfl, by simp, Nat.zero_le _, hm, fun _ => rfl, fun a ha => by cases ha; exact Nat.le_refl _, fun _ => by simp, fun j u hj => by simp at hj, fun j hj => ?_, fun j hj => ?_⟩
  · rw [Nat.zero_add, World.cell?_alloc_mark, Array.getElem?_eq_getElem (by omega)]; rfl
  · rw [Nat.zero_add]
    simp [World.frozen?_alloc_mark w (madeCells z (m * k)) e 0 0 j]

/-- Sixteen bytes 0. -/
def z16 : Array Value := #[.int .u8 0, .int .u8 0, .int .u8 0, .int .u8 0, .int .u8 0, .int .u8 0, .int .u8 0, .int .u8 0, .int .u8 0, .int .u8 0, .int .u8 0, .int .u8 0, .int .u8 0, .int .u8 0, .int .u8 0, .int .u8 0]
theorem z16_lit : (#[.int .u8 0, .int .u8 0, .int .u8 0, .int .u8 0, .int .u8 0, .int .u8 0, .int .u8 0, .int .u8 0, .int .u8 0, .int .u8 0, .int .u8 0, .int .u8 0, .int .u8 0, .int .u8 0, .int .u8 0, .int .u8 0] : Array Value) = z16 := rfl
theorem z16_blk (w : World) : Blk (w.alloc (.cells z16 30)) w.heap.size 30 (bv (List.replicate 16 0)) := by
  have := Blk.new w 30 z16
  rwa [show z16.toList = bv (List.replicate 16 0) from rfl] at this
theorem zeros16 : (List.replicate 16 (0 : UInt8)).length = 16 := by simp

set_option maxHeartbeats 8000000 in
theorem sealTag_any (w : World) (hT : Tabs w) {cs : List Value} {C : Nat} {vs : List (Int × ByteArray)} (hc : CfgOk w cs C vs) (M : Msg) (sl : Value) (hf : M.Fits) (hr : BRow w w.heap.size sl M.l) :
    Calls Tryd.prog 13 #[.agg cs.toArray, .agg (mc M sl).toArray] w fun e w' => e = .returned (.tuple #[.agg (bv (sealT vs (comm M.s vs.length C) M)).toArray, .bool (spk (comm M.s vs.length C) M).isSome]) ∧ Below w.heap.size w w' := by
  obtain ⟨i0, hi0, hz0, hz1, hz2⟩ := info_parts Tryd.tagInfo
  have hzc : (Value.agg (zb 16).toArray).cells.size = 16 := by rfl
  have HF := Lib.hid hf
  have hb0 : Below w.heap.size w (((w.alloc (.cells cs.toArray 24)).alloc (.cells (mc M sl).toArray 32)).alloc (.cells z16 30)) := (((Below.refl w.heap.size w).alloc (Nat.le_refl _) _).alloc (by simp) _).alloc (by simp; omega) _
  have HC0 := Lib.hid (show Blk _ w.heap.size _ cs from ((Blk.new w 24 cs.toArray).alloc (.cells (mc M sl).toArray 32)).alloc (.cells z16 30))
  have HM0 := Lib.hid (show Blk _ (w.heap.size + 1) _ (mc M sl) from (Blk.newAt (w.alloc (.cells cs.toArray 24)) 32 (mc M sl).toArray (w.heap.size + 1) (by simp)).alloc (.cells z16 30))
  have hz := z16_blk ((w.alloc (.cells cs.toArray 24)).alloc (.cells (mc M sl).toArray 32))
  rw [World.size_alloc, World.size_alloc] at hz
  have HZ0 := Lib.hid (show Blk _ (w.heap.size + 2) _ _ from hz)
  have HR0 := Lib.hid (hr.bits hb0)
  have HCF0 := Lib.hid (hc.below hb0)
  have HT0 := Lib.hid (hT.below hb0 hT.size)
  have HB0 := Lib.hid hb0
  obtain ⟨K, hK⟩ : ∃ K, K = comm M.s vs.length C := ⟨_, rfl⟩
  have HK := Lib.hid hK.symm
  have HKL := Lib.hid (show K.length ≤ 1000 by have h1 := comm_le M.s vs.length C; have h2 := hc.vals; rw [hK]; omega)
  have HKM := Lib.hid (show ∀ x ∈ K, x < vs.length by intro x hx; rw [hK] at hx; exact comm_mem M.s vs.length C x hx)
  have HVZ := Lib.hid hc.vals
  have HKEY := Lib.hid hc.keys
  rw [← hK]
  obtain ⟨ST, hST⟩ : ∃ ST, ST = sealT vs K M := ⟨_, rfl⟩
  obtain ⟨Y, hY⟩ : ∃ Y, Y = (spk K M).isSome := ⟨_, rfl⟩
  have HSE := Lib.hid hST
  have HYE := Lib.hid hY
  rw [← hST, ← hY]
  clear hK hb0 hz hr hc hf hT hST hY
  obtain ⟨Z, hZ⟩ : ∃ Z, Z = w.heap.size + 2 := ⟨_, rfl⟩
  obtain ⟨G, hG⟩ : ∃ G, G = w.heap.size + 1 := ⟨_, rfl⟩
  obtain ⟨D, hD⟩ : ∃ D, D = w.heap.size := ⟨_, rfl⟩
  go_enter Tryd.func13, Tryd.ntmps13
  go_upto_region 1 with fail
  rw [z16_lit]
  generalize ((w.alloc (.cells cs.toArray 24)).alloc (.cells (mc M sl).toArray 32)).alloc (.cells z16 30) = w0 at HB0 HC0 HM0 HZ0 HR0 HCF0 HT0 ⊢
  rw [← hZ] at HZ0
  rw [← hG] at HM0
  rw [← hD] at HC0
  (try simp only [Nat.add_assoc, Nat.reduceAdd])
  rw [← hZ, ← hG, ← hD]
  have HZl := Lib.hid (show w.heap.size ≤ Z by omega)
  clear hG hD hZ
  go_wp2_with (first
    | ((with_reducible refine wpList_load_msgG (.tmp 3) ?_ ?_ G M sl ?_ HM0.out HF.out ?_); rfl; rfl; rfl)
    | ((with_reducible refine wpList_load_cfg (.tmp 2) ?_ ?_ D cs ?_ HC0.out HCF0.out.len ?_); rfl; rfl; rfl))
  refine (speakers_any w0 HT0.out HCF0.out M sl HF.out HR0.out).mono ?_
  rintro e w1 ⟨v, rfl, hh, hb1⟩
  rw [HK.out] at hh
  rw [HK.out]
  have HC1 := Lib.hid (HC0.out.below hb1 HC0.out.lt)
  have HM1 := Lib.hid (HM0.out.below hb1 HM0.out.lt)
  have HZ1 := Lib.hid (HZ0.out.below hb1 HZ0.out.lt)
  have HR1 := Lib.hid (HR0.out.bits hb1)
  have HCF1 := Lib.hid (HCF0.out.below hb1)
  have HT1 := Lib.hid (HT0.out.below hb1 HT0.out.size)
  have HB1 := Lib.hid (HB0.out.trans (hb1.mono HB0.out.size))
  clear hb1 HC0 HM0 HZ0 HR0 HCF0 HT0 HB0
  cases hS : spk K M with
  | none =>
    have HSR := Lib.hid (show ST = List.replicate 16 0 by rw [HSE.out, sealT, hS])
    have HYR := Lib.hid (show Y = false by rw [HYE.out, hS]; rfl)
    rw [hS] at hh
    rw [show (none : Option (List Nat)).isSome = false from rfl]
    have hv : ∃ ao cap, v = .slice ao 0 cap := by
      obtain ⟨ao, cap, b, off, h1, h2⟩ := hh.lies
      exact ⟨ao, cap, h1⟩
    obtain ⟨ao, cap, rfl⟩ := hv
    clear hh hS
    go_wp2_with ((with_reducible refine wpList_store_tag (.tmp 4) (.tmp 19) ?_ ?_ Z (List.replicate 16 0) (List.replicate 16 0) ?_ ?_ HZ1.out zeros16 zeros16 ?_); rfl; rfl; rfl; rfl)
    refine ret_tag (g := Z) (l := List.replicate 16 0) rfl rfl (HZ1.out.setRow (bv (List.replicate 16 0))) zeros16 rfl ?_
    exact ⟨by rw [HSR.out, HYR.out]; rfl, below_setRow HB1.out HZl.out _⟩
  | some l =>
    rw [hS] at hh
    simp only [Option.getD_some, Option.isSome_some] at hh ⊢
    obtain ⟨TS, hTS⟩ : ∃ TS, TS = tagsM vs M l := ⟨_, rfl⟩
    have HST := Lib.hid (show ST = joined TS by rw [HSE.out, sealT, hS, hTS])
    have HYR := Lib.hid (show Y = true by rw [HYE.out, hS]; rfl)
    have HTG := Lib.hid (show Tags TS by rw [hTS]; exact tagsM_Tags vs M l)
    have HTL := Lib.hid (show TS.length = l.length by rw [hTS]; simp [tagsM])
    have HTA := Lib.hid (show ∀ (j x : Nat), l[j]? = some x → TS[j]? = some (tagOne vs M x) by intro j x hx; rw [hTS, tagsM, List.getElem?_map, hx]; rfl)
    have HLM := Lib.hid (show ∀ x ∈ l, x < vs.length by intro x hx; exact HKM.out x (spk_mem hS x hx))
    have hn1 := spk_len hS HKL.out
    have hgd := spk_good hS
    have HGD := Lib.hid hgd
    obtain ⟨ao, cap, b, off, rfl, hl⟩ := hh.lies
    rw [iv_length]
    have HL := Lib.hid hl
    obtain ⟨n, hn⟩ : ∃ n, n = l.length := ⟨_, rfl⟩
    have HN0 := Lib.hid hn.symm
    rw [← hn] at hn1 ⊢
    have hmk := fun W => run_makeSlice (P := Tryd.prog) W 49 30 i0 (.agg (zb 16).toArray) Tryd.underlying49 hi0 hz0 .i64 .i64 0 (n : Int) (by omega) (by omega) (by rw [hz1]; simp; omega) (by rw [hz2]; omega) (by omega)
    simp only [Int.toNat_natCast, Int.toNat_zero, hz1] at hmk
    have hm1 := hmk w1
    have hwd := wide_room 16 w1 (Value.agg (zb 16).toArray).cells n 30 (by unfold maxLen; omega)
    have hbk : Below w1.heap.size w1 (w1.alloc (.cells (madeCells (Value.agg (zb 16).toArray).cells (n * 16)) 30)) := (Below.refl _ _).alloc (Nat.le_refl _) _
    generalize w1.alloc (.cells (madeCells (Value.agg (zb 16).toArray).cells (n * 16)) 30) = w2 at hm1 hwd hbk
    have HWD := Lib.hid (show Wide 16 w2 w1.heap.size _ (tv (TS.take 0)) from hwd)
    have HBK := Lib.hid hbk
    clear hmk hwd hbk hn hl hh hS hgd hTS
    go_wp2_with fail
    clear hm1
    go_loopw [8, 25] (fun v i wr => ∃ (j : Nat), j ≤ n ∧ i = .int .i64 j ∧ Hid (Wide 16 wr w1.heap.size v (tv (TS.take j))) ∧ Hid (Below w1.heap.size w1 wr)) (fun _ i _ => n - (intOf i).toNat)
    case atStart => exact ⟨0, Nat.zero_le _, rfl, HWD, HBK⟩
    case round =>
      clear HWD HBK
      obtain ⟨j, hj, rfl, HWD, HBel⟩ := hrel
      have HCr := Lib.hid (HC1.out.below HBel.out HC1.out.lt)
      have HMr := Lib.hid (HM1.out.below HBel.out HM1.out.lt)
      have HZr := Lib.hid (HZ1.out.below HBel.out HZ1.out.lt)
      have HBr := Lib.hid (HB1.out.trans (HBel.out.mono HB1.out.size))
      by_cases hlt : j < n
      · obtain ⟨x, hx⟩ : ∃ x, l[j]? = some x := ⟨_, List.getElem?_eq_getElem (by rw [HN0.out]; exact hlt)⟩
        obtain ⟨ha, c0⟩ := HL.out.int HBel.out hx
        subst ha
        have hxl := HLM.out x (List.mem_of_getElem? hx)
        obtain ⟨vv, hvv⟩ : ∃ vv, vs[x]? = some vv := ⟨_, List.getElem?_eq_getElem hxl⟩
        obtain ⟨st, KB⟩ := vv
        obtain ⟨cb, co, cc, hhd, hval⟩ := HCF1.out.head
        have HHD := Lib.hid hhd
        have HVS := Lib.hid (fun w' hb => (hval w' hb x (st, KB) hvv).2)
        have HKB := Lib.hid (show (⟨(keyAt vs x).toArray⟩ : ByteArray) = KB from (keyAt_some hvv).symm)
        have hvz := HVZ.out
        have hks := HKEY.out (st, KB) (List.mem_of_getElem? hvv)
        have hx6 : x ≤ 65535 := by omega
        obtain ⟨KL, hKL⟩ : ∃ KL, KL = keyAt vs x := ⟨_, rfl⟩
        rw [← hKL] at HKB
        have HKZ := Lib.hid (show KL.length ≤ 100000 by
          have h := hks
          rw [show (st, KB).2 = KB from rfl, ← HKB.out] at h
          simp [ByteArray.size] at h
          omega)
        obtain ⟨T, hTT⟩ : ∃ T, T = tagOne vs M x := ⟨_, rfl⟩
        have hTl : T.length = 16 := by rw [hTT]; exact tag_length _ _
        have HTake := Lib.hid (show TS.take (j + 1) = TS.take j ++ [T] by rw [List.take_add_one, HTA.out j x hx, hTT]; rfl)
        obtain ⟨N, hN⟩ : ∃ N, N = partM M x := ⟨_, rfl⟩
        have HN := Lib.hid hN.symm
        have HNR := Lib.hid (show N.Ranged by rw [hN]; exact msg_ranged (partM_good HGD.out hx6) (partM_fits HF.out x))
        have HNL := Lib.hid (show N.l.length ≤ 1000 by rw [hN, partM_bits HGD.out HF.out x]; simp)
        obtain ⟨PL, hPL⟩ : ∃ PL, PL = msgP N := ⟨_, rfl⟩
        obtain ⟨PB, hPB⟩ : ∃ PB : ByteArray, (⟨PL.toArray⟩ : ByteArray) = PB := ⟨_, rfl⟩
        have HPB0 := Lib.hid hPB
        rw [hPL] at hPB
        have HPB := Lib.hid hPB
        have HPZ := Lib.hid (show ∀ s ∈ [PL], s.length ≤ 100000 by
          intro s hs
          have h := partM_length HGD.out HF.out hx6
          rw [List.mem_singleton] at hs
          rw [hs, hPL, hN]
          omega)
        have HTT := Lib.hid (show tag KL [PL].flatten = T by rw [hTT, tagOne, hKL, hPL, hN]; simp)
        have HRr := Lib.hid (HR1.out.bits HBel.out)
        have hxn : x < vs.length := hxl
        obtain ⟨nv, hnv⟩ : ∃ nv, nv = vs.length := ⟨_, rfl⟩
        rw [← hnv] at HHD hxn hvz
        clear hx hxl hvv hhd hval hks hTT hN hPL hPB hKL hx6 hnv
        go_upto_region 8 with fail
        clear c0
        refine wp_region_free (P := Tryd.prog) 14 (fun w' => Below wr.heap.size wr w') (fun oq v w' => match oq with
            | 0 => v = u8
            | 1 => v = .pointer (some ⟨D, 0, none⟩)
            | 2 => v = .slice (some ⟨cb, co, none⟩) nv cc
            | 3 => v = .int .i64 (x : Int)
            | 4 => v = .pointer (some ⟨cb, co + x * 2, none⟩)
            | 5 => v = .pointer (some ⟨cb, co + x * 2 + 1, none⟩)
            | 6 => v = .string KB
            | 7 => v = .agg (mc M sl).toArray
            | 8 => v = .int .i64 (x : Int)
            | 9 => ∃ su, v = .agg (mc N su).toArray ∧ BRow w' w'.heap.size su N.l
            | 10 => v = .string PB
            | 11 => ∃ g, v = .slice (some ⟨g, 0, none⟩) 1 1 ∧ StrAt w' w'.heap.size (some ⟨g, 0, none⟩) g 0 [PL]
            | 12 => v = .agg (bv T).toArray
            | 13 => ∃ g, v = .slice (some ⟨g, 0, none⟩) 1 1 ∧ Lies w' w'.heap.size (some ⟨g, 0, none⟩) g 0 (tv [T])
            | _ => True) (by kernel_rfl) (by kernel_rfl) (Below.refl _ _).drew ?gb ?vb ?steps ?fin
        case gb => exact fun a b h1 h2 => h1.trans (h2.mono h1.size)
        case vb =>
          intro oq v a b h hb
          match oq with
          | 0 => exact h
          | 1 => exact h
          | 2 => exact h
          | 3 => exact h
          | 4 => exact h
          | 5 => exact h
          | 6 => exact h
          | 7 => exact h
          | 8 => exact h
          | 9 => obtain ⟨su, h1, h2⟩ := h; exact ⟨su, h1, h2.bits hb⟩
          | 10 => exact h
          | 11 => obtain ⟨g, h1, h2⟩ := h; exact ⟨g, h1, (h2.keep hb).more hb.size⟩
          | 12 => exact h
          | 13 => obtain ⟨g, h1, h2⟩ := h; exact ⟨g, h1, h2.below hb⟩
          | _ + 14 => trivial
        case steps =>
          intro vals
          simp only [List.take_succ_cons, List.take_zero, freeSteps, Act.put, List.setIfInBounds_toArray, List.set_cons_zero, List.set_cons_succ, Nat.reduceAdd]
          refine ⟨fun w8 hG hW => ?_, fun w8 hG hW => ?_, fun w8 hG hW => ?_, fun w8 hG hW => ?_, fun w8 hG hW => ?_, fun w8 hG hW => ?_, fun w8 hG hW => ?_, fun w8 hG hW => ?_, fun w8 hG hW => ?_, fun w8 hG hW => ?_, fun w8 hG hW => ?_, fun w8 hG hW => ?_, fun w8 hG hW => ?_, fun w8 hG hW => ?_, trivial⟩
          · clear hW
            refine stepAt_value rfl rfl rfl (u8) w8 ?_ ⟨rfl, Below.refl _ _⟩
            go_simp
          · clear hW
            refine stepAt_value rfl rfl rfl (.pointer (some ⟨D, 0, none⟩)) w8 ?_ ⟨rfl, Below.refl _ _⟩
            go_simp
          · have q1 := hW 1 (by decide)
            simp only at q1
            rw [q1]
            clear hW
            refine stepAt_value rfl rfl rfl (.slice (some ⟨cb, co, none⟩) nv cc) w8 ?_ ⟨rfl, Below.refl _ _⟩
            have hh := ((HCr.out.below hG HCr.out.lt).cell 0).trans HHD.out
            go_simp
          · clear hW
            refine stepAt_value rfl rfl rfl (.int .i64 (x : Int)) w8 ?_ ⟨rfl, Below.refl _ _⟩
            go_simp
          · have q2 := hW 2 (by decide)
            simp only at q2
            have q3 := hW 3 (by decide)
            simp only at q3
            rw [q2, q3]
            clear hW
            refine stepAt_value rfl rfl rfl (.pointer (some ⟨cb, co + x * 2, none⟩)) w8 ?_ ⟨rfl, Below.refl _ _⟩
            go_simp
          · have q4 := hW 4 (by decide)
            simp only at q4
            rw [q4]
            clear hW
            refine stepAt_value rfl rfl rfl (.pointer (some ⟨cb, co + x * 2 + 1, none⟩)) w8 ?_ ⟨rfl, Below.refl _ _⟩
            go_simp
          · have q5 := hW 5 (by decide)
            simp only at q5
            rw [q5]
            clear hW
            refine stepAt_value rfl rfl rfl (.string KB) w8 ?_ ⟨rfl, Below.refl _ _⟩
            have hh := HVS.out w8 (HBel.out.trans (hG.mono HBel.out.size))
            go_simp
          · clear hW
            exact stepAt_load_msg rfl rfl rfl (.tmp 3) rfl G M sl rfl (HMr.out.below hG HMr.out.lt) HF.out ⟨rfl, Below.refl _ _⟩
          · clear hW
            refine stepAt_value rfl rfl rfl (.int .i64 (x : Int)) w8 ?_ ⟨rfl, Below.refl _ _⟩
            go_simp
          · have q7 := hW 7 (by decide)
            simp only at q7
            have q8 := hW 8 (by decide)
            simp only at q8
            rw [q7, q8]
            clear hW
            refine stepAt_call rfl rfl rfl 37 #[.agg (mc M sl).toArray, .int .i64 (x : Int)] (by go_simp) ((part_any w8 M sl HF.out (HRr.out.bits hG) x).mono fun e w' ⟨su, h1, h2, h3⟩ => ⟨_, h1, ⟨su, by rw [HN.out], by rw [HN.out] at h2; exact h2⟩, h3⟩)
          · obtain ⟨su, hsu, hrow⟩ := hW 9 (by decide)
            rw [hsu]
            clear hW
            refine stepAt_call rfl rfl rfl 36 #[.agg (mc N su).toArray] (by go_simp) ((wplain_any w8 N su HNR.out hrow HNL.out).mono fun e w' ⟨h1, h2⟩ => ⟨_, h1, by rw [HPB.out], h2⟩)
          · have q10 := hW 10 (by decide)
            simp only at q10
            rw [q10]
            clear hW
            refine stepAt_value rfl rfl rfl (.slice (some ⟨w8.heap.size, 0, none⟩) 1 1) (w8.alloc (.cells #[.string PB] 9)) ?_ ⟨⟨_, rfl, by rw [← HPB0.out]; exact str_one w8 PL⟩, (Below.refl _ _).alloc (Nat.le_refl _) _⟩
            go_simp
          · have q6 := hW 6 (by decide)
            simp only at q6
            obtain ⟨g, hg, hsa⟩ := hW 11 (by decide)
            rw [q6, hg]
            clear hW
            rw [← HKB.out]
            refine stepAt_call rfl rfl rfl 35 #[.string ⟨KL.toArray⟩, .slice (some ⟨g, 0, none⟩) 1 1] (by go_simp) ((macOf_any w8 KL (some ⟨g, 0, none⟩) 1 1 g 0 [PL] (HT1.out.below (HBel.out.trans (hG.mono HBel.out.size)) HT1.out.size) HKZ.out rfl (by omega) hsa HPZ.out).mono fun e w' ⟨h1, h2⟩ => ⟨_, h1, congrArg (fun l : List UInt8 => Value.agg (bv l).toArray) HTT.out, h2⟩)
          · have q12 := hW 12 (by decide)
            simp only at q12
            rw [q12]
            clear hW
            refine stepAt_build_rows rfl rfl rfl 49 30 1 _ rfl i0 (.agg (zb 16).toArray) (s := 16) (by omega) ([T].map bv) (by simp [bv_length, hTl]) Tryd.underlying49 hi0 hz0 hz1 rfl (by omega) (by omega) rfl ⟨⟨_, rfl, ?_⟩, (Below.refl _ _).alloc (Nat.le_refl _) _⟩
            rw [rows_tv]
            exact lies_tags w8 [T]
        case fin =>
          intro vals w8 hG hV
          have q0 : vals 0 = u8 := hV 0 (by omega)
          obtain ⟨g, q13, hls⟩ := hV 13 (by omega)
          simp only [List.take_succ_cons, List.take_zero, List.drop_succ_cons, List.drop_zero, putAll, Act.put, List.setIfInBounds_toArray, List.set_cons_zero, List.set_cons_succ, Nat.reduceAdd]
          rw [q0, q13]
          have HWr := Lib.hid (HWD.out.below hG)
          have HSrc := Lib.hid (hls.src 1 49 30 Tryd.underlying49 (n := 1) (k := 16) (by rw [tv_length _ (Tags.sole hTl)]; rfl) (tv_one _) (by omega) (P := Tryd.prog))
          have HB8 := Lib.hid (HBel.out.trans (hG.mono HBel.out.size))
          have HVL := Lib.hid (show (tv (TS.take j)).length ≤ 16000 by
            rw [tv_length _ (HTG.out.take j), List.length_take]
            have := HTL.out
            rw [HN0.out] at this
            omega)
          clear hV q0 q13 hG hls
          generalize vals 1 = x1
          generalize vals 2 = x2
          generalize vals 3 = x3
          generalize vals 4 = x4
          generalize vals 5 = x5
          generalize vals 6 = x6
          generalize vals 7 = x7
          generalize vals 8 = x8
          generalize vals 9 = x9
          generalize vals 10 = x10
          generalize vals 11 = x11
          generalize vals 12 = x12
          go_wp2_with (at_builtin; refine wpList_append_wide rfl _ _ 49 49 rfl rfl HWr.out (by omega) 30 i0 (.agg (zb 16).toArray) 16 Tryd.underlying49 hi0 hz0 hz1 hz2 hzc _ rfl 1 (tv [T]) HSrc.out ?e2 ?e3 ?e4 ?_)
          case e2 => have := HVL.out; unfold maxLen; omega
          case e3 => have := HVL.out; omega
          case e4 => exact HB8.out.size
          intro v2 w9 hh hg
          have HW9 := Lib.hid (show Wide 16 w9 w1.heap.size v2 (tv (TS.take (j + 1))) by rw [HTake.out, tv_append]; exact hh)
          have HB9 := Lib.hid (HB8.out.trans (hg.belowW HWr.out HB8.out.size))
          clear hh hg HSrc HWr
          go_wp2_with fail
          go_roundw
          case rel => exact ⟨j + 1, by omega, by go_num, HW9, HB9⟩
          case measure => simp [intOf]; omega
      · have hJn : j = n := by omega
        obtain ⟨sao, sn, scap, sb, soff, rfl, hsl, hlies⟩ := HWD.out.lies
        have hsn : TS.length = sn := by
          have h1 := tv_length _ (HTG.out.take j)
          rw [List.take_of_length_le (by rw [HTL.out, HN0.out]; omega)] at h1 hsl
          omega
        rw [List.take_of_length_le (by rw [HTL.out, HN0.out]; omega)] at hlies
        have HLS := Lib.hid hlies
        have HSN := Lib.hid hsn
        have hnn : sn ≤ 100000 := by have := HTL.out; rw [HN0.out] at this; omega
        have hJt : (joined TS).length = 16 := joined_length TS
        have HJ := Lib.hid (join_any wr sao sn scap sb soff TS HTG.out hsn hnn hlies)
        clear hsl hlies hsn HWD hJn
        obtain ⟨J, hJ⟩ : ∃ J, joined TS = J := ⟨_, rfl⟩
        rw [hJ] at HJ hJt
        have HJE := Lib.hid hJ
        clear hJ
        go_wp2_with fail
        refine HJ.out.mono ?_
        rintro e w3 ⟨rfl, hb3⟩
        have HZ3 := Lib.hid (HZr.out.below hb3 HZr.out.lt)
        have HB3 := Lib.hid (HBr.out.trans (hb3.mono HBr.out.size))
        clear hb3 HJ
        go_wp2_with ((with_reducible refine wpList_store_tag (.tmp 4) (.tmp 46) ?_ ?_ Z (List.replicate 16 0) J ?_ ?_ HZ3.out zeros16 hJt ?_); rfl; rfl; rfl; rfl)
        refine ret_tag (g := Z) (l := J) rfl rfl (HZ3.out.setRow (bv J)) hJt rfl ?_
        exact ⟨by rw [HST.out, HJE.out, HYR.out]; rfl, below_setRow HB3.out HZl.out _⟩
end Go.Proofs.YtnbdpalbompjlaaDoor

/-
  What seal.Check answers.
-/
namespace Go.Proofs.YtnbdpalbompjlaaDoor
open Go.RowKit
set_option maxRecDepth 100000

set_option maxHeartbeats 4000000 in
theorem check_any (w : World) (hT : Tabs w) {cs : List Value} {C : Nat} {vs : List (Int × ByteArray)} (hc : CfgOk w cs C vs) (M : Msg) (sl : Value) (hf : M.Fits) (hr : BRow w w.heap.size sl M.l) :
    Calls Tryd.prog 16 #[.agg cs.toArray, .agg (mc M sl).toArray] w fun e w' => e = .returned (.bool (sealC vs (comm M.s vs.length C) M)) ∧ Below w.heap.size w w' := by
  have HF := Lib.hid hf
  have HC0 := Lib.hid ((Blk.new w 24 cs.toArray).alloc (.cells (mc M sl).toArray 32))
  have HM0 := Lib.hid (Blk.newAt (w.alloc (.cells cs.toArray 24)) 32 (mc M sl).toArray (w.heap.size + 1) (by simp))
  have hb0 : Below w.heap.size w ((w.alloc (.cells cs.toArray 24)).alloc (.cells (mc M sl).toArray 32)) := ((Below.refl w.heap.size w).alloc (Nat.le_refl _) _).alloc (by simp) _
  have HR0 := Lib.hid (hr.bits hb0)
  have HCF0 := Lib.hid (hc.below hb0)
  have HB0 := Lib.hid hb0
  have HTGC := Lib.hid (sealTag_any _ (hT.below hb0 hT.size) HCF0.out M sl hf HR0.out)
  obtain ⟨K, hK⟩ : ∃ K, K = comm M.s vs.length C := ⟨_, rfl⟩
  rw [← hK] at HTGC ⊢
  have hsl := sealT_length vs K M
  have hsc : sealC vs K M = ((spk K M).isSome && (sealT vs K M == M.G)) := rfl
  obtain ⟨ST, hST⟩ : ∃ ST, sealT vs K M = ST := ⟨_, rfl⟩
  obtain ⟨Y, hY⟩ : ∃ Y, (spk K M).isSome = Y := ⟨_, rfl⟩
  obtain ⟨SC, hSC⟩ : ∃ SC, sealC vs K M = SC := ⟨_, rfl⟩
  rw [hST, hY, hSC] at hsc
  rw [hST, hY] at HTGC
  rw [hST] at hsl
  rw [hSC]
  have HSC := Lib.hid hsc
  clear hK hb0 hr hc hf hT hST hY hSC hsc
  obtain ⟨G, hG⟩ : ∃ G, G = w.heap.size + 1 := ⟨_, rfl⟩
  obtain ⟨D, hD⟩ : ∃ D, D = w.heap.size := ⟨_, rfl⟩
  go_enter Tryd.func16, Tryd.ntmps16
  go_upto_region 1 with fail
  generalize (w.alloc (.cells cs.toArray 24)).alloc (.cells (mc M sl).toArray 32) = w0 at HB0 HC0 HM0 HR0 HCF0 HTGC ⊢
  rw [← hG] at HM0 ⊢
  rw [← hD] at HC0 ⊢
  clear hG hD
  go_wp2_with (first
    | ((with_reducible refine wpList_load_msgG (.tmp 3) ?_ ?_ G M sl ?_ HM0.out HF.out ?_); rfl; rfl; rfl)
    | ((with_reducible refine wpList_load_cfg (.tmp 2) ?_ ?_ D cs ?_ HC0.out HCF0.out.len ?_); rfl; rfl; rfl))
  refine HTGC.out.mono ?_
  rintro e w1 ⟨rfl, hb1⟩
  have HM1 := Lib.hid (HM0.out.below hb1 HM0.out.lt)
  have HB1 := Lib.hid (HB0.out.trans (hb1.mono HB0.out.size))
  have HZ1 := Lib.hid (z16_blk w1)
  have HM2 := Lib.hid (HM1.out.alloc (.cells z16 30))
  have HB2 := Lib.hid (HB1.out.alloc HB1.out.size (.cells z16 30))
  have HZ3 := Lib.hid (HZ1.out.setRow (bv ST))
  have hne : G ≠ w1.heap.size := by have := HM1.out.lt; omega
  have HM3 := Lib.hid (HM2.out.setRow_other (bv ST).toArray hne)
  have HB3 := Lib.hid (below_setRow HB2.out HB1.out.size (bv ST).toArray)
  obtain ⟨w3, hw3⟩ : ∃ x, (w1.alloc (.cells z16 30)).setRow w1.heap.size (bv ST).toArray = x := ⟨_, rfl⟩
  rw [hw3] at HZ3 HM3 HB3
  have HW3 := Lib.hid hw3
  clear hb1 HC0 HM0 HR0 HCF0 HB0 hw3 hne HM1 HM2 HB1 HB2 HTGC
  go_upto_region 2 with ((with_reducible refine wpList_store_tag (.tmp 5) (.tmp 11) ?_ ?_ w1.heap.size (List.replicate 16 0) ST ?_ ?_ ?_ zeros16 hsl ?_); rfl; rfl; rfl; rfl; exact HZ1.out)
  rw [z16_lit, HW3.out]
  clear HW3 HZ1
  generalize w1.heap.size = Z at HZ3 ⊢
  have HTM := Lib.hid (fun j v hj => (HM3.out.cell (37 + j)).trans (mc_G HF.out sl j v hj))
  have HTZ := Lib.hid (show ∀ (j : Nat) (v : Value), (bv ST)[j]? = some v → w3.cell? ⟨Z, 0 + j, none⟩ = some v from fun j v hj => by rw [Nat.zero_add]; exact (HZ3.out.cell j).trans hj)
  have hte := tag_eq w3 ST M.G hsl HF.out.G
  cases Y with
  | false =>
    rw [Bool.false_and] at HSC
    clear hte
    go_wp2_with fail
    go_ret
    exact ⟨by rw [HSC.out]; rfl, HB3.out⟩
  | true =>
    rw [Bool.true_and] at HSC
    rw [← HSC.out] at hte
    go_wp2_with (first
      | ((with_reducible refine wpList_load_tag (.tmp 5) ?_ ?_ Z 0 ST ?_ hsl HTZ.out ?_); rfl; rfl; rfl)
      | ((with_reducible refine wpList_load_tag (.tmp 16) ?_ ?_ G 37 M.G ?_ HF.out.G HTM.out ?_); rfl; rfl; rfl))
    go_ret
    exact ⟨rfl, HB3.out⟩
end Go.Proofs.YtnbdpalbompjlaaDoor

/-
  What slices.Clone of a row and seal.Sign answer.
-/
namespace Go.Proofs.YtnbdpalbompjlaaDoor
open Go.RowKit
set_option maxRecDepth 100000

theorem BRow.lies {w : World} {B : Nat} {ao : Option Addr} {n cap : Nat} {l : List Bool} (h : BRow w B (.slice ao n cap) l) : l.length = n ∧ ∃ b off, Lies w B ao b off (ov l) := by
  obtain ⟨ao', cap', b, off, he, q1, q2, q3, q4, q5⟩ := h
  cases he
  exact ⟨rfl, b, off, fun h0 => q3 (by simpa [ov] using h0), fun h0 => q4 (by simpa [ov] using h0), fun j u hj => by
    simp only [ov, List.getElem?_map, Option.map_eq_some_iff] at hj
    obtain ⟨y, hy, rfl⟩ := hj
    exact q5 j y hy⟩

theorem Held.other {w w' : World} {base : Nat} {v : Value} {xs : List Value} (h : Held w base v xs) (hs : w.heap.size ≤ w'.heap.size) (hb : ∀ g, base ≤ g → w'.heap[g]? = w.heap[g]?) : Held w' base v xs := by
  obtain ⟨n, cap, g, off, ao, rfl, h⟩ := h
  exact ⟨n, cap, g, off, ao, rfl, h.carry hs fun hc => hb g (h.own _ (h.addr hc))⟩
theorem eql_nil (w : World) (ao : Option Addr) (n cap : Nat) : (binOp .eql 28 (.slice ao n cap) (.slice none 0 0)).run Tryd.prog w = .ok (.bool ao.isNone) w := by
  have h := run_equal_slice_nil (P := Tryd.prog) w 28 4 ao n cap Tryd.underlying28
  simp only [binOp]
  simp [h]

set_option maxHeartbeats 4000000 in
theorem clone_any (w : World) (sl : Value) (l : List Bool) (hr : BRow w w.heap.size sl l) (hn : l.length ≤ 1000) :
    Calls Tryd.prog 41 #[sl] w fun e w' => ∃ v, e = .returned v ∧ Held w' w.heap.size v (ov l) ∧ Below w.heap.size w w' := by
  obtain ⟨i0, hi0, hz0, hz1, hz2⟩ := info_parts Tryd.infoB
  obtain ⟨ao, cap, rfl⟩ := hr.form
  obtain ⟨_, b, off, hl⟩ := hr.lies
  cases ao with
  | none =>
    have h0 : l = [] := by
      apply Classical.byContradiction
      intro h
      have h1 : 0 < (ov l).length := by simp [ov]; exact List.length_pos_iff.2 h
      cases hl.addr h1
    subst h0
    have heq := eql_nil w none 0 cap
    clear hl hr
    go_enter Tryd.func41, Tryd.ntmps41
    go_wp2_with fail
    go_ret
    exact ⟨_, rfl, Held.nil _ _, Below.refl _ _⟩
  | some ad =>
    have HL := Lib.hid hl
    have HH := Lib.hid (show Held (w.alloc (.cells #[] 4)) w.heap.size (.slice (some ⟨w.heap.size, 0, none⟩) 0 0) [] from held_new w 4 [] 0 rfl (by unfold maxLen; omega))
    have hb1 : Below w.heap.size w (w.alloc (.cells #[] 4)) := (Below.refl _ _).alloc (Nat.le_refl _) _
    have HB1 := Lib.hid hb1
    have HSrc := Lib.hid ((hl.keep hb1).src cap 28 4 Tryd.underlying28 (n := l.length) (k := 1) (by simp [ov]) (by intro u hu; simp only [ov, List.mem_map] at hu; obtain ⟨x, _, rfl⟩ := hu; rfl) (by omega) (P := Tryd.prog))
    obtain ⟨n, hnn⟩ : ∃ n, n = l.length := ⟨_, rfl⟩
    rw [← hnn] at HSrc hn ⊢
    have HN := Lib.hid hnn
    have heq := eql_nil w (some ad) n cap
    clear hl hr hb1 hnn
    go_enter Tryd.func41, Tryd.ntmps41
    go_wp2_with (at_builtin; refine wpList_append_held rfl _ _ 28 28 rfl rfl HH.out 4 i0 (.bool false) 1 Tryd.underlying28 hi0 hz0 hz1 hz2 rfl _ rfl n (ov l) HSrc.out ?e2 ?e3 ?e4 ?_)
    case e2 => unfold maxLen; simp; omega
    case e3 => first | omega | (simp; omega)
    all_goals (try exact HB1.out.size)
    intro v2 w3 hh hg
    have HB3 := Lib.hid (show Below w.heap.size w w3 from HB1.out.trans (hg.below HH.out HB1.out.size))
    have HR3 := Lib.hid (show Held w3 w.heap.size v2 (ov l) by simpa using hh)
    clear hh hg HSrc HH
    go_wp2_with fail
    go_ret
    exact ⟨v2, rfl, HR3.out, HB3.out⟩

/-- A message with its tag; an empty one, if nobody speaks. -/
def signM (vs : List (Int × ByteArray)) (K : List Nat) (M : Msg) : Msg := if (spk K M).isSome = true then { M with G := sealT vs K M } else zeroMsg
theorem signM_fits {vs : List (Int × ByteArray)} {K : List Nat} {M : Msg} (h : M.Fits) : (signM vs K M).Fits := by
  unfold signM
  split
  · exact ⟨h.T, sealT_length vs K M, h.b⟩
  · exact zeroMsg_fits
theorem signM_bits {vs : List (Int × ByteArray)} {K : List Nat} {M : Msg} : (signM vs K M).l.length ≤ M.l.length := by
  unfold signM
  split
  · exact Nat.le_refl _
  · simp [zeroMsg]

set_option maxHeartbeats 8000000 in
theorem sign_any (w : World) (hT : Tabs w) {cs : List Value} {C : Nat} {vs : List (Int × ByteArray)} (hc : CfgOk w cs C vs) (M : Msg) (sl : Value) (hf : M.Fits) (hr : BRow w w.heap.size sl M.l) :
    Calls Tryd.prog 21 #[.agg cs.toArray, .agg (mc M sl).toArray] w fun e w' => ∃ su, e = .returned (.tuple #[.agg (mc (signM vs (comm M.s vs.length C) M) su).toArray, .bool (spk (comm M.s vs.length C) M).isSome]) ∧ BRow w' w'.heap.size su (signM vs (comm M.s vs.length C) M).l ∧ Below w.heap.size w w' := by
  have HF := Lib.hid hf
  have HC0 := Lib.hid (show Blk _ w.heap.size _ cs from ((Blk.new w 24 cs.toArray).alloc (.cells (mc M sl).toArray 32)).alloc (.cells zcells 32))
  have HM0 := Lib.hid (show Blk _ (w.heap.size + 1) _ (mc M sl) from (Blk.newAt (w.alloc (.cells cs.toArray 24)) 32 (mc M sl).toArray (w.heap.size + 1) (by simp)).alloc (.cells zcells 32))
  have hz := zero_msg ((w.alloc (.cells cs.toArray 24)).alloc (.cells (mc M sl).toArray 32))
  rw [World.size_alloc, World.size_alloc] at hz
  have HZ0 := Lib.hid (show Blk _ (w.heap.size + 2) _ _ from hz)
  have hb0 : Below w.heap.size w (((w.alloc (.cells cs.toArray 24)).alloc (.cells (mc M sl).toArray 32)).alloc (.cells zcells 32)) := (((Below.refl w.heap.size w).alloc (Nat.le_refl _) _).alloc (by simp) _).alloc (by simp; omega) _
  have HRK := Lib.hid (hr.keep hb0)
  have HR0 := Lib.hid (hr.bits hb0)
  have HCF0 := Lib.hid (hc.below hb0)
  have HB0 := Lib.hid hb0
  have HTGC := Lib.hid (sealTag_any _ (hT.below hb0 hT.size) HCF0.out M sl hf HR0.out)
  obtain ⟨K, hK⟩ : ∃ K, K = comm M.s vs.length C := ⟨_, rfl⟩
  rw [← hK] at HTGC ⊢
  have hsl := sealT_length vs K M
  obtain ⟨ST, hST⟩ : ∃ ST, sealT vs K M = ST := ⟨_, rfl⟩
  obtain ⟨Y, hY⟩ : ∃ Y, (spk K M).isSome = Y := ⟨_, rfl⟩
  obtain ⟨SM, hSM⟩ : ∃ SM, signM vs K M = SM := ⟨_, rfl⟩
  have HSM := Lib.hid (show SM = if Y = true then { M with G := ST } else zeroMsg by rw [← hSM, signM, hY, hST])
  have HLN := Lib.hid (show Y = true → M.l.length ≤ 1000 by
    intro y
    rw [y] at hY
    obtain ⟨l, hl⟩ := Option.isSome_iff_exists.1 hY
    have := msg_bits (spk_good hl)
    omega)
  rw [hST, hY] at HTGC
  rw [hST] at hsl
  rw [hSM, hY]
  obtain ⟨ao, cap, hform⟩ := hr.form
  have HSL := Lib.hid hform
  clear hK hb0 hr hc hf hT hST hY hSM hz hform
  obtain ⟨Z, hZ⟩ : ∃ Z, Z = w.heap.size + 2 := ⟨_, rfl⟩
  obtain ⟨G, hG⟩ : ∃ G, G = w.heap.size + 1 := ⟨_, rfl⟩
  obtain ⟨D, hD⟩ : ∃ D, D = w.heap.size := ⟨_, rfl⟩
  have hGZ : G ≠ Z := by omega
  have HGl := Lib.hid (show w.heap.size ≤ G by omega)
  have HZl := Lib.hid (show w.heap.size ≤ Z by omega)
  have HGZ := Lib.hid hGZ
  go_enter Tryd.func21, Tryd.ntmps21
  go_upto_region 1 with fail
  rw [zcells_lit]
  generalize ((w.alloc (.cells cs.toArray 24)).alloc (.cells (mc M sl).toArray 32)).alloc (.cells zcells 32) = w0 at HB0 HC0 HM0 HZ0 HR0 HRK HCF0 HTGC ⊢
  rw [← hZ] at HZ0
  rw [← hG] at HM0
  rw [← hD] at HC0 HRK
  (try simp only [Nat.add_assoc, Nat.reduceAdd])
  rw [← hZ, ← hG, ← hD]
  have HDl := Lib.hid (show D ≤ G ∧ D ≤ Z by omega)
  clear hG hD hZ hGZ
  go_wp2_with (first
    | ((with_reducible refine wpList_load_msgG (.tmp 3) ?_ ?_ G M sl ?_ HM0.out HF.out ?_); rfl; rfl; rfl)
    | ((with_reducible refine wpList_load_cfg (.tmp 2) ?_ ?_ D cs ?_ HC0.out HCF0.out.len ?_); rfl; rfl; rfl))
  refine HTGC.out.mono ?_
  rintro e w1 ⟨rfl, hb1⟩
  have HM1 := Lib.hid (HM0.out.below hb1 HM0.out.lt)
  have HO1 := Lib.hid (HZ0.out.below hb1 HZ0.out.lt)
  have HRK1 := Lib.hid (HRK.out.keep (hb1.mono (Nat.le_trans HDl.out.1 (Nat.le_of_lt HM0.out.lt))))
  have HB1 := Lib.hid (HB0.out.trans (hb1.mono HB0.out.size))
  have HZ1 := Lib.hid (z16_blk w1)
  have HM2 := Lib.hid (HM1.out.alloc (.cells z16 30))
  have HO2 := Lib.hid (HO1.out.alloc (.cells z16 30))
  have hbt := below_setRow ((Below.refl w1.heap.size w1).alloc (Nat.le_refl _) (.cells z16 30)) (Nat.le_refl w1.heap.size) (bv ST).toArray
  have HZ3 := Lib.hid (HZ1.out.setRow (bv ST))
  have hne : G ≠ w1.heap.size := by have := HM1.out.lt; omega
  have hne2 : Z ≠ w1.heap.size := by have := HO1.out.lt; omega
  have HM3 := Lib.hid (HM2.out.setRow_other (bv ST).toArray hne)
  have HO3 := Lib.hid (HO2.out.setRow_other (bv ST).toArray hne2)
  have HRK3 := Lib.hid (HRK1.out.keep (hbt.mono (Nat.le_trans HDl.out.1 (Nat.le_of_lt HM1.out.lt))))
  have HB3 := Lib.hid (HB1.out.trans (hbt.mono HB1.out.size))
  obtain ⟨w3, hw3⟩ : ∃ x, (w1.alloc (.cells z16 30)).setRow w1.heap.size (bv ST).toArray = x := ⟨_, rfl⟩
  rw [hw3] at HZ3 HM3 HO3 HB3 HRK3
  have HW3 := Lib.hid hw3
  clear hb1 HC0 HM0 HZ0 HR0 HCF0 HB0 hw3 HM1 HM2 HO1 HO2 HB1 HTGC hbt HRK HRK1 hne2
  go_upto_region 2 with ((with_reducible refine wpList_store_tag (.tmp 6) (.tmp 12) ?_ ?_ w1.heap.size (List.replicate 16 0) ST ?_ ?_ ?_ zeros16 hsl ?_); rfl; rfl; rfl; rfl; exact HZ1.out)
  rw [z16_lit, HW3.out]
  have HTGne := Lib.hid hne
  clear HW3 HZ1 hne
  generalize w1.heap.size = T at HZ3 HTGne ⊢
  have HTZ := Lib.hid (show ∀ (j : Nat) (v : Value), (bv ST)[j]? = some v → w3.cell? ⟨T, 0 + j, none⟩ = some v from fun j v hj => by rw [Nat.zero_add]; exact (HZ3.out.cell j).trans hj)
  cases Y with
  | false =>
    go_wp2_with (first
      | ((with_reducible refine wpList_build_msg ?_ 32 #[] ?_ (mc zeroMsg (.slice none 0 0)).toArray ?_ ?_); rfl; rfl; exact msg_built0)
      | ((with_reducible refine wpList_store_msg (.tmp 4) (.tmp 16) ?_ ?_ Z zeroMsg zeroMsg (.slice none 0 0) (.slice none 0 0) ?_ ?_ ?_ zeroMsg_fits zeroMsg_fits ?_ ?_); rfl; rfl; rfl; rfl; exact HO3.out; rfl))
    refine ret_msg (g := Z) (M := zeroMsg) (sl := .slice none 0 0) rfl rfl (HO3.out.setRow (mc zeroMsg (.slice none 0 0))) zeroMsg_fits rfl ?_
    exact ⟨.slice none 0 0, by rw [HSM.out]; rfl, by rw [HSM.out]; exact BRow.nil _ _, below_setRow HB3.out HZl.out _⟩
  | true =>
    obtain ⟨N, hN⟩ : ∃ N, N = { M with G := ST } := ⟨_, rfl⟩
    have HSN := Lib.hid (show SM = N by rw [HSM.out, hN]; rfl)
    have HNF := Lib.hid (show N.Fits by rw [hN]; exact ⟨HF.out.T, hsl, HF.out.b⟩)
    have HNL := Lib.hid (show N.l = M.l by rw [hN])
    have HN36 := Lib.hid (show ∀ u : Value, (mc N sl).set 36 u = mc N u from fun u => mc_set36 HNF.out sl u N.l)
    have HM4 := Lib.hid (HM3.out.setRow (mc N sl))
    have HO4 := Lib.hid (HO3.out.setRow_other (mc N sl).toArray HGZ.out.symm)
    have hb4 := below_setRow HB3.out HGl.out (mc N sl).toArray
    have hr4 := HRK3.out.keep (below_setRow (Below.refl D w3) HDl.out.1 (mc N sl).toArray)
    obtain ⟨w4, hw4⟩ : ∃ x, w3.setRow G (mc N sl).toArray = x := ⟨_, rfl⟩
    rw [hw4] at HM4 HO4 hb4 hr4
    have HW4 := Lib.hid hw4
    have HB4 := Lib.hid hb4
    have hsz4 := Nat.le_trans HDl.out.1 (Nat.le_of_lt HM4.out.lt)
    have HCL := Lib.hid (clone_any w4 sl M.l (hr4.more hsz4) (HLN.out rfl))
    rw [HSL.out] at HCL
    have HEN := Lib.hid (show (mc { M with G := ST } sl).toArray = (mc N sl).toArray by rw [hN])
    clear hw4 hb4 hr4 hN hsz4 HRK3
    go_upto_region 5 with (first
      | ((with_reducible refine wpList_load_tag (.tmp 6) ?_ ?_ T 0 ST ?_ hsl HTZ.out ?_); rfl; rfl; rfl)
      | ((with_reducible refine wpList_store_tagM (.tmp 18) (.tmp 17) ?_ ?_ G M sl ST ?_ ?_ HM3.out HF.out hsl ?_); rfl; rfl; rfl; rfl))
    rw [HEN.out, HW4.out]
    obtain ⟨_, _, _, _, c36⟩ := HM4.out.msg HNF.out
    rw [HSL.out] at c36
    clear HM3 HO3 HB3 HZ3 HTZ
    go_wp2_with fail
    refine HCL.out.mono ?_
    rintro e w5 ⟨v, rfl, hr5, hb5⟩
    have HM5 := Lib.hid (HM4.out.below hb5 HM4.out.lt)
    have HO5 := Lib.hid (HO4.out.below hb5 HO4.out.lt)
    have HB5 := Lib.hid (HB4.out.trans (hb5.mono HB4.out.size))
    obtain ⟨vo, vc', hvf⟩ := hr5.brow.form
    have f36 := HM5.out.free 36
    have g36 := (HM5.out.msg HNF.out).2.2.2.2
    subst hvf
    have HG4 := Lib.hid HM4.out.lt
    have HZ4 := Lib.hid HO4.out.lt
    have hm6 := HM5.out.set 36 (.slice vo M.l.length vc')
    rw [HN36.out] at hm6
    have ho6 := HO5.out.other ⟨G, 36, none⟩ (.slice vo M.l.length vc') HGZ.out.symm
    have hv6 := hr5.other (w' := w5.setCell ⟨G, 36, none⟩ (.slice vo M.l.length vc')) (((Below.refl 0 w5).setCell (p := ⟨G, 36, none⟩) (Nat.zero_le _) _).size) (fun g hg => heap_setCell_other w5 ⟨G, 36, none⟩ g _ (by have := HG4.out; show g ≠ G; omega))
    have hb6 := HB5.out.setCell (p := ⟨G, 36, none⟩) HGl.out (.slice vo M.l.length vc')
    obtain ⟨w6, hw6⟩ : ∃ x, w5.setCell ⟨G, 36, none⟩ (.slice vo M.l.length vc') = x := ⟨_, rfl⟩
    rw [hw6] at hm6 ho6 hv6 hb6
    have HW6 := Lib.hid hw6
    have HM6 := Lib.hid hm6
    have HO6 := Lib.hid ho6
    have HV6 := Lib.hid hv6
    have HB6 := Lib.hid hb6
    clear hw6 hm6 ho6 hv6 hb6 hr5 hb5 c36 HCL HM4 HO4 HB4 HM5 HO5 HB5
    go_upto_region 6 with fail
    rw [HW6.out]
    clear f36 g36 HW6
    go_wp2_with (first
      | ((with_reducible refine wpList_load_msgG (.tmp 3) ?_ ?_ G N (.slice vo M.l.length vc') ?_ HM6.out HNF.out ?_); rfl; rfl; rfl)
      | ((with_reducible refine wpList_store_msg (.tmp 4) (.tmp 23) ?_ ?_ Z zeroMsg N (.slice none 0 0) (.slice vo M.l.length vc') ?_ ?_ ?_ zeroMsg_fits HNF.out ?_ ?_); rfl; rfl; rfl; rfl; exact HO6.out; rfl))
    have HV7 := HV6.out.other (w' := w6.setRow Z (mc N (.slice vo M.l.length vc')).toArray) ((below_setRow (Below.refl 0 w6) (Nat.zero_le _) _).size) (fun g hg => Go.setRow_other w6 Z g _ (by have := HZ4.out; omega))
    refine ret_msg (g := Z) (M := N) (sl := .slice vo M.l.length vc') rfl rfl (HO6.out.setRow (mc N (.slice vo M.l.length vc'))) HNF.out rfl ?_
    exact ⟨.slice vo M.l.length vc', by rw [HSN.out]; rfl, by rw [HSN.out, HNL.out]; exact HV7.brow, below_setRow HB6.out HZl.out _⟩
end Go.Proofs.YtnbdpalbompjlaaDoor

/-
  What plays no part in a message's tag: plain mathematics.
-/
namespace Go.Proofs.YtnbdpalbompjlaaDoor
open Go.RowKit
set_option maxRecDepth 10000

theorem bytes_comm (a b : List UInt8) : (a == b) = (b == a) := by rw [Bool.eq_iff_iff, beq_iff_eq, beq_iff_eq, eq_comm]
theorem good_own (M : Msg) (t : List UInt8) : msgGood { M with G := t } = msgGood M := rfl
theorem spk_tagless (K : List Nat) (M : Msg) (t : List UInt8) : spk K { M with G := t } = spk K M := rfl
theorem part_tagless (M : Msg) (t : List UInt8) (i : Nat) : msgP (partM { M with G := t } i) = msgP (partM M i) := by
  unfold partM
  by_cases k : M.k = 3
  · rw [if_pos (show ({ M with G := t } : Msg).k = 3 from k), if_pos k]; rfl
  · rw [if_neg (show ¬ ({ M with G := t } : Msg).k = 3 from k), if_neg k]; rfl
theorem tags_tagless (vs : List (Int × ByteArray)) (M : Msg) (t : List UInt8) (l : List Nat) : tagsM vs { M with G := t } l = tagsM vs M l := by
  unfold tagsM
  refine List.map_congr_left fun i _ => ?_
  rw [tagOne, tagOne, part_tagless]
theorem sealT_tagless (vs : List (Int × ByteArray)) (K : List Nat) (M : Msg) (t : List UInt8) : sealT vs K { M with G := t } = sealT vs K M := by
  unfold sealT
  rw [spk_tagless]
  split
  · rw [tags_tagless]
  · rfl
theorem votes_tagless (K : List Nat) (M : Msg) (t : List UInt8) : votesM K { M with G := t } = votesM K M := rfl
theorem sealC_tag (vs : List (Int × ByteArray)) (K : List Nat) (M : Msg) (t : List UInt8) : sealC vs K { M with G := t } = ((spk K M).isSome && (sealT vs K M == t)) := by
  rw [sealC, sealT_tagless, spk_tagless]
/-- What is signed is checked. -/
theorem signM_yes {vs : List (Int × ByteArray)} {K : List Nat} {M : Msg} (h : (spk K M).isSome = true) : signM vs K M = { M with G := sealT vs K M } := by rw [signM, if_pos h]
theorem sealC_sign {vs : List (Int × ByteArray)} {K : List Nat} {M : Msg} (h : (spk K M).isSome = true) : sealC vs K (signM vs K M) = true := by
  rw [signM_yes h, sealC_tag, h]; simp
end Go.Proofs.YtnbdpalbompjlaaDoor
