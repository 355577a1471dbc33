/-
  The texts RefTag8, RefCheck, one behind the other.
-/
import Derived.Test.YtnbdpalbompjlaaDoorM21
import Derived.Test.YtnbdpalbompjlaaDoorM19
import Derived.Test.YtnbdpalbompjlaaDoorRefTag
import Derived.Test.YtnbdpalbompjlaaDoorRefJoin
import Derived.Test.YtnbdpalbompjlaaDoorWRefB
import Derived.Test.YtnbdpalbompjlaaDoorLotsTk
/-
  What the reference's Tag answers.
-/
namespace Go.Proofs.YtnbdpalbompjlaaDoor
open Go.RowKit
set_option maxRecDepth 100000

/-- Who speaks in a message that is no sum: its Member. -/
theorem spk_own {K : List Nat} {M : Msg} {l : List Nat} (h : spk K M = some l) (k : M.k ≠ 3) : l = [M.m.toNat] := by
  have hg := spk_good h
  rcases msg_kinds hg with q | q | q
  · rw [spk_one hg q] at h
    split at h
    · cases h; rfl
    · cases h
  · rw [spk_two hg q] at h
    split at h
    · cases h; rfl
    · cases h
  · exact absurd q k

set_option maxHeartbeats 8000000 in
theorem rsealTag_any (w : World) {cs : List Value} {C : Nat} {vs : List (Int × ByteArray)} (hc : CfgOk w cs C vs) (M : Msg) (sl : Value) (hf : M.Fits) (hr : BRow w w.heap.size sl M.l) (hbl : M.l.length ≤ 500) :
    Calls Tryd.prog 14 #[.agg cs.toArray, .agg (mc M sl).toArray] w fun e w' => e = .returned (.tuple #[.agg (bv (sealT vs (comm M.s vs.length C) M)).toArray, .bool (spk (comm M.s vs.length C) M).isSome]) ∧ Below w.heap.size w w' := by
  obtain ⟨i0, hi0, hz0, hz1, hz2⟩ := info_parts Tryd.tagInfo
  have hzc : (Value.agg (zb 16).toArray).cells.size = 16 := by rfl
  have HF := Lib.hid hf
  have hb0 : Below w.heap.size w (((w.alloc (.cells cs.toArray 24)).alloc (.cells (mc M sl).toArray 32)).alloc (.cells z16 30)) := (((Below.refl w.heap.size w).alloc (Nat.le_refl _) _).alloc (by simp) _).alloc (by simp; omega) _
  have HC0 := Lib.hid (show Blk _ w.heap.size _ cs from ((Blk.new w 24 cs.toArray).alloc (.cells (mc M sl).toArray 32)).alloc (.cells z16 30))
  have HM0 := Lib.hid (show Blk _ (w.heap.size + 1) _ (mc M sl) from (Blk.newAt (w.alloc (.cells cs.toArray 24)) 32 (mc M sl).toArray (w.heap.size + 1) (by simp)).alloc (.cells z16 30))
  have hz := z16_blk ((w.alloc (.cells cs.toArray 24)).alloc (.cells (mc M sl).toArray 32))
  rw [World.size_alloc, World.size_alloc] at hz
  have HZ0 := Lib.hid (show Blk _ (w.heap.size + 2) _ _ from hz)
  have HR0 := Lib.hid (hr.bits hb0)
  have HCF0 := Lib.hid (hc.below hb0)
  have HB0 := Lib.hid hb0
  obtain ⟨K, hK⟩ : ∃ K, K = comm M.s vs.length C := ⟨_, rfl⟩
  have HK := Lib.hid hK.symm
  have HKL := Lib.hid (show K.length ≤ 1000 by have h1 := comm_le M.s vs.length C; have h2 := hc.vals; rw [hK]; omega)
  have HKM := Lib.hid (show ∀ x ∈ K, x < vs.length by intro x hx; rw [hK] at hx; exact comm_mem M.s vs.length C x hx)
  have HVZ := Lib.hid hc.vals
  have HKEY := Lib.hid hc.keys
  rw [← hK]
  obtain ⟨ST, hST⟩ : ∃ ST, ST = sealT vs K M := ⟨_, rfl⟩
  obtain ⟨Y, hY⟩ : ∃ Y, Y = (spk K M).isSome := ⟨_, rfl⟩
  have HSE := Lib.hid hST
  have HYE := Lib.hid hY
  rw [← hST, ← hY]
  clear hK hb0 hz hr hc hf hST hY
  obtain ⟨Z, hZ⟩ : ∃ Z, Z = w.heap.size + 2 := ⟨_, rfl⟩
  obtain ⟨G, hG⟩ : ∃ G, G = w.heap.size + 1 := ⟨_, rfl⟩
  obtain ⟨D, hD⟩ : ∃ D, D = w.heap.size := ⟨_, rfl⟩
  go_enter Tryd.func14, Tryd.ntmps14
  go_upto_region 1 with fail
  rw [z16_lit]
  generalize ((w.alloc (.cells cs.toArray 24)).alloc (.cells (mc M sl).toArray 32)).alloc (.cells z16 30) = w0 at HB0 HC0 HM0 HZ0 HR0 HCF0 ⊢
  rw [← hZ] at HZ0
  rw [← hG] at HM0
  rw [← hD] at HC0
  (try simp only [Nat.add_assoc, Nat.reduceAdd])
  rw [← hZ, ← hG, ← hD]
  have HZl := Lib.hid (show w.heap.size ≤ Z by omega)
  clear hG hD hZ
  go_wp2_with (first
    | ((with_reducible refine wpList_load_msgG (.tmp 3) ?_ ?_ G M sl ?_ HM0.out HF.out ?_); rfl; rfl; rfl)
    | ((with_reducible refine wpList_load_cfg (.tmp 2) ?_ ?_ D cs ?_ HC0.out HCF0.out.len ?_); rfl; rfl; rfl))
  refine (refspk_any w0 HCF0.out M sl HF.out HR0.out (by omega)).mono ?_
  rintro e w1 ⟨v, rfl, hh, hb1⟩
  rw [HK.out] at hh
  rw [HK.out]
  have HC1 := Lib.hid (HC0.out.below hb1 HC0.out.lt)
  have HM1 := Lib.hid (HM0.out.below hb1 HM0.out.lt)
  have HZ1 := Lib.hid (HZ0.out.below hb1 HZ0.out.lt)
  have HR1 := Lib.hid (HR0.out.bits hb1)
  have HCF1 := Lib.hid (HCF0.out.below hb1)
  have HB1 := Lib.hid (HB0.out.trans (hb1.mono HB0.out.size))
  clear hb1 HC0 HM0 HZ0 HR0 HCF0 HB0
  cases hS : spk K M with
  | none =>
    have HSR := Lib.hid (show ST = List.replicate 16 0 by rw [HSE.out, sealT, hS])
    have HYR := Lib.hid (show Y = false by rw [HYE.out, hS]; rfl)
    rw [hS] at hh
    rw [show (none : Option (List Nat)).isSome = false from rfl]
    have hv : ∃ ao cap, v = .slice ao 0 cap := by
      obtain ⟨ao, cap, b, off, h1, h2⟩ := hh.lies
      exact ⟨ao, cap, h1⟩
    obtain ⟨ao, cap, rfl⟩ := hv
    clear hh hS
    go_wp2_with ((with_reducible refine wpList_store_tag (.tmp 4) (.tmp 19) ?_ ?_ Z (List.replicate 16 0) (List.replicate 16 0) ?_ ?_ HZ1.out zeros16 zeros16 ?_); rfl; rfl; rfl; rfl)
    refine ret_tag (g := Z) (l := List.replicate 16 0) rfl rfl (HZ1.out.setRow (bv (List.replicate 16 0))) zeros16 rfl ?_
    exact ⟨by rw [HSR.out, HYR.out]; rfl, below_setRow HB1.out HZl.out _⟩
  | some l =>
    rw [hS] at hh
    simp only [Option.getD_some, Option.isSome_some] at hh ⊢
    obtain ⟨TS, hTS⟩ : ∃ TS, TS = tagsM vs M l := ⟨_, rfl⟩
    have HST := Lib.hid (show ST = joined TS by rw [HSE.out, sealT, hS, hTS])
    have HYR := Lib.hid (show Y = true by rw [HYE.out, hS]; rfl)
    have HTG := Lib.hid (show Tags TS by rw [hTS]; exact tagsM_Tags vs M l)
    have HTL := Lib.hid (show TS.length = l.length by rw [hTS]; simp [tagsM])
    have HTA := Lib.hid (show ∀ (j x : Nat), l[j]? = some x → TS[j]? = some (tagOne vs M x) by intro j x hx; rw [hTS, tagsM, List.getElem?_map, hx]; rfl)
    have HLM := Lib.hid (show ∀ x ∈ l, x < vs.length by intro x hx; exact HKM.out x (spk_mem hS x hx))
    have hn1 := spk_len hS HKL.out
    have hgd := spk_good hS
    have HGD := Lib.hid hgd
    have HM1f := HM1.out.msg HF.out
    by_cases k3 : M.k = 3
    · have hk3 : (M.k != 3) = false := by simpa using k3
      obtain ⟨ao, cap, b, off, rfl, hl⟩ := hh.lies
      rw [iv_length]
      have HL := Lib.hid hl
      obtain ⟨n, hn⟩ : ∃ n, n = l.length := ⟨_, rfl⟩
      have HN0 := Lib.hid hn.symm
      have HK3 := Lib.hid k3
      rw [← hn] at hn1 ⊢
      obtain ⟨c0, _, _, _, _⟩ := HM1f
      rw [k3] at c0
      clear hn hl hh hS hgd hTS k3 hk3
      go_wp2_with fail
      clear c0
      go_loopw [8, 35] (fun v i wr => ∃ (j : Nat), j ≤ n ∧ i = .int .i64 j ∧ Hid (Wide 16 wr w1.heap.size v (tv (TS.take j))) ∧ Hid (Below w1.heap.size w1 wr)) (fun _ i _ => n - (intOf i).toNat)
      case atStart => exact ⟨0, Nat.zero_le _, rfl, Lib.hid (wide_nil 16 w1 w1.heap.size), Lib.hid (Below.refl _ _)⟩
      case round =>
        obtain ⟨j, hj, rfl, HWD, HBel⟩ := hrel
        have HCr := Lib.hid (HC1.out.below HBel.out HC1.out.lt)
        have HMr := Lib.hid (HM1.out.below HBel.out HM1.out.lt)
        have HZr := Lib.hid (HZ1.out.below HBel.out HZ1.out.lt)
        have HBr := Lib.hid (HB1.out.trans (HBel.out.mono HB1.out.size))
        by_cases hlt : j < n
        · obtain ⟨x, hx⟩ : ∃ x, l[j]? = some x := ⟨_, List.getElem?_eq_getElem (by rw [HN0.out]; exact hlt)⟩
          obtain ⟨ha, c0⟩ := HL.out.int HBel.out hx
          subst ha
          have hxl := HLM.out x (List.mem_of_getElem? hx)
          obtain ⟨vvx, hvv⟩ : ∃ vvx, vs[x]? = some vvx := ⟨_, List.getElem?_eq_getElem hxl⟩
          obtain ⟨st, KB⟩ := vvx
          obtain ⟨cb, co, cc, hhd, hval⟩ := HCF1.out.head
          have HHD := Lib.hid hhd
          have HVS := Lib.hid (fun w' hb => (hval w' hb x (st, KB) hvv).2)
          have HKB := Lib.hid (show (⟨(keyAt vs x).toArray⟩ : ByteArray) = KB from (keyAt_some hvv).symm)
          have hvz := HVZ.out
          have hks := HKEY.out (st, KB) (List.mem_of_getElem? hvv)
          have hx6 : x ≤ 65535 := by omega
          obtain ⟨KL, hKL⟩ : ∃ KL, KL = keyAt vs x := ⟨_, rfl⟩
          rw [← hKL] at HKB
          have HKZ := Lib.hid (show KL.length ≤ 500 by
            have h := hks
            rw [show (st, KB).2 = KB from rfl, ← HKB.out] at h
            simpa [ByteArray.size] using h)
          obtain ⟨T, hTT⟩ : ∃ T, T = tagOne vs M x := ⟨_, rfl⟩
          have hTl : T.length = 16 := by rw [hTT]; exact tag_length _ _
          have HTake := Lib.hid (show TS.take (j + 1) = TS.take j ++ [T] by rw [List.take_add_one, HTA.out j x hx, hTT]; rfl)
          have HNR := Lib.hid (show (voteM M x).Ranged from msg_ranged (voteM_good HGD.out hx6) (voteM_fits HF.out x))
          obtain ⟨PL, hPL⟩ : ∃ PL, PL = msgP (voteM M x) := ⟨_, rfl⟩
          obtain ⟨PB, hPB⟩ : ∃ PB : ByteArray, (⟨PL.toArray⟩ : ByteArray) = PB := ⟨_, rfl⟩
          have HPB0 := Lib.hid hPB
          rw [hPL] at hPB
          have HPB := Lib.hid hPB
          have HPZ := Lib.hid (show PL.length ≤ 500 by
            have h := partM_length HGD.out HF.out hx6
            rw [partM_sum HK3.out] at h
            rw [hPL]
            omega)
          have HTT := Lib.hid (show tag KL PL = T by rw [hTT, tagOne, hKL, hPL, partM_sum HK3.out])
          have hxn : x < vs.length := hxl
          obtain ⟨nv, hnv⟩ : ∃ nv, nv = vs.length := ⟨_, rfl⟩
          rw [← hnv] at HHD hxn hvz
          clear hx hxl hvv hhd hval hks hTT hPL hPB hKL hx6 hnv
          go_upto_region 10 with fail
          clear c0
          refine wp_region_free (P := Tryd.prog) 16 (fun w' => Below wr.heap.size wr w') (fun oq v w' => match oq with
              | 0 => v = u8
              | 1 => v = .pointer (some ⟨D, 0, none⟩)
              | 2 => v = .slice (some ⟨cb, co, none⟩) nv cc
              | 3 => v = .int .i64 (x : Int)
              | 4 => v = .pointer (some ⟨cb, co + x * 2, none⟩)
              | 5 => v = .pointer (some ⟨cb, co + x * 2 + 1, none⟩)
              | 6 => v = .string KB
              | 7 => v = .pointer (some ⟨G, 1, none⟩)
              | 8 => v = .int .i64 M.s
              | 9 => v = .pointer (some ⟨G, 2, none⟩)
              | 10 => v = .agg (bv M.T).toArray
              | 11 => v = .int .i64 (x : Int)
              | 12 => v = .agg (mc (voteM M x) (.slice none 0 0)).toArray
              | 13 => v = .string PB
              | 14 => v = .agg (bv T).toArray
              | 15 => ∃ g, v = .slice (some ⟨g, 0, none⟩) 1 1 ∧ Lies w' w'.heap.size (some ⟨g, 0, none⟩) g 0 (tv [T])
              | _ => True) (by kernel_rfl) (by kernel_rfl) (Below.refl _ _).drew ?gb ?vb ?steps ?fin
          case gb => exact fun a b h1 h2 => h1.trans (h2.mono h1.size)
          case vb =>
            intro oq v a b h hb
            match oq with
            | 0 => exact h
            | 1 => exact h
            | 2 => exact h
            | 3 => exact h
            | 4 => exact h
            | 5 => exact h
            | 6 => exact h
            | 7 => exact h
            | 8 => exact h
            | 9 => exact h
            | 10 => exact h
            | 11 => exact h
            | 12 => exact h
            | 13 => exact h
            | 14 => exact h
            | 15 => obtain ⟨g, h1, h2⟩ := h; exact ⟨g, h1, h2.below hb⟩
            | _ + 16 => trivial
          case steps =>
            intro vals
            simp only [List.take_succ_cons, List.take_zero, freeSteps, Act.put, List.setIfInBounds_toArray, List.set_cons_zero, List.set_cons_succ, Nat.reduceAdd]
            refine ⟨fun w8 hG hW => ?_, fun w8 hG hW => ?_, fun w8 hG hW => ?_, fun w8 hG hW => ?_, fun w8 hG hW => ?_, fun w8 hG hW => ?_, fun w8 hG hW => ?_, fun w8 hG hW => ?_, fun w8 hG hW => ?_, fun w8 hG hW => ?_, fun w8 hG hW => ?_, fun w8 hG hW => ?_, fun w8 hG hW => ?_, fun w8 hG hW => ?_, fun w8 hG hW => ?_, fun w8 hG hW => ?_, trivial⟩
            · clear hW
              refine stepAt_value rfl rfl rfl (u8) w8 ?_ ⟨rfl, Below.refl _ _⟩
              go_simp
            · clear hW
              refine stepAt_value rfl rfl rfl (.pointer (some ⟨D, 0, none⟩)) w8 ?_ ⟨rfl, Below.refl _ _⟩
              go_simp
            · have q1 := hW 1 (by decide)
              simp only at q1
              rw [q1]
              clear hW
              refine stepAt_value rfl rfl rfl (.slice (some ⟨cb, co, none⟩) nv cc) w8 ?_ ⟨rfl, Below.refl _ _⟩
              have hh := ((HCr.out.below hG HCr.out.lt).cell 0).trans HHD.out
              go_simp
            · clear hW
              refine stepAt_value rfl rfl rfl (.int .i64 (x : Int)) w8 ?_ ⟨rfl, Below.refl _ _⟩
              go_simp
            · have q2 := hW 2 (by decide)
              simp only at q2
              have q3 := hW 3 (by decide)
              simp only at q3
              rw [q2, q3]
              clear hW
              refine stepAt_value rfl rfl rfl (.pointer (some ⟨cb, co + x * 2, none⟩)) w8 ?_ ⟨rfl, Below.refl _ _⟩
              go_simp
            · have q4 := hW 4 (by decide)
              simp only at q4
              rw [q4]
              clear hW
              refine stepAt_value rfl rfl rfl (.pointer (some ⟨cb, co + x * 2 + 1, none⟩)) w8 ?_ ⟨rfl, Below.refl _ _⟩
              go_simp
            · have q5 := hW 5 (by decide)
              simp only at q5
              rw [q5]
              clear hW
              refine stepAt_value rfl rfl rfl (.string KB) w8 ?_ ⟨rfl, Below.refl _ _⟩
              have hh := HVS.out w8 (HBel.out.trans (hG.mono HBel.out.size))
              go_simp
            · clear hW
              refine stepAt_value rfl rfl rfl (.pointer (some ⟨G, 1, none⟩)) w8 ?_ ⟨rfl, Below.refl _ _⟩
              go_simp
            · have q7 := hW 7 (by decide)
              simp only at q7
              rw [q7]
              clear hW
              refine stepAt_value rfl rfl rfl (.int .i64 M.s) w8 ?_ ⟨rfl, Below.refl _ _⟩
              obtain ⟨c0, c1, c34, c35, c36⟩ := (HMr.out.below hG HMr.out.lt).msg HF.out
              go_simp
            · clear hW
              refine stepAt_value rfl rfl rfl (.pointer (some ⟨G, 2, none⟩)) w8 ?_ ⟨rfl, Below.refl _ _⟩
              go_simp
            · have q9 := hW 9 (by decide)
              simp only at q9
              rw [q9]
              clear hW
              exact stepAt_load_cells rfl rfl rfl 26 (.tmp 48) rfl G 2 (bv M.T) rfl 32 5 (fun j v hj => ((HMr.out.below hG HMr.out.lt).cell (2 + j)).trans (mc_T sl j v hj)) Tryd.underlying26 (root_size HF.out.T) ⟨rfl, Below.refl _ _⟩
            · clear hW
              refine stepAt_value rfl rfl rfl (.int .i64 (x : Int)) w8 ?_ ⟨rfl, Below.refl _ _⟩
              go_simp
            · have q8 := hW 8 (by decide)
              simp only at q8
              have q10 := hW 10 (by decide)
              simp only at q10
              have q11 := hW 11 (by decide)
              simp only at q11
              rw [q8, q10, q11]
              clear hW
              refine stepAt_build rfl rfl rfl 32 _ rfl (mc (voteM M x) (.slice none 0 0)).toArray ?_ ⟨rfl, Below.refl _ _⟩
              simp only [List.map_toArray, List.map_cons, List.map_nil]
              exact built_vote 2 M.s x M.T HF.out.T
            · have q12 := hW 12 (by decide)
              simp only at q12
              rw [q12]
              clear hW
              refine stepAt_call rfl rfl rfl 39 #[.agg (mc (voteM M x) (.slice none 0 0)).toArray] (by go_simp) ((refplain_any w8 (voteM M x) (.slice none 0 0) HNR.out (BRow.nil _ _) (by simp [voteM])).mono fun e w' ⟨h1, h2⟩ => ⟨_, h1, by rw [HPB.out], h2⟩)
            · have q6 := hW 6 (by decide)
              simp only at q6
              have q13 := hW 13 (by decide)
              simp only at q13
              rw [q6, q13]
              clear hW
              rw [← HKB.out, ← HPB0.out]
              refine stepAt_call rfl rfl rfl 38 #[.string ⟨KL.toArray⟩, .string ⟨PL.toArray⟩] (by go_simp) ((refTag_any w8 KL PL HKZ.out HPZ.out).mono fun e w' ⟨h1, h2⟩ => ⟨_, h1, congrArg (fun l : List UInt8 => Value.agg (bv l).toArray) HTT.out, h2⟩)
            · have q14 := hW 14 (by decide)
              simp only at q14
              rw [q14]
              clear hW
              refine stepAt_build_rows rfl rfl rfl 49 30 1 _ rfl i0 (.agg (zb 16).toArray) (s := 16) (by omega) ([T].map bv) (by simp [bv_length, hTl]) Tryd.underlying49 hi0 hz0 hz1 rfl (by omega) (by omega) rfl ⟨⟨_, rfl, ?_⟩, (Below.refl _ _).alloc (Nat.le_refl _) _⟩
              rw [rows_tv]
              exact lies_tags w8 [T]
          case fin =>
            intro vals w8 hG hV
            have q0 : vals 0 = u8 := hV 0 (by omega)
            obtain ⟨g, q13, hls⟩ := hV 15 (by omega)
            simp only [List.take_succ_cons, List.take_zero, List.drop_succ_cons, List.drop_zero, putAll, Act.put, List.setIfInBounds_toArray, List.set_cons_zero, List.set_cons_succ, Nat.reduceAdd]
            rw [q0, q13]
            have HWr := Lib.hid (HWD.out.below hG)
            have HSrc := Lib.hid (hls.src 1 49 30 Tryd.underlying49 (n := 1) (k := 16) (by rw [tv_length _ (Tags.sole hTl)]; rfl) (tv_one _) (by omega) (P := Tryd.prog))
            have HB8 := Lib.hid (HBel.out.trans (hG.mono HBel.out.size))
            have HVL := Lib.hid (show (tv (TS.take j)).length ≤ 16000 by
              rw [tv_length _ (HTG.out.take j), List.length_take]
              have := HTL.out
              rw [HN0.out] at this
              omega)
            clear hV q0 q13 hG hls
            generalize vals 1 = x1
            generalize vals 2 = x2
            generalize vals 3 = x3
            generalize vals 4 = x4
            generalize vals 5 = x5
            generalize vals 6 = x6
            generalize vals 7 = x7
            generalize vals 8 = x8
            generalize vals 9 = x9
            generalize vals 10 = x10
            generalize vals 11 = x11
            generalize vals 12 = x12
            generalize vals 13 = x13
            generalize vals 14 = x14
            go_wp2_with (at_builtin; refine wpList_append_wide rfl _ _ 49 49 rfl rfl HWr.out (by omega) 30 i0 (.agg (zb 16).toArray) 16 Tryd.underlying49 hi0 hz0 hz1 hz2 hzc _ rfl 1 (tv [T]) HSrc.out ?e2 ?e3 ?e4 ?_)
            case e2 => have := HVL.out; unfold maxLen; omega
            case e3 => have := HVL.out; omega
            case e4 => exact HB8.out.size
            intro v2 w9 hh hg
            have HW9 := Lib.hid (show Wide 16 w9 w1.heap.size v2 (tv (TS.take (j + 1))) by rw [HTake.out, tv_append]; exact hh)
            have HB9 := Lib.hid (HB8.out.trans (hg.belowW HWr.out HB8.out.size))
            clear hh hg HSrc HWr
            go_wp2_with fail
            go_roundw
            case rel => exact ⟨j + 1, by omega, by go_num, HW9, HB9⟩
            case measure => simp [intOf]; omega
        · have hJn : j = n := by omega
          obtain ⟨sao, sn, scap, sb, soff, rfl, hsl, hlies⟩ := HWD.out.lies
          have hsn : TS.length = sn := by
            have h1 := tv_length _ (HTG.out.take j)
            rw [List.take_of_length_le (by rw [HTL.out, HN0.out]; omega)] at h1 hsl
            omega
          rw [List.take_of_length_le (by rw [HTL.out, HN0.out]; omega)] at hlies
          have hnn : sn ≤ 100000 := by have := HTL.out; rw [HN0.out] at this; omega
          have hJt : (joined TS).length = 16 := joined_length TS
          have HJ := Lib.hid (refJoin_any wr sao sn scap sb soff TS HTG.out hsn hnn hlies)
          clear hsl hlies hsn HWD hJn
          obtain ⟨J, hJ⟩ : ∃ J, joined TS = J := ⟨_, rfl⟩
          rw [hJ] at HJ hJt
          have HJE := Lib.hid hJ
          clear hJ
          go_wp2_with fail
          refine HJ.out.mono ?_
          rintro e w3 ⟨rfl, hb3⟩
          have HZ3 := Lib.hid (HZr.out.below hb3 HZr.out.lt)
          have HB3 := Lib.hid (HBr.out.trans (hb3.mono HBr.out.size))
          clear hb3 HJ
          go_wp2_with ((with_reducible refine wpList_store_tag (.tmp 4) (.tmp 58) ?_ ?_ Z (List.replicate 16 0) J ?_ ?_ HZ3.out zeros16 hJt ?_); rfl; rfl; rfl; rfl)
          refine ret_tag (g := Z) (l := J) rfl rfl (HZ3.out.setRow (bv J)) hJt rfl ?_
          exact ⟨by rw [HST.out, HJE.out, HYR.out]; rfl, below_setRow HB3.out HZl.out _⟩
    · have hk3 : (M.k != 3) = true := by simpa using k3
      have HTS := Lib.hid (show ST = tag (keyAt vs M.m.toNat) (msgP M) by rw [HSE.out]; exact sealT_sole hS k3)
      have hsp := msg_spans hgd
      obtain ⟨x, hx⟩ : ∃ x : Nat, M.m = x := ⟨M.m.toNat, by omega⟩
      have hxl : x < vs.length := by
        have e : l = [M.m.toNat] := spk_own hS k3
        exact HLM.out x (by rw [e, hx]; simp)
      have HMX := Lib.hid hx
      obtain ⟨vvx, hvv⟩ : ∃ vvx, vs[x]? = some vvx := ⟨_, List.getElem?_eq_getElem hxl⟩
      obtain ⟨st, KB⟩ := vvx
      obtain ⟨cb, co, cc, hhd, hval⟩ := HCF1.out.head
      have HHD := Lib.hid hhd
      have HVS := Lib.hid (fun w' hb => (hval w' hb x (st, KB) hvv).2)
      have HKB := Lib.hid (show (⟨(keyAt vs x).toArray⟩ : ByteArray) = KB from (keyAt_some hvv).symm)
      have hvz := HVZ.out
      have hks := HKEY.out (st, KB) (List.mem_of_getElem? hvv)
      have hx6 : x ≤ 65535 := by omega
      obtain ⟨KL, hKL⟩ : ∃ KL, KL = keyAt vs x := ⟨_, rfl⟩
      rw [← hKL] at HKB
      have HKZ := Lib.hid (show KL.length ≤ 500 by
        have h := hks
        rw [show (st, KB).2 = KB from rfl, ← HKB.out] at h
        simpa [ByteArray.size] using h)
      have HMR := Lib.hid (msg_ranged hgd HF.out)
      obtain ⟨PL, hPL⟩ : ∃ PL, PL = msgP M := ⟨_, rfl⟩
      obtain ⟨PB, hPB⟩ : ∃ PB : ByteArray, (⟨PL.toArray⟩ : ByteArray) = PB := ⟨_, rfl⟩
      have HPB0 := Lib.hid hPB
      rw [hPL] at hPB
      have HPB := Lib.hid hPB
      have HPZ := Lib.hid (show PL.length ≤ 500 by
        have h := partM_length hgd HF.out hx6
        rw [partM_own k3] at h
        rw [hPL]
        omega)
      obtain ⟨T, hTT⟩ : ∃ T, T = tag KL PL := ⟨_, rfl⟩
      have hTl : T.length = 16 := by rw [hTT]; exact tag_length _ _
      have HTS2 := Lib.hid (show ST = T by rw [HTS.out, hTT, hKL, hPL, hx]; rfl)
      have HTT := Lib.hid hTT.symm
      obtain ⟨nv, hnv⟩ : ∃ nv, nv = vs.length := ⟨_, rfl⟩
      have hxn : x < vs.length := hxl
      rw [← hnv] at HHD hxn hvz
      obtain ⟨c0, _, _, _, _⟩ := HM1f
      have hv : ∃ ao cap, v = .slice ao l.length cap := by
        obtain ⟨ao, cap, b, off, h1, h2⟩ := hh.lies
        exact ⟨ao, cap, by rw [h1, iv_length]⟩
      obtain ⟨ao, cap, rfl⟩ := hv
      clear hxl hvv hhd hval hks hPL hPB hKL hx6 hnv hS hgd hTS hx hTT k3 hh hsp hn1
      go_upto_region 5 with fail
      clear c0
      refine wp_region_free (P := Tryd.prog) 10 (fun w' => Below w1.heap.size w1 w') (fun oq v w' => match oq with
          | 0 => v = .pointer (some ⟨D, 0, none⟩)
          | 1 => v = .slice (some ⟨cb, co, none⟩) nv cc
          | 2 => v = .pointer (some ⟨G, 34, none⟩)
          | 3 => v = .int .i64 (x : Int)
          | 4 => v = .pointer (some ⟨cb, co + x * 2, none⟩)
          | 5 => v = .pointer (some ⟨cb, co + x * 2 + 1, none⟩)
          | 6 => v = .string KB
          | 7 => v = .agg (mc M sl).toArray
          | 8 => v = .string PB
          | 9 => v = .agg (bv T).toArray
          | _ => True) (by kernel_rfl) (by kernel_rfl) (Below.refl _ _).drew ?gb ?vb ?steps ?fin
      case gb => exact fun a b h1 h2 => h1.trans (h2.mono h1.size)
      case vb =>
        intro oq v a b h hb
        match oq with
        | 0 => exact h
        | 1 => exact h
        | 2 => exact h
        | 3 => exact h
        | 4 => exact h
        | 5 => exact h
        | 6 => exact h
        | 7 => exact h
        | 8 => exact h
        | 9 => exact h
        | _ + 10 => trivial
      case steps =>
        intro vals
        simp only [List.take_succ_cons, List.take_zero, freeSteps, Act.put, List.setIfInBounds_toArray, List.set_cons_zero, List.set_cons_succ, Nat.reduceAdd]
        refine ⟨fun w8 hG hW => ?_, fun w8 hG hW => ?_, fun w8 hG hW => ?_, fun w8 hG hW => ?_, fun w8 hG hW => ?_, fun w8 hG hW => ?_, fun w8 hG hW => ?_, fun w8 hG hW => ?_, fun w8 hG hW => ?_, fun w8 hG hW => ?_, trivial⟩
        · clear hW
          refine stepAt_value rfl rfl rfl (.pointer (some ⟨D, 0, none⟩)) w8 ?_ ⟨rfl, Below.refl _ _⟩
          go_simp
        · have q0 := hW 0 (by decide)
          simp only at q0
          rw [q0]
          clear hW
          refine stepAt_value rfl rfl rfl (.slice (some ⟨cb, co, none⟩) nv cc) w8 ?_ ⟨rfl, Below.refl _ _⟩
          have hh := ((HC1.out.below hG HC1.out.lt).cell 0).trans HHD.out
          go_simp
        · clear hW
          refine stepAt_value rfl rfl rfl (.pointer (some ⟨G, 34, none⟩)) w8 ?_ ⟨rfl, Below.refl _ _⟩
          go_simp
        · have q2 := hW 2 (by decide)
          simp only at q2
          rw [q2]
          clear hW
          refine stepAt_value rfl rfl rfl (.int .i64 (x : Int)) w8 ?_ ⟨rfl, Below.refl _ _⟩
          obtain ⟨c0, c1, c34, c35, c36⟩ := (HM1.out.below hG HM1.out.lt).msg HF.out
          rw [HMX.out] at c34
          go_simp
        · have q1 := hW 1 (by decide)
          simp only at q1
          have q3 := hW 3 (by decide)
          simp only at q3
          rw [q1, q3]
          clear hW
          refine stepAt_value rfl rfl rfl (.pointer (some ⟨cb, co + x * 2, none⟩)) w8 ?_ ⟨rfl, Below.refl _ _⟩
          go_simp
        · have q4 := hW 4 (by decide)
          simp only at q4
          rw [q4]
          clear hW
          refine stepAt_value rfl rfl rfl (.pointer (some ⟨cb, co + x * 2 + 1, none⟩)) w8 ?_ ⟨rfl, Below.refl _ _⟩
          go_simp
        · have q5 := hW 5 (by decide)
          simp only at q5
          rw [q5]
          clear hW
          refine stepAt_value rfl rfl rfl (.string KB) w8 ?_ ⟨rfl, Below.refl _ _⟩
          have hh := HVS.out w8 hG
          go_simp
        · clear hW
          exact stepAt_load_msg rfl rfl rfl (.tmp 3) rfl G M sl rfl (HM1.out.below hG HM1.out.lt) HF.out ⟨rfl, Below.refl _ _⟩
        · have q7 := hW 7 (by decide)
          simp only at q7
          rw [q7]
          clear hW
          refine stepAt_call rfl rfl rfl 39 #[.agg (mc M sl).toArray] (by go_simp) ((refplain_any w8 M sl HMR.out (HR1.out.bits hG) hbl).mono fun e w' ⟨h1, h2⟩ => ⟨_, h1, by rw [HPB.out], h2⟩)
        · have q6 := hW 6 (by decide)
          simp only at q6
          have q8 := hW 8 (by decide)
          simp only at q8
          rw [q6, q8]
          clear hW
          rw [← HKB.out, ← HPB0.out]
          refine stepAt_call rfl rfl rfl 38 #[.string ⟨KL.toArray⟩, .string ⟨PL.toArray⟩] (by go_simp) ((refTag_any w8 KL PL HKZ.out HPZ.out).mono fun e w' ⟨h1, h2⟩ => ⟨_, h1, congrArg (fun l : List UInt8 => Value.agg (bv l).toArray) HTT.out, h2⟩)
      case fin =>
        intro vals w8 hG hV
        have q9 : vals 9 = .agg (bv T).toArray := hV 9 (by omega)
        simp only [List.take_succ_cons, List.take_zero, List.drop_succ_cons, List.drop_zero, putAll, Act.put, List.setIfInBounds_toArray, List.set_cons_zero, List.set_cons_succ, Nat.reduceAdd]
        rw [q9]
        have HZ8 := Lib.hid (HZ1.out.below hG HZ1.out.lt)
        have HB8 := Lib.hid (HB1.out.trans (hG.mono HB1.out.size))
        clear hV q9 hG
        generalize vals 0 = x0
        generalize vals 1 = x1
        generalize vals 2 = x2
        generalize vals 3 = x3
        generalize vals 4 = x4
        generalize vals 5 = x5
        generalize vals 6 = x6
        generalize vals 7 = x7
        generalize vals 8 = x8
        go_wp2_with ((with_reducible refine wpList_store_tag (.tmp 4) (.tmp 32) ?_ ?_ Z (List.replicate 16 0) T ?_ ?_ HZ8.out zeros16 hTl ?_); rfl; rfl; rfl; rfl)
        refine ret_tag (g := Z) (l := T) rfl rfl (HZ8.out.setRow (bv T)) hTl rfl ?_
        exact ⟨by rw [HTS2.out, HYR.out]; rfl, below_setRow HB8.out HZl.out _⟩
end Go.Proofs.YtnbdpalbompjlaaDoor

/-
  What the reference's Check answers.
-/
namespace Go.Proofs.YtnbdpalbompjlaaDoor
open Go.RowKit
set_option maxRecDepth 100000

set_option maxHeartbeats 4000000 in
theorem refcheck_any (w : World) {cs : List Value} {C : Nat} {vs : List (Int × ByteArray)} (hc : CfgOk w cs C vs) (M : Msg) (sl : Value) (hf : M.Fits) (hr : BRow w w.heap.size sl M.l) (hbl : M.l.length ≤ 500) :
    Calls Tryd.prog 17 #[.agg cs.toArray, .agg (mc M sl).toArray] w fun e w' => e = .returned (.bool (sealC vs (comm M.s vs.length C) M)) ∧ Below w.heap.size w w' := by
  have HF := Lib.hid hf
  have HC0 := Lib.hid ((Blk.new w 24 cs.toArray).alloc (.cells (mc M sl).toArray 32))
  have HM0 := Lib.hid (Blk.newAt (w.alloc (.cells cs.toArray 24)) 32 (mc M sl).toArray (w.heap.size + 1) (by simp))
  have hb0 : Below w.heap.size w ((w.alloc (.cells cs.toArray 24)).alloc (.cells (mc M sl).toArray 32)) := ((Below.refl w.heap.size w).alloc (Nat.le_refl _) _).alloc (by simp) _
  have HR0 := Lib.hid (hr.bits hb0)
  have HCF0 := Lib.hid (hc.below hb0)
  have HB0 := Lib.hid hb0
  have HTGC := Lib.hid (rsealTag_any _ HCF0.out M sl hf HR0.out hbl)
  obtain ⟨K, hK⟩ : ∃ K, K = comm M.s vs.length C := ⟨_, rfl⟩
  rw [← hK] at HTGC ⊢
  have hsl := sealT_length vs K M
  have hsc : sealC vs K M = ((spk K M).isSome && (sealT vs K M == M.G)) := rfl
  obtain ⟨ST, hST⟩ : ∃ ST, sealT vs K M = ST := ⟨_, rfl⟩
  obtain ⟨Y, hY⟩ : ∃ Y, (spk K M).isSome = Y := ⟨_, rfl⟩
  obtain ⟨SC, hSC⟩ : ∃ SC, sealC vs K M = SC := ⟨_, rfl⟩
  rw [hST, hY, hSC] at hsc
  rw [hST, hY] at HTGC
  rw [hST] at hsl
  rw [hSC]
  have HSC := Lib.hid hsc
  clear hK hb0 hr hc hf hST hY hSC hsc
  obtain ⟨G, hG⟩ : ∃ G, G = w.heap.size + 1 := ⟨_, rfl⟩
  obtain ⟨D, hD⟩ : ∃ D, D = w.heap.size := ⟨_, rfl⟩
  go_enter Tryd.func17, Tryd.ntmps17
  go_upto_region 1 with fail
  generalize (w.alloc (.cells cs.toArray 24)).alloc (.cells (mc M sl).toArray 32) = w0 at HB0 HC0 HM0 HR0 HCF0 HTGC ⊢
  rw [← hG] at HM0 ⊢
  rw [← hD] at HC0 ⊢
  clear hG hD
  go_wp2_with (first
    | ((with_reducible refine wpList_load_msgG (.tmp 3) ?_ ?_ G M sl ?_ HM0.out HF.out ?_); rfl; rfl; rfl)
    | ((with_reducible refine wpList_load_cfg (.tmp 2) ?_ ?_ D cs ?_ HC0.out HCF0.out.len ?_); rfl; rfl; rfl))
  refine HTGC.out.mono ?_
  rintro e w1 ⟨rfl, hb1⟩
  have HM1 := Lib.hid (HM0.out.below hb1 HM0.out.lt)
  have HB1 := Lib.hid (HB0.out.trans (hb1.mono HB0.out.size))
  have HZ1 := Lib.hid (z16_blk w1)
  have HM2 := Lib.hid (HM1.out.alloc (.cells z16 30))
  have HB2 := Lib.hid (HB1.out.alloc HB1.out.size (.cells z16 30))
  have HZ3 := Lib.hid (HZ1.out.setRow (bv ST))
  have hne : G ≠ w1.heap.size := by have := HM1.out.lt; omega
  have HM3 := Lib.hid (HM2.out.setRow_other (bv ST).toArray hne)
  have HB3 := Lib.hid (below_setRow HB2.out HB1.out.size (bv ST).toArray)
  obtain ⟨w3, hw3⟩ : ∃ x, (w1.alloc (.cells z16 30)).setRow w1.heap.size (bv ST).toArray = x := ⟨_, rfl⟩
  rw [hw3] at HZ3 HM3 HB3
  have HW3 := Lib.hid hw3
  clear hb1 HC0 HM0 HR0 HCF0 HB0 hw3 hne HM1 HM2 HB1 HB2 HTGC
  go_upto_region 2 with ((with_reducible refine wpList_store_tag (.tmp 5) (.tmp 11) ?_ ?_ w1.heap.size (List.replicate 16 0) ST ?_ ?_ ?_ zeros16 hsl ?_); rfl; rfl; rfl; rfl; exact HZ1.out)
  rw [z16_lit, HW3.out]
  clear HW3 HZ1
  generalize w1.heap.size = Z at HZ3 ⊢
  have HTM := Lib.hid (fun j v hj => (HM3.out.cell (37 + j)).trans (mc_G HF.out sl j v hj))
  have HTZ := Lib.hid (show ∀ (j : Nat) (v : Value), (bv ST)[j]? = some v → w3.cell? ⟨Z, 0 + j, none⟩ = some v from fun j v hj => by rw [Nat.zero_add]; exact (HZ3.out.cell j).trans hj)
  have hte := tag_eq w3 ST M.G hsl HF.out.G
  cases Y with
  | false =>
    rw [Bool.false_and] at HSC
    clear hte
    go_wp2_with fail
    go_ret
    exact ⟨by rw [HSC.out]; rfl, HB3.out⟩
  | true =>
    rw [Bool.true_and] at HSC
    rw [← HSC.out] at hte
    go_wp2_with (first
      | ((with_reducible refine wpList_load_tag (.tmp 5) ?_ ?_ Z 0 ST ?_ hsl HTZ.out ?_); rfl; rfl; rfl)
      | ((with_reducible refine wpList_load_tag (.tmp 16) ?_ ?_ G 37 M.G ?_ HF.out.G HTM.out ?_); rfl; rfl; rfl))
    go_ret
    exact ⟨rfl, HB3.out⟩
end Go.Proofs.YtnbdpalbompjlaaDoor
