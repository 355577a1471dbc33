/-
  The walk of SealSums.
-/
import Derived.Test.YtnbdpalbompjlaaDoorM22
import Derived.Test.YtnbdpalbompjlaaDoorRowOf
namespace Go.Proofs.YtnbdpalbompjlaaDoor
open Go.RowKit
set_option maxRecDepth 100000

set_option maxHeartbeats 16000000 in
theorem sealSums_any (w : World) (hT : Tabs w) (cs : List Value) (vs : List (Int × ByteArray)) (hc : CfgIn w cs vs) (M : Msg) (sl : Value) (hf : M.Fits) (hr : BRow w w.heap.size sl M.l) (a : Int) :
    Calls Tryd.prog 5 #[.agg cs.toArray, .agg (mc M sl).toArray, .int .i64 a] w fun e w' => e = .returned (.bool true) ∧ Below w.heap.size w w' := by
  have HT := Lib.hid hT
  have HF := Lib.hid hf
  have HR := Lib.hid hr
  have HCI := Lib.hid hc
  have HCL := Lib.hid hc.len
  have HC := Lib.hid (show Blk _ w.heap.size _ cs from (Blk.new w 24 cs.toArray).alloc (.cells (mc M sl).toArray 32))
  have HM := Lib.hid (show Blk _ (w.heap.size + 1) _ (mc M sl) from Blk.newAt (w.alloc (.cells cs.toArray 24)) 32 (mc M sl).toArray (w.heap.size + 1) (by simp))
  have HB := Lib.hid (show Below w.heap.size w ((w.alloc (.cells cs.toArray 24)).alloc (.cells (mc M sl).toArray 32)) from ((Below.refl w.heap.size w).alloc (Nat.le_refl _) _).alloc (by simp) _)
  clear hT hf hr hc
  obtain ⟨G, hG⟩ : ∃ G, G = w.heap.size + 1 := ⟨_, rfl⟩
  obtain ⟨D, hD⟩ : ∃ D, D = w.heap.size := ⟨_, rfl⟩
  have HDl := Lib.hid (show w.heap.size ≤ D by omega)
  go_enter Tryd.func5, Tryd.ntmps5
  go_upto_region 1 with fail
  generalize (w.alloc (.cells cs.toArray 24)).alloc (.cells (mc M sl).toArray 32) = w0 at HB HC HM ⊢
  (try simp only [Nat.add_assoc, Nat.reduceAdd])
  rw [← hG] at HM ⊢
  rw [← hD] at HC ⊢
  clear hD hG
  go_wp2_with fail
  refine (alive_any w0 (HT.out.below HB.out HT.out.size)).mono ?_
  rintro e w1 ⟨rfl, hb⟩
  replace HC := Lib.hid (HC.out.below hb HC.out.lt)
  replace HM := Lib.hid (HM.out.below hb HM.out.lt)
  replace HB := Lib.hid (HB.out.trans (hb.mono HB.out.size))
  clear hb
  have HG8 := Lib.hid (great8_any w1 (HCI.out.below HB.out) M sl HF.out ((HR.out.keep HB.out).more HB.out.size))
  go_wp2_with (first
    | ((with_reducible refine wpList_load_msgG (.tmp 4) ?_ ?_ G M sl ?_ HM.out HF.out ?_); rfl; rfl; rfl)
    | ((with_reducible refine wpList_load_cfg (.tmp 3) ?_ ?_ D cs ?_ HC.out HCL.out ?_); rfl; rfl; rfl))
  refine HG8.out.mono ?_
  rintro e w2 ⟨yg, rfl, hyg, hb⟩
  replace HC := Lib.hid (HC.out.below hb HC.out.lt)
  replace HM := Lib.hid (HM.out.below hb HM.out.lt)
  replace HB := Lib.hid (HB.out.trans (hb.mono HB.out.size))
  clear hb
  clear HG8
  cases yg with
  | true =>
    clear hyg
    go_wp2_with fail
    go_ret
    exact ⟨rfl, HB.out⟩
  | false =>
  obtain ⟨⟨C, hok⟩, hbl⟩ := hyg rfl
  have HOK := Lib.hid hok
  have HBL := Lib.hid hbl
  clear hyg hok hbl
  obtain ⟨c0, _, _, _, _⟩ := HM.out.msg HF.out
  by_cases k3 : M.k = 3
  rotate_left
  · have hk : (M.k != 3) = true := by simpa using k3
    clear k3
    go_wp2_with fail
    go_ret
    exact ⟨rfl, HB.out⟩
  rw [k3] at c0
  have HK3 := Lib.hid k3
  clear k3
  obtain ⟨K, hK⟩ : ∃ K, comm M.s vs.length C = K := ⟨_, rfl⟩
  obtain ⟨ST, hST⟩ : ∃ ST, sealT vs K M = ST := ⟨_, rfl⟩
  obtain ⟨Y, hY⟩ : ∃ Y, (spk K M).isSome = Y := ⟨_, rfl⟩
  obtain ⟨L, hL⟩ : ∃ L, (spk K M).getD [] = L := ⟨_, rfl⟩
  obtain ⟨VL, hVL⟩ : ∃ VL, votesM K M = VL := ⟨_, rfl⟩
  obtain ⟨CK, hCK⟩ : ∃ CK, sealC vs K M = CK := ⟨_, rfl⟩
  have HSL := Lib.hid (show ST.length = 16 by rw [← hST]; exact sealT_length vs K M)
  have HTG := fun (W : World) (hT : Tabs W) (hc : CfgOk W cs C vs) (hr : BRow W W.heap.size sl M.l) => sealTag_any W hT hc M sl HF.out hr
  have HVT := fun (W : World) (hT : Tabs W) (hc : CfgOk W cs C vs) (hr : BRow W W.heap.size sl M.l) => votes_any W hT hc M sl HF.out hr
  simp only [hK, hST, hY, hVL] at HTG HVT
  replace HTG := Lib.hid HTG
  replace HVT := Lib.hid HVT
  have HLL := Lib.hid (show L.length ≤ 100000 by
    rw [← hL]
    cases h : spk K M with
    | none => simp
    | some l => have := spk_len h (by rw [← hK]; have := comm_le M.s vs.length C; have := (HOK.out _ (HCI.out.below HB.out)).vals; omega); simpa using by omega)
  have HVV := Lib.hid (show Vots VL by
    rw [← hVL, votesM]
    intro x hx
    split at hx
    · cases hx
    · obtain ⟨i, _, rfl⟩ := List.mem_map.1 hx
      exact HF.out.T)
  have HVZ := Lib.hid (show VL.length ≤ 100000 by
    have h := HLL.out
    rw [← hVL, votesM]
    split
    · simp
    · rw [List.length_map, hL]; exact h)
  have HVE := Lib.hid (show VL = L.map fun i => (i, M.s, M.T) by rw [← hVL, votesM, if_neg (by rw [HK3.out]; omega), hL])
  have HL0 := Lib.hid (show Y = false → L = [] by
    intro y
    rw [← hL]
    rw [← hY] at y
    have h : spk K M = none := by simpa using y
    rw [h]; rfl)
  have HL1 := Lib.hid (show Y = true → spk K M = some L by
    intro y
    rw [← hY] at y
    obtain ⟨l, hl⟩ := Option.isSome_iff_exists.1 y
    rw [hl] at hL
    rw [hl, ← hL]; rfl)
  have HSE := Lib.hid (show Y = true → ST = joined (tagsM vs M L) by
    intro y
    rw [← hST, sealT, HL1.out y])
  have HKM := Lib.hid (show ∀ x ∈ K, x < vs.length by intro x hx; rw [← hK] at hx; exact comm_mem M.s vs.length C x hx)
  have HKL := Lib.hid (show K.length ≤ 1000 by have h1 := comm_le M.s vs.length C; have h2 := (HOK.out _ (HCI.out.below HB.out)).vals; rw [← hK]; omega)
  have HVN := Lib.hid ((HOK.out _ (HCI.out.below HB.out)).vals)
  have HKE := Lib.hid hK
  clear hK hST hY hL hVL hCK
  go_wp2_with (first
    | ((with_reducible refine wpList_load_msgG (.tmp 4) ?_ ?_ G M sl ?_ HM.out HF.out ?_); rfl; rfl; rfl)
    | ((with_reducible refine wpList_load_cfg (.tmp 3) ?_ ?_ D cs ?_ HC.out HCL.out ?_); rfl; rfl; rfl))
  refine (HTG.out w2 (HT.out.below HB.out HT.out.size) (HOK.out _ (HCI.out.below HB.out)) ((HR.out.keep HB.out).more HB.out.size)).mono ?_
  rintro e w3 ⟨rfl, hb⟩
  replace HC := Lib.hid (HC.out.below hb HC.out.lt)
  replace HM := Lib.hid (HM.out.below hb HM.out.lt)
  replace HB := Lib.hid (HB.out.trans (hb.mono HB.out.size))
  clear hb
  have hz := z16_blk w3
  have hbt := below_setRow ((Below.refl w3.heap.size w3).alloc (Nat.le_refl _) (.cells z16 30)) (Nat.le_refl w3.heap.size) (bv ST).toArray
  have HZ := Lib.hid hz
  have ht3 := hz.setRow (bv ST)
  obtain ⟨wy6, hwy6⟩ : ∃ x, (w3.alloc (.cells z16 30)).setRow w3.heap.size (bv ST).toArray = x := ⟨_, rfl⟩
  rw [hwy6] at hbt ht3
  have HWX := Lib.hid hwy6
  have HTA := Lib.hid ht3
  clear hwy6 ht3 hz
  go_upto_region 6 with ((with_reducible refine wpList_store_tag (.tmp 7) (.tmp 32) ?_ ?_ w3.heap.size (List.replicate 16 0) ST ?_ ?_ ?_ zeros16 HSL.out ?_); rfl; rfl; rfl; rfl; exact HZ.out)
  rw [z16_lit, HWX.out]
  replace HC := Lib.hid (HC.out.below hbt HC.out.lt)
  replace HM := Lib.hid (HM.out.below hbt HM.out.lt)
  replace HB := Lib.hid (HB.out.trans (hbt.mono HB.out.size))
  clear hbt HZ HWX
  generalize w3.heap.size = TA at HTA ⊢
  go_wp2_with (first
    | ((with_reducible refine wpList_load_msgG (.tmp 4) ?_ ?_ G M sl ?_ HM.out HF.out ?_); rfl; rfl; rfl)
    | ((with_reducible refine wpList_load_cfg (.tmp 3) ?_ ?_ D cs ?_ HC.out HCL.out ?_); rfl; rfl; rfl))
  refine (HVT.out wy6 (HT.out.below HB.out HT.out.size) (HOK.out _ (HCI.out.below HB.out)) ((HR.out.keep HB.out).more HB.out.size)).mono ?_
  rintro e w4 ⟨vv9, rfl, hh, hb⟩
  replace HC := Lib.hid (HC.out.below hb HC.out.lt)
  replace HM := Lib.hid (HM.out.below hb HM.out.lt)
  replace HTA := Lib.hid (HTA.out.below hb HTA.out.lt)
  replace HB := Lib.hid (HB.out.trans (hb.mono HB.out.size))
  clear hb
  obtain ⟨_, ao, cap, vb, vo, rfl, hlv⟩ := hh.vrow HVV.out
  have HLV := Lib.hid hlv
  clear hh hlv
  cases Y with
  | false =>
    have hl0 : VL.length = 0 := by rw [HVE.out, HL0.out rfl]; rfl
    rw [hl0]
    clear hl0
    go_wp2_with fail
    go_ret
    exact ⟨rfl, HB.out⟩
  | true =>
  have hsp := HL1.out rfl
  have HGD := Lib.hid (spk_good hsp)
  have HLK := Lib.hid (spk_mem hsp)
  have hlen := spk_len hsp HKL.out
  have hne := spk_some hsp
  obtain ⟨TS, hTS⟩ : ∃ TS, tagsM vs M L = TS := ⟨_, rfl⟩
  have HST := Lib.hid (show ST = joined TS by rw [← hTS]; exact HSE.out rfl)
  have HTSl := Lib.hid (show TS.length = L.length by rw [← hTS]; simp [tagsM])
  have HTSt := Lib.hid (show Tags TS by rw [← hTS]; exact tagsM_Tags vs M L)
  have HTSa := Lib.hid (show ∀ (j x : Nat), L[j]? = some x → TS.getD j [] = tagOne vs M x by intro j x hx; rw [← hTS, tagsM, List.getD_eq_getElem?_getD, List.getElem?_map, hx]; rfl)
  obtain ⟨n, hn⟩ : ∃ n, VL.length = n := ⟨_, rfl⟩
  have HN := Lib.hid (show L.length = n by rw [← hn, HVE.out, List.length_map])
  have HNV := Lib.hid hn
  have hn1 : 1 ≤ n := by rw [← HN.out]; have := List.length_pos_iff.2 hne; omega
  have hn2 : n ≤ 1000 := by rw [← HN.out]; exact hlen
  rw [hn]
  have ha := HLV.out.addr (by rw [vv_length VL HVV.out, hn]; omega)
  subst ha
  have hn0 : ((n : Int) == 0) = false := by simp; omega
  have hn3 : ¬ ((n : Int) = 0) := by omega
  have hwn : IntKind.u64.wrap (n : Int) = (n : Int) := by rw [IntKind.wrap_u64]; omega
  obtain ⟨q, hq, hq2⟩ : ∃ q : Nat, Int.tmod (IntKind.u64.wrap a) (n : Int) = (q : Int) ∧ q < n := by
    have h1 : 0 ≤ IntKind.u64.wrap a := by rw [IntKind.wrap_u64]; omega
    have h2 : Int.tmod (IntKind.u64.wrap a) (n : Int) = (IntKind.u64.wrap a) % (n : Int) := Int.tmod_eq_emod_of_nonneg h1
    have h3 := Int.emod_nonneg (IntKind.u64.wrap a) (show (n : Int) ≠ 0 by omega)
    have h4 := Int.emod_lt_of_pos (IntKind.u64.wrap a) (show (0 : Int) < n by omega)
    exact ⟨((IntKind.u64.wrap a) % (n : Int)).toNat, by omega, by omega⟩
  have hqw : IntKind.i64.wrap (q : Int) = (q : Int) := by rw [IntKind.wrap_i64]; omega
  clear hsp hlen hne hTS hn c0
  go_wp2_with fail
  go_loopw [10, 48] (fun v i wr => ∃ (j : Nat), j ≤ n ∧ i = .int .i64 j ∧ Hid (Wide 16 wr w4.heap.size v (tv ((List.range j).map fun i => TS.getD ((i + q) % n) []))) ∧ Hid (Below w4.heap.size w4 wr)) (fun _ i _ => n - (intOf i).toNat)
  case atStart => exact ⟨0, Nat.zero_le _, rfl, Lib.hid (wide_nil 16 w4 w4.heap.size), Lib.hid (Below.refl _ _)⟩
  case round =>
    obtain ⟨j, hj, rfl, HWD, HBel⟩ := hrel
    replace HLV := Lib.hid (HLV.out.below HBel.out)
    replace HC := Lib.hid (HC.out.below HBel.out HC.out.lt)
    replace HM := Lib.hid (HM.out.below HBel.out HM.out.lt)
    replace HTA := Lib.hid (HTA.out.below HBel.out HTA.out.lt)
    replace HB := Lib.hid (HB.out.trans (HBel.out.mono HB.out.size))
    by_cases hlt : j < n
    rotate_left
    · have hjn : j = n := by omega
      subst hjn
      have hll : (List.range j).map (fun i => TS.getD ((i + q) % j) []) = TS.drop q ++ TS.take q := by
        have h := turned_list TS [] q (by rw [HTSl.out, HN.out]; exact hq2)
        rw [HTSl.out, HN.out] at h
        exact h
      rw [hll] at HWD
      have HTT := Lib.hid (show Tags (TS.drop q ++ TS.take q) from (HTSt.out.drop q).append (HTSt.out.take q))
      obtain ⟨sao, sn, scap, sb, soff, rfl, hsl, hlies⟩ := HWD.out.lies
      have hsn : (TS.drop q ++ TS.take q).length = sn := by
        rw [tv_length _ HTT.out] at hsl
        omega
      have hsn2 : sn ≤ 100000 := by rw [← hsn, List.length_append, List.length_drop, List.length_take, HTSl.out, HN.out]; omega
      have HLI := Lib.hid hlies
      have HSNN := Lib.hid hsn
      have HJT := Lib.hid (show joined (TS.drop q ++ TS.take q) = ST by rw [joined_turn, HST.out])
      clear hsl hlies hsn hll HWD hlt hq hq2 hqw hwn hn0 hn3
      go_upto_region 24 with fail
      refine wp_region_free (P := Tryd.prog) 4 (fun w' => Below wr.heap.size wr w') (fun oq v w' => match oq with
          | 0 => v = .slice sao sn scap
          | 1 => v = .agg (bv ST).toArray
          | 2 => v = .agg (bv ST).toArray
          | 3 => v = .bool true
          | _ => True) (by kernel_rfl) (by kernel_rfl) (Below.refl _ _).drew ?gb ?vb ?steps ?fin
      case gb => exact fun a b h1 h2 => h1.trans (h2.mono h1.size)
      case vb =>
        intro oq v a b h hb
        match oq with
        | 0 => exact h
        | 1 => exact h
        | 2 => exact h
        | 3 => exact h
        | _ + 4 => trivial
      case steps =>
        intro vals
        simp only [List.take_succ_cons, List.take_zero, freeSteps, Act.put, List.setIfInBounds_toArray, List.set_cons_zero, List.set_cons_succ, Nat.reduceAdd]
        refine ⟨fun w8 hG hW => ?_, fun w8 hG hW => ?_, fun w8 hG hW => ?_, fun w8 hG hW => ?_, trivial⟩
        · clear hW
          refine stepAt_value rfl rfl rfl (.slice sao sn scap) w8 ?_ ⟨rfl, Below.refl _ _⟩
          go_simp
        · have q0 := hW 0 (by decide)
          simp only at q0
          rw [q0]
          clear hW
          refine stepAt_call rfl rfl rfl 23 #[.slice sao sn scap] (by go_simp) ((join_any w8 sao sn scap sb soff _ HTT.out HSNN.out hsn2 (HLI.out.below hG)).mono fun e w' ⟨h1, h2⟩ => ⟨_, h1, by rw [HJT.out], h2⟩)
        · clear hW
          exact stepAt_load_cells rfl rfl rfl 30 (.tmp 7) rfl TA 0 (bv ST) rfl 16 5 (fun j v hj => by rw [Nat.zero_add]; exact ((HTA.out.below hG HTA.out.lt).cell j).trans (by simpa using hj)) Tryd.underlying30 (tag_size HSL.out) ⟨rfl, Below.refl _ _⟩
        · have q1 := hW 1 (by decide)
          simp only at q1
          have q2 := hW 2 (by decide)
          simp only at q2
          rw [q1, q2]
          clear hW
          refine stepAt_value rfl rfl rfl (.bool true) w8 ?_ ⟨rfl, Below.refl _ _⟩
          have hh := tag_eq w8 ST ST HSL.out HSL.out
          rw [beq_self_eq_true] at hh
          go_simp
      case fin =>
        intro vals w8 hG hV
        have qF : vals 3 = .bool true := hV 3 (by omega)
        simp only [List.take_succ_cons, List.take_zero, List.drop_succ_cons, List.drop_zero, putAll, Act.put, List.setIfInBounds_toArray, List.set_cons_zero, List.set_cons_succ, Nat.reduceAdd]
        rw [qF]
        clear hV qF
        generalize vals 0 = x0
        generalize vals 1 = x1
        generalize vals 2 = x2
        have HBF := Lib.hid (HB.out.trans (hG.mono HB.out.size))
        clear hG
        go_wp2_with fail
        go_ret
        exact ⟨rfl, HBF.out⟩
    have hr2 : (j + q) % n < n := Nat.mod_lt _ (by omega)
    have hri0 : 0 ≤ ((j : Int) + (q : Int)) % (n : Int) := Int.emod_nonneg _ (by omega)
    have hri1 : ((j : Int) + (q : Int)) % (n : Int) < (n : Int) := Int.emod_lt_of_pos _ (by omega)
    have hrw : IntKind.i64.wrap ((j : Int) + (q : Int)) = ((j + q : Nat) : Int) := by rw [IntKind.wrap_i64]; omega
    obtain ⟨x, hx⟩ : ∃ x, L[(j + q) % n]? = some x := ⟨_, List.getElem?_eq_getElem (by rw [HN.out]; exact hr2)⟩
    have hxv : VL[(j + q) % n]? = some (x, M.s, M.T) := by rw [HVE.out, List.getElem?_map, hx]; rfl
    have HXV := Lib.hid (HLV.out.vote HVV.out hxv)
    have hxK := HLK.out x (List.mem_of_getElem? hx)
    have hx6 : x ≤ 65535 := by have h1 := HKM.out x hxK; have h2 := HVN.out; omega
    have HTX := Lib.hid (show TS.getD ((j + q) % n) [] = tagOne vs M x from HTSa.out _ x hx)
    have HSPK := Lib.hid (vote_spk (K := K) HGD.out hxK hx6)
    have HTAG := Lib.hid (vote_tag (vs := vs) (K := K) HGD.out HK3.out hxK hx6)
    have HVOT := Lib.hid (vote_votes (K := K) HGD.out hxK hx6)
    obtain ⟨T, hT⟩ : ∃ T, tagOne vs M x = T := ⟨_, rfl⟩
    rw [hT] at HTX HTAG
    have HTl := Lib.hid (show T.length = 16 by rw [← hT]; exact tag_length _ _)
    clear hx hxv hxK hx6 hT
    have hbt := below_setRow ((Below.refl wr.heap.size wr).alloc (Nat.le_refl _) (.cells vzcells 51)) (Nat.le_refl wr.heap.size) (vcell (x, M.s, M.T)).toArray
    have HZ := Lib.hid (vz_blk wr)
    have ht3 := HZ.out.setRow (vcell (x, M.s, M.T))
    obtain ⟨wv, hwv⟩ : ∃ y, (wr.alloc (.cells vzcells 51)).setRow wr.heap.size (vcell (x, M.s, M.T)).toArray = y := ⟨_, rfl⟩
    rw [hwv] at hbt ht3
    have HWX := Lib.hid hwv
    have HVB := Lib.hid ht3
    clear hwv ht3
    go_upto_region 17 with (first
      | ((with_reducible refine wpList_load_vote (.tmp 62) ?_ ?_ vb (vo + (j + q) % n * 34) (x, M.s, M.T) ?_ HF.out.T HXV.out ?_); rfl; rfl; rfl)
      | ((with_reducible refine wpList_store_vote (.tmp 13) (.tmp 63) ?_ ?_ wr.heap.size (x, M.s, M.T) ?_ ?_ ?_ HF.out.T ?_); rfl; rfl; rfl; rfl; exact HZ.out))
    rw [vz_lit, HWX.out]
    replace HLV := Lib.hid (HLV.out.below hbt)
    replace HBel := Lib.hid (HBel.out.trans (hbt.mono HBel.out.size))
    replace HWD := Lib.hid (HWD.out.below hbt)
    replace HC := Lib.hid (HC.out.below hbt HC.out.lt)
    replace HM := Lib.hid (HM.out.below hbt HM.out.lt)
    replace HTA := Lib.hid (HTA.out.below hbt HTA.out.lt)
    replace HB := Lib.hid (HB.out.trans (hbt.mono HB.out.size))
    clear hbt HZ HWX HXV hrw hr2 hri0 hri1
    generalize wr.heap.size = Vb at HVB ⊢
    have hbt := below_setRow ((Below.refl wv.heap.size wv).alloc (Nat.le_refl _) (.cells zcells 32)) (Nat.le_refl wv.heap.size) (mc (voteM M x) (.slice none 0 0)).toArray
    have HZ := Lib.hid (zero_msg wv)
    have ht3 := HZ.out.setRow (mc (voteM M x) (.slice none 0 0))
    obtain ⟨wm, hwm⟩ : ∃ y, (wv.alloc (.cells zcells 32)).setRow wv.heap.size (mc (voteM M x) (.slice none 0 0)).toArray = y := ⟨_, rfl⟩
    rw [hwm] at hbt ht3
    have HWX := Lib.hid hwm
    have HOM := Lib.hid ht3
    have c0 := HVB.out.cell 0
    have c1 := HVB.out.cell 1
    have HVR := Lib.hid (show ∀ (j : Nat) (v : Value), (bv M.T)[j]? = some v → wv.cell? ⟨Vb, 2 + j, none⟩ = some v from fun j v hj => (HVB.out.cell (2 + j)).trans (by rw [show 2 + j = j + 1 + 1 by omega]; exact hj))
    simp only [vcell, List.getElem?_cons_zero, List.getElem?_cons_succ] at c0 c1
    clear hwm ht3
    go_upto_region 18 with (first
      | ((with_reducible refine wpList_load_root (.tmp 66) ?_ ?_ Vb 2 M.T ?_ HF.out.T HVR.out ?_); rfl; rfl; rfl)
      | ((with_reducible refine wpList_build_msg ?_ 32 #[(0, .const (.int .i64 2)), (1, .tmp 65), (2, .tmp 67), (3, .tmp 69)] ?_ (mc (voteM M x) (.slice none 0 0)).toArray ?_ ?_); rfl; rfl; (simp only [List.map_toArray, List.map_cons, List.map_nil]; exact built_vote 2 M.s x M.T HF.out.T))
      | ((with_reducible refine wpList_store_msg (.tmp 14) (.tmp 70) ?_ ?_ wv.heap.size zeroMsg (voteM M x) (.slice none 0 0) (.slice none 0 0) ?_ ?_ ?_ zeroMsg_fits (voteM_fits HF.out x) ?_ ?_); rfl; rfl; rfl; rfl; exact HZ.out; rfl))
    rw [zcells_lit, HWX.out]
    replace HLV := Lib.hid (HLV.out.below hbt)
    replace HBel := Lib.hid (HBel.out.trans (hbt.mono HBel.out.size))
    replace HWD := Lib.hid (HWD.out.below hbt)
    replace HC := Lib.hid (HC.out.below hbt HC.out.lt)
    replace HM := Lib.hid (HM.out.below hbt HM.out.lt)
    replace HTA := Lib.hid (HTA.out.below hbt HTA.out.lt)
    replace HVB := Lib.hid (HVB.out.below hbt HVB.out.lt)
    replace HB := Lib.hid (HB.out.trans (hbt.mono HB.out.size))
    clear hbt HZ HWX HVR c0 c1
    generalize wv.heap.size = Mb at HOM ⊢
    have HOF := Lib.hid (voteM_fits HF.out x)
    have HC1 := Lib.hid (sealTag_any wm (HT.out.below HB.out HT.out.size) (HOK.out _ (HCI.out.below HB.out)) (voteM M x) (.slice none 0 0) HOF.out (BRow.nil _ _))
    rw [show (voteM M x).s = M.s from rfl, HKE.out, HTAG.out, HSPK.out] at HC1
    have HSLs := HSL
    have HSTs := Lib.hid (rfl : ST = ST)
    go_wp2_with (first
      | ((with_reducible refine wpList_load_msgG (.tmp 14) ?_ ?_ Mb (voteM M x) (.slice none 0 0) ?_ HOM.out HOF.out ?_); rfl; rfl; rfl)
      | ((with_reducible refine wpList_load_cfg (.tmp 3) ?_ ?_ D cs ?_ HC.out HCL.out ?_); rfl; rfl; rfl))
    refine HC1.out.mono ?_
    rintro e w5 ⟨rfl, hb⟩
    replace HLV := Lib.hid (HLV.out.below hb)
    replace HBel := Lib.hid (HBel.out.trans (hb.mono HBel.out.size))
    replace HWD := Lib.hid (HWD.out.below hb)
    replace HC := Lib.hid (HC.out.below hb HC.out.lt)
    replace HM := Lib.hid (HM.out.below hb HM.out.lt)
    replace HTA := Lib.hid (HTA.out.below hb HTA.out.lt)
    replace HVB := Lib.hid (HVB.out.below hb HVB.out.lt)
    replace HOM := Lib.hid (HOM.out.below hb HOM.out.lt)
    replace HB := Lib.hid (HB.out.trans (hb.mono HB.out.size))
    clear hb
    have hz := z16_blk w5
    have hbt := below_setRow ((Below.refl w5.heap.size w5).alloc (Nat.le_refl _) (.cells z16 30)) (Nat.le_refl w5.heap.size) (bv T).toArray
    have HZ := Lib.hid hz
    have ht3 := hz.setRow (bv T)
    obtain ⟨wt, hwt⟩ : ∃ y, (w5.alloc (.cells z16 30)).setRow w5.heap.size (bv T).toArray = y := ⟨_, rfl⟩
    rw [hwt] at hbt ht3
    have HWX := Lib.hid hwt
    have HTB := Lib.hid ht3
    clear hwt ht3 hz HC1 HSLs HSTs
    go_upto_region 19 with ((with_reducible refine wpList_store_tag (.tmp 15) (.tmp 75) ?_ ?_ w5.heap.size (List.replicate 16 0) T ?_ ?_ ?_ zeros16 HTl.out ?_); rfl; rfl; rfl; rfl; exact HZ.out)
    rw [z16_lit, HWX.out]
    replace HLV := Lib.hid (HLV.out.below hbt)
    replace HBel := Lib.hid (HBel.out.trans (hbt.mono HBel.out.size))
    replace HWD := Lib.hid (HWD.out.below hbt)
    replace HC := Lib.hid (HC.out.below hbt HC.out.lt)
    replace HM := Lib.hid (HM.out.below hbt HM.out.lt)
    replace HTA := Lib.hid (HTA.out.below hbt HTA.out.lt)
    replace HVB := Lib.hid (HVB.out.below hbt HVB.out.lt)
    replace HOM := Lib.hid (HOM.out.below hbt HOM.out.lt)
    replace HB := Lib.hid (HB.out.trans (hbt.mono HB.out.size))
    clear hbt HZ HWX
    generalize w5.heap.size = Tb at HTB ⊢
    have HC2 := Lib.hid (votes_any wt (HT.out.below HB.out HT.out.size) (HOK.out _ (HCI.out.below HB.out)) (voteM M x) (.slice none 0 0) HOF.out (BRow.nil _ _))
    rw [show (voteM M x).s = M.s from rfl, HKE.out, HVOT.out] at HC2
    go_wp2_with (first
      | ((with_reducible refine wpList_load_msgG (.tmp 14) ?_ ?_ Mb (voteM M x) (.slice none 0 0) ?_ HOM.out HOF.out ?_); rfl; rfl; rfl)
      | ((with_reducible refine wpList_load_cfg (.tmp 3) ?_ ?_ D cs ?_ HC.out HCL.out ?_); rfl; rfl; rfl))
    refine HC2.out.mono ?_
    rintro e w6 ⟨va, rfl, hh, hb⟩
    replace HLV := Lib.hid (HLV.out.below hb)
    replace HBel := Lib.hid (HBel.out.trans (hb.mono HBel.out.size))
    replace HWD := Lib.hid (HWD.out.below hb)
    replace HC := Lib.hid (HC.out.below hb HC.out.lt)
    replace HM := Lib.hid (HM.out.below hb HM.out.lt)
    replace HTA := Lib.hid (HTA.out.below hb HTA.out.lt)
    replace HVB := Lib.hid (HVB.out.below hb HVB.out.lt)
    replace HOM := Lib.hid (HOM.out.below hb HOM.out.lt)
    replace HTB := Lib.hid (HTB.out.below hb HTB.out.lt)
    replace HB := Lib.hid (HB.out.trans (hb.mono HB.out.size))
    clear hb
    obtain ⟨_, ao2, cap2, ub, uo, rfl, hlu⟩ := hh.vrow (by intro y hy; rw [List.mem_singleton] at hy; rw [hy]; exact HF.out.T)
    have ha2 := hlu.addr (by simp [vv, vcell])
    subst ha2
    have HLU := Lib.hid hlu
    rw [List.length_singleton]
    clear hh hlu HC2
    have HUC := Lib.hid (show ∀ w' : World, Below w6.heap.size w6 w' → ∀ (j : Nat) (v : Value), (vcell (x, M.s, M.T))[j]? = some v → w'.cell? ⟨ub, uo + j, none⟩ = some v from fun w' hb j v hj => (HLU.out.keep hb).cells j v (by rw [vv_sole]; exact hj))
    go_upto_region 20 with fail
    refine wp_region_free (P := Tryd.prog) 14 (fun w' => Below w6.heap.size w6 w') (fun oq v w' => match oq with
        | 0 => v = .bool true
        | 1 => v = .bool false
        | 2 => v = .bool false
        | 3 => v = .slice (some ⟨ub, uo, none⟩) 1 cap2
        | 4 => v = .int .i64 1
        | 5 => v = .bool false
        | 6 => v = .bool false
        | 7 => v = .bool false
        | 8 => v = .slice (some ⟨ub, uo, none⟩) 1 cap2
        | 9 => v = .pointer (some ⟨ub, uo, none⟩)
        | 10 => v = .agg (vcell (x, M.s, M.T)).toArray
        | 11 => v = .agg (vcell (x, M.s, M.T)).toArray
        | 12 => v = .bool false
        | 13 => v = .bool false
        | _ => True) (by kernel_rfl) (by kernel_rfl) (Below.refl _ _).drew ?gb ?vb ?steps ?fin
    case gb => exact fun a b h1 h2 => h1.trans (h2.mono h1.size)
    case vb =>
      intro oq v a b h hb
      match oq with
      | 0 => exact h
      | 1 => exact h
      | 2 => exact h
      | 3 => exact h
      | 4 => exact h
      | 5 => exact h
      | 6 => exact h
      | 7 => exact h
      | 8 => exact h
      | 9 => exact h
      | 10 => exact h
      | 11 => exact h
      | 12 => exact h
      | 13 => exact h
      | _ + 14 => trivial
    case steps =>
      intro vals
      simp only [List.take_succ_cons, List.take_zero, freeSteps, Act.put, List.setIfInBounds_toArray, List.set_cons_zero, List.set_cons_succ, Nat.reduceAdd]
      refine ⟨fun w8 hG hW => ?_, fun w8 hG hW => ?_, fun w8 hG hW => ?_, fun w8 hG hW => ?_, fun w8 hG hW => ?_, fun w8 hG hW => ?_, fun w8 hG hW => ?_, fun w8 hG hW => ?_, fun w8 hG hW => ?_, fun w8 hG hW => ?_, fun w8 hG hW => ?_, fun w8 hG hW => ?_, fun w8 hG hW => ?_, fun w8 hG hW => ?_, trivial⟩
      · clear hW
        refine stepAt_value rfl rfl rfl (.bool true) w8 ?_ ⟨rfl, Below.refl _ _⟩
        go_simp
      · have q0 := hW 0 (by decide)
        simp only at q0
        rw [q0]
        clear hW
        refine stepAt_value rfl rfl rfl (.bool false) w8 ?_ ⟨rfl, Below.refl _ _⟩
        go_simp
      · have q1 := hW 1 (by decide)
        simp only at q1
        rw [q1]
        clear hW
        refine stepAt_value rfl rfl rfl (.bool false) w8 ?_ ⟨rfl, Below.refl _ _⟩
        go_simp
      · have q2 := hW 2 (by decide)
        simp only at q2
        rw [q2]
        clear hW
        refine stepAt_value rfl rfl rfl (.slice (some ⟨ub, uo, none⟩) 1 cap2) w8 ?_ ⟨rfl, Below.refl _ _⟩
        go_simp
      · have q2 := hW 2 (by decide)
        simp only at q2
        have q3 := hW 3 (by decide)
        simp only at q3
        rw [q2, q3]
        clear hW
        refine stepAt_value rfl rfl rfl (.int .i64 1) w8 ?_ ⟨rfl, Below.refl _ _⟩
        go_simp
      · have q2 := hW 2 (by decide)
        simp only at q2
        have q4 := hW 4 (by decide)
        simp only at q4
        rw [q2, q4]
        clear hW
        refine stepAt_value rfl rfl rfl (.bool false) w8 ?_ ⟨rfl, Below.refl _ _⟩
        go_simp
      · have q2 := hW 2 (by decide)
        simp only at q2
        have q5 := hW 5 (by decide)
        simp only at q5
        rw [q2, q5]
        clear hW
        refine stepAt_value rfl rfl rfl (.bool false) w8 ?_ ⟨rfl, Below.refl _ _⟩
        go_simp
      · have q6 := hW 6 (by decide)
        simp only at q6
        rw [q6]
        clear hW
        refine stepAt_value rfl rfl rfl (.bool false) w8 ?_ ⟨rfl, Below.refl _ _⟩
        go_simp
      · have q7 := hW 7 (by decide)
        simp only at q7
        rw [q7]
        clear hW
        refine stepAt_value rfl rfl rfl (.slice (some ⟨ub, uo, none⟩) 1 cap2) w8 ?_ ⟨rfl, Below.refl _ _⟩
        go_simp
      · have q7 := hW 7 (by decide)
        simp only at q7
        have q8 := hW 8 (by decide)
        simp only at q8
        rw [q7, q8]
        clear hW
        refine stepAt_value rfl rfl rfl (.pointer (some ⟨ub, uo, none⟩)) w8 ?_ ⟨rfl, Below.refl _ _⟩
        go_simp
      · have q7 := hW 7 (by decide)
        simp only at q7
        have q9 := hW 9 (by decide)
        simp only at q9
        rw [q7, q9]
        clear hW
        exact stepAt_load_vote rfl rfl rfl (.tmp 89) rfl ub uo (x, M.s, M.T) rfl HF.out.T (HUC.out w8 hG) ⟨rfl, Below.refl _ _⟩
      · have q7 := hW 7 (by decide)
        simp only at q7
        rw [q7]
        clear hW
        exact stepAt_load_vote rfl rfl rfl (.tmp 13) rfl Vb 0 (x, M.s, M.T) rfl HF.out.T (fun j v hj => by rw [Nat.zero_add]; exact ((HVB.out.below hG HVB.out.lt).cell j).trans hj) ⟨rfl, Below.refl _ _⟩
      · have q7 := hW 7 (by decide)
        simp only at q7
        have q10 := hW 10 (by decide)
        simp only at q10
        have q11 := hW 11 (by decide)
        simp only at q11
        rw [q7, q10, q11]
        clear hW
        exact stepAt_neq_vote rfl rfl rfl (.tmp 90) (.tmp 91) _ rfl (x, M.s, M.T) (x, M.s, M.T) rfl rfl HF.out.T HF.out.T ⟨by simp, Below.refl _ _⟩
      · have q7 := hW 7 (by decide)
        simp only at q7
        have q12 := hW 12 (by decide)
        simp only at q12
        rw [q7, q12]
        clear hW
        refine stepAt_value rfl rfl rfl (.bool false) w8 ?_ ⟨rfl, Below.refl _ _⟩
        go_simp
    case fin =>
      intro vals w8 hG hV
      have qF : vals 13 = .bool false := hV 13 (by omega)
      simp only [List.take_succ_cons, List.take_zero, List.drop_succ_cons, List.drop_zero, putAll, Act.put, List.setIfInBounds_toArray, List.set_cons_zero, List.set_cons_succ, Nat.reduceAdd]
      rw [qF]
      clear hV qF
      generalize vals 0 = x0
      generalize vals 1 = x1
      generalize vals 2 = x2
      generalize vals 3 = x3
      generalize vals 4 = x4
      generalize vals 5 = x5
      generalize vals 6 = x6
      generalize vals 7 = x7
      generalize vals 8 = x8
      generalize vals 9 = x9
      generalize vals 10 = x10
      generalize vals 11 = x11
      generalize vals 12 = x12
      replace HLV := Lib.hid (HLV.out.below hG)
      replace HBel := Lib.hid (HBel.out.trans (hG.mono HBel.out.size))
      replace HWD := Lib.hid (HWD.out.below hG)
      replace HC := Lib.hid (HC.out.below hG HC.out.lt)
      replace HM := Lib.hid (HM.out.below hG HM.out.lt)
      replace HTA := Lib.hid (HTA.out.below hG HTA.out.lt)
      replace HVB := Lib.hid (HVB.out.below hG HVB.out.lt)
      replace HOM := Lib.hid (HOM.out.below hG HOM.out.lt)
      replace HTB := Lib.hid (HTB.out.below hG HTB.out.lt)
      replace HB := Lib.hid (HB.out.trans (hG.mono HB.out.size))
      clear hG
      obtain ⟨i0, hi0, hz0, hz1, hz2⟩ := info_parts Tryd.tagInfo
      have hzc : (Value.agg (zb 16).toArray).cells.size = 16 := by rfl
      have HTBc := Lib.hid (show ∀ (j : Nat) (v : Value), (bv T)[j]? = some v → w8.cell? ⟨Tb, 0 + j, none⟩ = some v from fun j v hj => by rw [Nat.zero_add]; exact (HTB.out.cell j).trans hj)
      have hb9 := (Below.refl w8.heap.size w8).alloc (Nat.le_refl _) (.cells (tv [T]).toArray 30)
      have HLT := Lib.hid (lies_tags w8 [T])
      have HSrc := Lib.hid (HLT.out.src 1 49 30 Tryd.underlying49 (n := 1) (k := 16) (by rw [tv_length _ (Tags.sole HTl.out)]; rfl) (tv_one _) (by omega) (P := Tryd.prog))
      have HW9 := Lib.hid (HWD.out.below hb9)
      have HB9 := Lib.hid (HBel.out.trans (hb9.mono HBel.out.size))
      have HTake := Lib.hid (show (List.range (j + 1)).map (fun i => TS.getD ((i + q) % n) []) = (List.range j).map (fun i => TS.getD ((i + q) % n) []) ++ [T] by rw [List.range_succ, List.map_append]; rw [show [j].map (fun i => TS.getD ((i + q) % n) []) = [TS.getD ((j + q) % n) []] from rfl, HTX.out])
      have HTG2 := Lib.hid (show Tags ((List.range j).map (fun i => TS.getD ((i + q) % n) [])) by
        intro t ht
        obtain ⟨i, _, rfl⟩ := List.mem_map.1 ht
        have hi : (i + q) % n < TS.length := by rw [HTSl.out, HN.out]; exact Nat.mod_lt _ (by omega)
        rw [List.getD_eq_getElem?_getD, List.getElem?_eq_getElem hi]
        exact HTSt.out _ (List.getElem_mem hi))
      have HVLn := Lib.hid (show (tv ((List.range j).map (fun i => TS.getD ((i + q) % n) []))).length ≤ 16000 by rw [tv_length _ HTG2.out, List.length_map, List.length_range]; omega)
      have HRW := Lib.hid (show ([T].map bv).flatten.toArray = (tv [T]).toArray by rw [rows_tv])
      have hsz := HBel.out.size
      clear hb9
      go_wp2_with (first
        | ((with_reducible refine wpList_load_tag (.tmp 15) ?_ ?_ Tb 0 T ?_ HTl.out HTBc.out ?_); rfl; rfl; rfl)
        | ((with_reducible refine wpList_build_rows ?_ 49 30 1 #[(0, .tmp 95)] ?_ i0 (.agg (zb 16).toArray) (s := 16) (by omega) ([T].map bv) (by simp [bv_length, HTl.out]) Tryd.underlying49 hi0 hz0 hz1 ?_ (by omega) (by omega) ?_ ?_); rfl; rfl; rfl; rfl; rw [HRW.out])
        | (at_builtin; refine wpList_append_wide rfl _ _ 49 49 rfl rfl HW9.out (by omega) 30 i0 (.agg (zb 16).toArray) 16 Tryd.underlying49 hi0 hz0 hz1 hz2 hzc _ rfl 1 (tv [T]) HSrc.out ?e2 ?e3 ?e4 ?_))
      case e2 => have := HVLn.out; unfold maxLen; omega
      case e3 => have := HVLn.out; omega
      case e4 => (try rw [World.size_alloc]); omega
      intro v2 w10 hh hg
      have HB10 := Lib.hid (show Below w4.heap.size w4 w10 from HB9.out.trans (hg.belowW HW9.out HB9.out.size))
      have HW10 := Lib.hid (show Wide 16 w10 w4.heap.size v2 (tv ((List.range (j + 1)).map fun i => TS.getD ((i + q) % n) [])) by rw [HTake.out, tv_append]; exact hh)
      clear hh hg HSrc HW9 HB9
      go_wp2_with fail
      go_roundw
      case rel => exact ⟨j + 1, by omega, by go_num, HW10, HB10⟩
      case measure => simp [intOf]; omega
end Go.Proofs.YtnbdpalbompjlaaDoor
