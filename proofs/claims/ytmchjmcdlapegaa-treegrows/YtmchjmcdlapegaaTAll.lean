/-
  The program's iterator over all blocks of a tree.
-/
import Derived.Test.YtmchjmcdlapegaaTre
import Derived.Test.YtmchjmcdlapegaaOverLaws
namespace Go.Proofs.Ytmchjmcdlapegaa
open Go Go.RowKit Go.Shelf
set_option maxRecDepth 10000
attribute [local go_sem] Oper.semAt_some

/-- A tree stays where its own blocks do. -/
theorem Tre.moved {w w' : World} {F : List Nat} {b : Nat} {t : List Nd} {most : Int} (h : Tre w F b t most) (hs : w.heap.size ≤ w'.heap.size) (hb : ∀ k ∈ F, w'.heap[k]? = w.heap[k]?) : Tre w' F b t most := by
  obtain ⟨G, m, v, h⟩ := h
  refine ⟨G, m, v, h.nds, (hb b h.inb).trans h.blk, ?_, ?_, h.vb, h.vm, h.bm, h.inb, h.inm, h.inv, h.low.keep hs⟩
  · have hv := h.inv
    have hw := h.wide
    obtain ⟨n, cap, g, off, ao, rfl, hw⟩ := hw
    exact ⟨n, cap, g, off, ao, rfl, hw.carry hs fun hc => hb g (hv g (by rw [hw.addr hc]; rfl))⟩
  · obtain ⟨D, ⟨es, clock, hm, rest⟩, hS⟩ := h.map
    exact ⟨D, ⟨es, clock, (hb m h.inm).trans hm, rest⟩, hS⟩

/-- Blocks as an iterator hands them over. -/
abbrev Ndl := { n : Nd // n.1.length = 32 }
theorem Nds.tail {n : Nd} {r : List Nd} (h : Nds (n :: r)) : Nds r := fun x hx => h x (List.mem_cons_of_mem _ hx)
def ndl : (t : List Nd) → Nds t → List Ndl
  | [], _ => []
  | n :: r, h => ⟨n, h n List.mem_cons_self⟩ :: ndl r h.tail
theorem ndl_val : ∀ (t : List Nd) (h : Nds t), (ndl t h).map (·.1) = t
  | [], _ => rfl
  | n :: r, h => by rw [ndl, List.map_cons, ndl_val r h.tail]
theorem ndl_length (t : List Nd) (h : Nds t) : (ndl t h).length = t.length := by
  have := congrArg List.length (ndl_val t h)
  simpa using this
theorem ndl_at : ∀ {t : List Nd} (h : Nds t) {i : Nat} {n : Nd} (hi : t[i]? = some n), (ndl t h)[i]? = some ⟨n, h n (List.mem_of_getElem? hi)⟩
  | [], _, i, n, hi => by simp at hi
  | m :: r, h, 0, n, hi => by
    simp at hi
    subst hi
    rfl
  | m :: r, h, i + 1, n, hi => by
    rw [ndl, List.getElem?_cons_succ]
    exact ndl_at h.tail (by simpa using hi)

theorem all_any (w : World) (v : Option Addr) : Calls Try.prog 29 #[.pointer v] w fun e w' => e = .returned (.func (.func 33) #[] #[.pointer (some ⟨w.heap.size, 0, none⟩)]) ∧ w' = w.alloc (.cells #[.pointer v] 26) := by
  go_enter Try.func29, Try.ntmps29
  go_wp2_with fail
  go_ret
  exact ⟨rfl, rfl⟩

/-- What an iterator may rely on, between two rounds. -/
theorem KpB.tre {LB R : Nat} {A B : World} {F : List Nat} {b : Nat} {t : List Nd} {most : Int} (h : KpB LB R A B) (hT : Tre A F b t most) (hF : ∀ x ∈ F, x < R) (hA : Away F (SB LB A)) : Tre B F b t most :=
  hT.moved h.size fun k hk => h.block k (hT.low k hk) (hA k hk) (.inl (hF k hk))
theorem KpB.cell {LB R : Nat} {A B : World} (h : KpB LB R A B) {g j : Nat} {v : Value} (hc : A.cell? ⟨g, j, none⟩ = some v) (hg : g < R) (hA : g ∉ SB LB A) : B.cell? ⟨g, j, none⟩ = some v := by
  rw [World.cell?_of_block (a := ⟨g, j, none⟩) (h.block g (World.block_lt_of_cell? A ⟨g, j, none⟩ hc) hA (.inl hg))]; exact hc

theorem meas (N k : Nat) (x : Int) (hx : x.toNat = k + 1) (h : k < N) : N - (intOf (.int .i64 x)).toNat < N - (intOf (.int .i64 (k : Int))).toNat := by
  show N - x.toNat < N - ((k : Int)).toNat
  rw [hx, Int.toNat_natCast]
  omega
set_option maxHeartbeats 4000000 in
theorem all_gives (LB R : Nat) (w : World) (F : List Nat) (b Bn : Nat) (t : List Nd) (most : Int) (hT : Tre w F b t most) (hBn : w.cell? ⟨Bn, 0, none⟩ = some (.pointer (some ⟨b, 0, none⟩))) (hR : R ≤ w.heap.size) (hLB : LB < R) (hF : ∀ x ∈ F, x < R) (hB : Bn < R) (hA : Away F (SB LB w)) (hAB : Bn ∉ SB LB w) :
    Gives (α := Ndl) Try.prog LB R 33 #[.pointer (some ⟨Bn, 0, none⟩)] (fun x => #[.agg (ndv x.1).toArray]) (fun xs => xs.map (·.1) = t) (fun _ => True) t.length w := by
  intro l J Jx W hW hJ hJx hY h0
  have eS : SB LB W = SB LB w := SB.same (hW.block LB (by omega))
  have HT := Lib.hid (hT.below hW)
  have HBN := Lib.hid ((hW.cell (p := ⟨Bn, 0, none⟩) (by simp; omega)).trans hBn)
  have HA := Lib.hid (show Away F (SB LB W) by rw [eS]; exact hA)
  have HAB := Lib.hid (show Bn ∉ SB LB W by rw [eS]; exact hAB)
  have HY := Lib.hid hY
  have HF := Lib.hid hF
  have HL := Lib.hid (show t.length ≤ 256 by have h1 := hT.1.room; have h2 := hT.1.most256; omega)
  clear hW hY eS hT hBn hA hAB hF
  obtain ⟨N, hN⟩ : ∃ N, N = t.length := ⟨_, rfl⟩
  have HN := Lib.hid hN
  refine callsIn_of_wp Try.func33 rfl trivial ?_ rfl
  simp only [Try.ntmps33, List.size_toArray, List.length_cons, List.length_nil, Nat.reduceAdd, Nat.reduceSub, Array.replicate_succ, Array.replicate_zero, List.push_toArray, List.append_toArray, List.nil_append, List.cons_append]
  have c1 := HBN.out
  have HLE := Lib.hid ((callsIn_wide (n := 8)).2 (len_any W F b t most HT.out))
  rw [← hN] at HLE HL
  clear hN
  gi_wp2_with (refine ⟨trivial, ?_⟩; gi_at_call 12; refine HLE.out.mono ?_; rintro e w' ⟨rfl, hw⟩; have hw := hw.symm; subst hw)
  gi_loopw [6] (fun i wr => ∃ k : Nat, k ≤ N ∧ i = .int .i64 k ∧ Hid (J ((ndl t HT.out.1.nds).take k) wr) ∧ Hid (KpB LB R W wr)) (fun i _ => N - (intOf i).toNat)
  case atStart => exact ⟨0, Nat.zero_le _, rfl, Lib.hid (by simpa using h0), Lib.hid ⟨Nat.le_refl _, fun _ _ _ _ => rfl, NewF.refl _ _⟩⟩
  case round =>
    obtain ⟨k, hk, rfl, HJ, HK⟩ := hrel
    by_cases hlt : k < N
    · obtain ⟨n, hn⟩ : ∃ n, t[k]? = some n := ⟨_, List.getElem?_eq_getElem (by rw [← HN.out]; exact hlt)⟩
      have HT2 := Lib.hid (HK.out.tre HT.out HF.out HA.out)
      obtain ⟨m, ao, cap, bb, off, hr, hl⟩ := HT2.out.slice
      have ha := hl.node_addr hr.nds hn
      have HC := Lib.hid (hl.node hr.nds hn)
      have HNL := Lib.hid (hr.nds n (List.mem_of_getElem? hn))
      subst ha
      have c0 := hr.blk.cell 0
      have cB := HK.out.cell HBN.out hB HAB.out
      have hsnoc : (ndl t HT.out.1.nds).take k ++ [⟨n, hr.nds n (List.mem_of_getElem? hn)⟩] = (ndl t HT.out.1.nds).take (k + 1) := by
        rw [List.take_add_one, ndl_at _ hn]; rfl
      obtain ⟨fn, tmps, assign, body, hy, hR⟩ := HY.out _ ⟨n, hr.nds n (List.mem_of_getElem? hn)⟩ wr HJ.out (by rw [List.length_take, ndl_length, ← HN.out]; omega)
      dsimp only at hy
      rw [hsnoc] at hR
      have HRR := Lib.hid hR
      have hl1 : k < t.length := by rw [← HN.out]; exact hlt
      rw [← HN.out] at c0
      clear hr hl hn hsnoc hR
      gi_wp2_with ((with_reducible refine wpListIn_load wide_fn 51 (.tmp 15) ?_ ?_ _ _ ?_ (run_load_node HNL.out HC.out) ?_); rfl; rfl; rfl)
      refine HRR.out.mono ?_
      rintro e W3 (⟨rfl, hJ3, hk3⟩ | ⟨rfl, hJx3⟩)
      · have HTN := Lib.hid (show (wrap64 ((k : Int) + 1)).toNat = k + 1 by
          have h1 := HL.out
          have h2 : wrap64 ((k : Int) + 1) = ((k + 1 : Nat) : Int) := by unfold wrap64; omega
          rw [h2, Int.toNat_natCast])
        have hw64 : wrap64 ((k : Int) + 1) = (k : Int) + 1 := by have := HL.out; unfold wrap64; omega
        have HJ3 := Lib.hid hJ3
        have HK3 := Lib.hid (HK.out.trans hk3)
        clear hJ3 hk3
        gi_wp2_with fail
        go_roundw
        case rel => exact ⟨k + 1, by omega, by rw [hw64]; simp, HJ3, HK3⟩
        case measure => exact meas N k _ HTN.out hlt
      · have HJ3 := Lib.hid hJx3
        clear hJx3
        gi_wp2_with fail
        refine bodyPost_ret (results_none rfl _ _ _) rfl ?_
        exact ⟨⟨_, rfl⟩, .inr ⟨_, trivial, HJ3.out⟩⟩
    · have hkN : k = N := by omega
      have HJ4 := Lib.hid (show J (ndl t HT.out.1.nds) wr by
        have := HJ.out
        rw [List.take_of_length_le (by rw [ndl_length, ← HN.out]; omega)] at this
        exact this)
      gi_wp2_with fail
      go_end0
      exact ⟨⟨_, rfl⟩, .inl ⟨_, ndl_val t _, HJ4.out⟩⟩
end Go.Proofs.Ytmchjmcdlapegaa
