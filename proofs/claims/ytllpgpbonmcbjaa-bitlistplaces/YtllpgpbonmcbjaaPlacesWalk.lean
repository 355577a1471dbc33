/-
  The walk of BitlistPlaces.
-/
import Derived.Test.YtllpgpbonmcbjaaAlive
import Derived.Test.YtllpgpbonmcbjaaSame
namespace Go.Proofs.Ytllpgpbonmcbjaa
open Go.RowKit

/-- The row that says yes at these places alone. -/
def rowOf (n : Nat) (ps : List Nat) : List Bool := (List.range n).map fun i => decide (i ∈ ps)

theorem rowOf_length (n : Nat) (ps : List Nat) : (rowOf n ps).length = n := by simp [rowOf]
theorem rowOf_nil (n : Nat) : rowOf n [] = List.replicate n false := by
  apply List.ext_getElem?
  intro i
  by_cases h : i < n <;> simp [rowOf, h]
theorem rowOf_snoc (n : Nat) (ps : List Nat) (p : Nat) : (rowOf n ps).set p true = rowOf n (ps ++ [p]) := by
  apply List.ext_getElem?
  intro i
  by_cases h : i < n
  · by_cases e : p = i
    · subst e
      rw [List.getElem?_set_self (by rw [rowOf_length]; exact h)]
      simp [rowOf, h]
    · rw [List.getElem?_set_ne e]
      have e' : ¬ i = p := fun h => e h.symm
      simp [rowOf, h, e']
  · rw [List.getElem?_eq_none (by rw [List.length_set, rowOf_length]; omega), List.getElem?_eq_none (by rw [rowOf_length]; omega)]

theorem pl_mem (l : List Bool) (i : Nat) : ∀ j, i ∈ pl l j ↔ i < j ∧ l.getD i false = true
  | 0 => by simp [pl]
  | j + 1 => by
    rw [pl, List.mem_append, pl_mem l i j]
    by_cases h : l.getD j false = true
    · rw [if_pos h, List.mem_singleton]
      constructor
      · rintro (⟨h1, h2⟩ | rfl)
        · exact ⟨by omega, h2⟩
        · exact ⟨by omega, h⟩
      · rintro ⟨h1, h2⟩
        by_cases e : i = j
        · exact .inr e
        · exact .inl ⟨by omega, h2⟩
    · rw [if_neg h]
      simp only [List.not_mem_nil, or_false]
      constructor
      · rintro ⟨h1, h2⟩; exact ⟨by omega, h2⟩
      · rintro ⟨h1, h2⟩
        refine ⟨?_, h2⟩
        by_cases e : i = j
        · subst e; exact absurd h2 h
        · omega

theorem rowOf_pl (l : List Bool) : rowOf l.length (pl l l.length) = l := by
  apply List.ext_getElem?
  intro i
  by_cases h : i < l.length
  · simp only [rowOf, List.getElem?_map, List.getElem?_range h, Option.map_some]
    rw [List.getElem?_eq_getElem h]
    have := pl_mem l i l.length
    rw [Bool.eq_iff_iff.2 (show decide (i ∈ pl l l.length) = true ↔ l[i] = true by
      rw [decide_eq_true_iff, this, List.getD_eq_getElem?_getD, List.getElem?_eq_getElem h]
      simp [h])]
  · rw [List.getElem?_eq_none (by rw [rowOf_length]; omega), List.getElem?_eq_none (by omega)]

/-- Places rise. -/
theorem pl_rise (l : List Bool) : ∀ j, (pl l j).Pairwise (· < ·)
  | 0 => by simp [pl]
  | j + 1 => by
    rw [pl, List.pairwise_append]
    refine ⟨pl_rise l j, by split <;> simp, fun a ha b hb => ?_⟩
    have := ((pl_mem l a j).1 ha).1
    split at hb
    · simp at hb; omega
    · simp at hb

/-- The place ahead of place m, or -1. -/
def lastOf (ps : List Nat) (m : Nat) : Int := if m = 0 then -1 else ((ps.getD (m - 1) 0 : Nat) : Int)

theorem last_lt {ps : List Nat} (h : ps.Pairwise (· < ·)) {m : Nat} (hm : m < ps.length) : lastOf ps m < ((ps[m] : Nat) : Int) := by
  unfold lastOf
  split
  · omega
  · rename_i h0
    rw [List.getD_eq_getElem?_getD, List.getElem?_eq_getElem (by omega)]
    have := List.pairwise_iff_getElem.1 h (m - 1) m (by omega) hm (by omega)
    simp
    omega

set_option maxHeartbeats 1000000 in
theorem places_law (w : World) (u : Value) (l : List Bool) (hu : Row w w.heap.size u l) (hl : l.length ≤ 500) :
    Calls Try.prog 7 #[u] w fun e w' => e = .returned (.bool true) ∧ Below w.heap.size w w' := by
  obtain ⟨i0, hi, hz0, hz1, hz2⟩ := info_parts Try.info4
  have hu0 := hu
  obtain ⟨ao, cap, b, off, rfl, hcap, hmax, hr⟩ := hu
  obtain ⟨n, hn⟩ : ∃ n, n = l.length := ⟨_, rfl⟩
  rw [← hn] at hl hu0
  rw [← hn]
  have hmk := fun W => run_makeSlice (P := Try.prog) W 22 4 i0 (.bool false) Try.underlying22 hi hz0 .i64 .i64 (n : Int) (n : Int) (by omega) (by omega) (by rw [hz1]; simp; omega) (by rw [hz2]; omega) (by omega)
  simp only [Int.toNat_natCast, hz1, Nat.mul_one] at hmk
  have HN := Lib.hid hn
  have HU := Lib.hid hu0
  clear hn hcap hmax hr hu0
  have c1 : ¬ ((500 : Int) < (n : Int)) := by omega
  go_enter Try.func7, Try.ntmps7
  go_wp2_with fail
  refine (alive_any w).mono ?_
  rintro e w1 ⟨rfl, hb1⟩
  have hmade := made_new w1 n 4
  have hbel : Below w1.heap.size w1 (w1.alloc (.cells (madeCells (Value.bool false).cells n) 4)) := (Below.refl _ _).alloc (Nat.le_refl _) _
  have hmk0 := hmk w1
  obtain ⟨w2, hw2⟩ : ∃ w2, w2 = w1.alloc (.cells (madeCells (Value.bool false).cells n) 4) := ⟨_, rfl⟩
  rw [← hw2] at hmade hbel hmk0
  clear hw2 hmk
  obtain ⟨g, hg⟩ : ∃ g, g = w1.heap.size := ⟨_, rfl⟩
  rw [← hg] at hmade hmk0 hbel
  have HG := Lib.hid hg
  clear hg
  go_wp2_with fail
  clear hmk0
  have hb2 : Below w.heap.size w w2 := hb1.trans (hbel.mono (by rw [HG.out]; exact hb1.size))
  refine (places_any w2 w.heap.size _ l hb2.size (HU.out.keep hb2) (by rw [← HN.out]; omega)).mono ?_
  rintro e w3 ⟨v3, rfl, hh3, hb3⟩
  have hps := pl_rise l l.length
  have hpm : ∀ j (h : j < (pl l l.length).length), (pl l l.length)[j] < n := fun j h => by
    have := ((pl_mem l _ l.length).1 (List.getElem_mem h)).1
    rw [HN.out]; exact this
  have hrow := rowOf_pl l
  rw [← HN.out] at hh3 hps hpm hrow
  have hpl := pl_length l n
  obtain ⟨ps, hpse⟩ : ∃ ps, ps = pl l n := ⟨_, rfl⟩
  rw [← hpse] at hh3 hps hpm hrow hpl
  clear hpse
  obtain ⟨M, pcap, pg, poff, pao, rfl, hp⟩ := hh3
  have hM := hp.len
  rw [iv_length] at hM
  have hgw : g < w2.heap.size := hmade.lt
  have hpg : 0 < M → pao = some ⟨pg, poff, none⟩ ∧ w2.heap.size ≤ pg := fun h0 => by
    have ha := hp.addr (Nat.lt_of_lt_of_le h0 hp.le)
    exact ⟨ha, hp.own _ ha⟩
  have hcs : ∀ (j q : Nat), ps[j]? = some q → w3.cell? ⟨pg, poff + j, none⟩ = some (.int .i64 (q : Int)) := fun j q h => hp.cells j _ (by
    rw [iv, List.getElem?_map, h]; rfl)
  have HS := Lib.hid hps
  have HM := Lib.hid hpm
  have HR := Lib.hid hrow
  have HL := Lib.hid hM
  have HC := Lib.hid hcs
  have HP := Lib.hid hpg
  have h2 : Below g w1 w3 := hbel.trans (hb3.mono (by omega))
  have hm3 : Made w3 g (rowOf n (ps.take 0)) := by
    rw [List.take_zero, rowOf_nil]
    have hz := hb3.size
    refine ⟨by omega, fun j x hj => (hb3.cell (p := ⟨g, j, none⟩) hgw).trans (hmade.cells j x hj), fun j hj => (hb3.frozen (p := ⟨g, j, none⟩) hgw).trans (hmade.free j hj)⟩
  have hMn : M ≤ n := by omega
  clear hps hpm hrow hM hcs hpg hp hb2 hmade hbel
  go_wp2_with fail
  go_loopw [4, 18] (fun t i wr => ∃ m : Nat, m ≤ M ∧ i = .int .i64 m ∧ t = .int .i64 (lastOf ps m) ∧ Made wr g (rowOf n (ps.take m)) ∧ Below g w1 wr ∧ (∀ j (h : j < M), wr.cell? ⟨pg, poff + j, none⟩ = w3.cell? ⟨pg, poff + j, none⟩)) (fun _ i _ => M - (intOf i).toNat)
  case atStart => exact ⟨0, Nat.zero_le _, rfl, rfl, hm3, h2, fun _ _ => rfl⟩
  case round =>
    clear hm3 h2
    obtain ⟨m, hm, rfl, rfl, hmd, hbl, hsame⟩ := hrel
    by_cases hlt : m < M
    · have hml : m < ps.length := by rw [← HL.out]; exact hlt
      obtain ⟨rfl, hpgg⟩ := HP.out (by omega)
      have hc := (hsame m hlt).trans (HC.out m _ (List.getElem?_eq_getElem hml))
      obtain ⟨q, hq⟩ : ∃ q, q = ps[m] := ⟨_, rfl⟩
      have hqn : q < n := by rw [hq]; exact HM.out m hml
      have hla := last_lt HS.out hml
      have hsn := rowOf_snoc n (ps.take m) q
      have htk : ps.take m ++ [q] = ps.take (m + 1) := by rw [List.take_add_one, List.getElem?_eq_getElem hml, hq]; rfl
      have hln : lastOf ps (m + 1) = (q : Int) := by
        unfold lastOf
        rw [if_neg (by omega), List.getD_eq_getElem?_getD, Nat.add_sub_cancel, List.getElem?_eq_getElem hml, hq]; rfl
      rw [← hq] at hc hla
      rw [htk] at hsn
      have hql : q < (rowOf n (ps.take m)).length := by rw [rowOf_length]; exact hqn
      have hcell := hmd.cells q _ (List.getElem?_eq_getElem hql)
      have hfree := hmd.free q hql
      have hset := hmd.set q hql true
      rw [hsn] at hset
      obtain ⟨t, ht⟩ : ∃ t, t = lastOf ps m := ⟨_, rfl⟩
      rw [← ht] at hla
      rw [← ht]
      generalize (rowOf n (ps.take m))[q] = y at hcell
      have hsm : ∀ j (h : j < M), (wr.setCell ⟨g, q, none⟩ (.bool true)).cell? ⟨pg, poff + j, none⟩ = w3.cell? ⟨pg, poff + j, none⟩ := fun j h =>
        (World.cell?_setCell_other _ _ _ _ (by intro e; cases e; omega)).trans (hsame j h)
      have t1 : ¬ ((q : Int) ≤ t) := by omega
      have t2 : ¬ ((n : Int) ≤ (q : Int)) := by omega
      have HSet := Lib.hid hset
      have HSm := Lib.hid hsm
      have HLn := Lib.hid hln
      have HB := Lib.hid hbl
      clear hset hsm hln hsame hq htk hsn ht hmd hql hml hbl
      go_wp2
      go_roundw
      case rel => exact ⟨m + 1, by omega, by go_num, by rw [HLn.out], HSet.out, HB.out.setCell (Nat.le_refl _) _, HSm.out⟩
      case measure => simp [intOf]; omega
    · obtain rfl : m = M := by omega
      rw [List.take_of_length_le (by rw [← HL.out]; omega), HR.out] at hmd
      have hz := hbl.size
      have hg1 := HG.out
      have hbw : Below w.heap.size w wr := hb1.trans (hbl.mono (by rw [hg1]; exact hb1.size))
      have hrow1 := (hmd.held (base := g) (Nat.le_refl _) (by rw [← HN.out]; unfold maxLen; omega)).row
      have hrow2 := (HU.out.keep hbw).more hbw.size
      rw [← HN.out] at hrow1
      have HQ := Lib.hid (same_yes wr wr.heap.size _ _ l (Nat.le_refl _) hrow1 hrow2 (by rw [← HN.out]; omega))
      have HW := Lib.hid hbw
      clear hrow1 hrow2 hg1 hbw hbl hsame hmd
      go_wp2_with fail
      refine HQ.out.mono ?_
      rintro e w5 ⟨rfl, hb5⟩
      go_wp2
      go_ret
      exact ⟨rfl, HW.out.trans (hb5.mono HW.out.size)⟩

theorem places_over (w : World) (ao : Option Addr) (n cap : Nat) (hn : 500 < n) : Calls Try.prog 7 #[.slice ao n cap] w fun e w' => e = .returned (.bool true) ∧ Below w.heap.size w w' := by
  have c1 : (500 : Int) < (n : Int) := by omega
  go_enter Try.func7, Try.ntmps7
  go_wp2_with fail
  refine (alive_any w).mono ?_
  rintro e w1 ⟨rfl, hb1⟩
  go_wp2
  go_ret
  exact ⟨rfl, hb1⟩

theorem places_all (w : World) (ao : Option Addr) (n cap : Nat) (l : List Bool) (hl : l.length = n) (hu : Row w w.heap.size (.slice ao n cap) l) :
    Calls Try.prog 7 #[.slice ao n cap] w fun e w' => e = .returned (.bool true) ∧ Below w.heap.size w w' := by
  by_cases h : 500 < n
  · exact places_over w ao n cap h
  · exact places_law w _ l hu (by omega)

end Go.Proofs.Ytllpgpbonmcbjaa
