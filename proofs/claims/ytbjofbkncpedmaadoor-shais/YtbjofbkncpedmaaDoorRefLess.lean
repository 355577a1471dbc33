/-
  What the reference's Less and Show answer.
-/
import Derived.Test.YtbjofbkncpedmaaDoorOrd
namespace Go.Proofs.YtbjofbkncpedmaaDoor
open Go.RowKit

theorem less_same : ∀ (p r s : List UInt8), lessB (p ++ r) (p ++ s) = lessB r s
  | [], _, _ => rfl
  | a :: p, r, s => by rw [List.cons_append, List.cons_append, lessB_cons, if_neg (UInt8.lt_irrefl a), if_neg (UInt8.lt_irrefl a)]; exact less_same p r s

theorem split_at (r : List UInt8) (i : Nat) (x : UInt8) (h : r[i]? = some x) : r = r.take i ++ x :: r.drop (i + 1) := by
  obtain ⟨hi, rfl⟩ := List.getElem?_eq_some_iff.1 h
  rw [← List.drop_eq_getElem_cons hi, List.take_append_drop]

theorem less_at (r s : List UInt8) (i : Nat) (x y : UInt8) (hx : r[i]? = some x) (hy : s[i]? = some y) (hp : r.take i = s.take i) (hne : x ≠ y) : lessB r s = decide (x.toNat < y.toNat) := by
  rw [split_at r i x hx, split_at s i y hy, hp, less_same, lessB_cons]
  have h1 : x < y ↔ x.toNat < y.toNat := UInt8.lt_iff_toNat_lt
  have h2 : y < x ↔ y.toNat < x.toNat := UInt8.lt_iff_toNat_lt
  have h3 : x.toNat ≠ y.toNat := fun e => hne (UInt8.toNat_inj.1 e)
  by_cases h : x.toNat < y.toNat
  · rw [if_pos (h1.2 h)]; simp [h]
  · rw [if_neg (fun e => h (h1.1 e)), if_pos (h2.2 (by omega))]; simp [h]

structure TwoIn (w : World) (r s : List UInt8) (wr : World) : Prop where
  a : Blk wr w.heap.size 23 (bv r)
  b : Blk wr (w.heap.size + 1) 23 (bv s)
  hB : Below w.heap.size w wr
theorem TwoIn.drewN {w : World} {r s : List UInt8} {wr : World} (d : TwoIn w r s wr) (k : Nat) : TwoIn w r s (wr.drewN k) := ⟨d.a.drewN k, d.b.drewN k, below_drewN' d.hB k⟩

def RLRel (w : World) (r s : List UInt8) (x : Value) (wr : World) : Prop := ∃ i : Nat, x = .int .i64 (i : Int) ∧ i ≤ 32 ∧ r.take i = s.take i ∧ TwoIn w r s wr

set_option maxHeartbeats 1000000 in
theorem refless_any (w : World) (r s : List UInt8) (hr : r.length = 32) (hs : s.length = 32) :
    Calls Tryd.prog 12 #[.agg (bv r).toArray, .agg (bv s).toArray] w fun e w' => e = .returned (.bool (lessB r s)) ∧ Below w.heap.size w w' := by
  have h2 : TwoIn w r s ((w.alloc (.cells (bv r).toArray 23)).alloc (.cells (bv s).toArray 23)) := by
    have b := Blk.new (w.alloc (.cells (bv r).toArray 23)) 23 (bv s).toArray
    simp only [World.size_alloc] at b
    exact ⟨(Blk.new w 23 (bv r).toArray).alloc _, b, ((Below.refl _ _).alloc (Nat.le_refl _) _).alloc (by simp) _⟩
  have H2 := Lib.hid h2
  have HHR := Lib.hid hr
  have HHS := Lib.hid hs
  clear h2 hr hs
  go_enter Tryd.func12, Tryd.ntmps12
  go_wp2_with fail
  go_loopw [6] (fun x wr => RLRel w r s x wr) (fun x _ => 32 - intN x)
  case atStart => exact ⟨0, rfl, by omega, by simp, H2.out⟩
  case round =>
    clear H2
    obtain ⟨i, rfl, hi, hp, hR⟩ := hrel
    by_cases hlt : i < 32
    · have d0 : (i : Int) < 32 := by omega
      obtain ⟨x, hx⟩ : ∃ x, r[i]? = some x := ⟨_, List.getElem?_eq_getElem (by rw [HHR.out]; exact hlt)⟩
      obtain ⟨y, hy⟩ : ∃ y, s[i]? = some y := ⟨_, List.getElem?_eq_getElem (by rw [HHS.out]; exact hlt)⟩
      have q1 : wr.cell? ⟨w.heap.size, i, none⟩ = some (.int .u8 (x.toNat : Int)) := by rw [hR.a.cell]; simp [bv, hx]
      have q2 : wr.cell? ⟨w.heap.size + 1, i, none⟩ = some (.int .u8 (y.toNat : Int)) := by rw [hR.b.cell]; simp [bv, hy]
      obtain ⟨n, hn⟩ : ∃ n, n = x.toNat := ⟨_, rfl⟩
      obtain ⟨m, hm⟩ : ∃ m, m = y.toNat := ⟨_, rfl⟩
      rw [← hn] at q1
      rw [← hm] at q2
      have HR := Lib.hid hR
      by_cases hxy : x = y
      · have HP := Lib.hid (show r.take (i + 1) = s.take (i + 1) by rw [List.take_add_one, List.take_add_one, hp, hx, hy, hxy])
        obtain rfl : n = m := by rw [hn, hm, hxy]
        clear hp hx hy hn hm hxy hR
        go_wp2_with fail
        go_quiet (fail)
        go_wp2_with fail
        refine ⟨⟨i + 1, by simp, by omega, HP.out, HR.out.drewN nq⟩, ?_⟩
        simp only [intN]
        omega
      · have HA := Lib.hid (less_at r s i x y hx hy hp hxy)
        have hnm : ¬ ((n : Int) = (m : Int)) := by
          intro e
          have : x.toNat = y.toNat := by omega
          exact hxy (UInt8.toNat_inj.1 this)
        have HA2 := Lib.hid (show lessB r s = decide (n < m) by rw [HA.out, hn, hm])
        clear hp hx hy hn hm hxy HA hR
        go_wp2_with fail
        go_quiet (fail)
        have q1' : (wr.drewN nq).cell? ⟨w.heap.size, i, none⟩ = some (.int .u8 (n : Int)) := q1
        have q2' : (wr.drewN nq).cell? ⟨w.heap.size + 1, i, none⟩ = some (.int .u8 (m : Int)) := q2
        have hR2 := HR.out.drewN nq
        generalize wr.drewN nq = w2 at q1' q2' hR2 ⊢
        have HR2 := Lib.hid hR2
        clear q1 q2 HR hR2
        go_wp2_with fail
        go_quiet (fail)
        go_wp2_with fail
        go_ret
        refine ⟨?_, below_drewN' HR2.out.hB _⟩
        rw [HA2.out]
        rfl
    · obtain rfl : i = 32 := by omega
      have hrs : r = s := by
        rw [List.take_of_length_le (by rw [HHR.out]; omega), List.take_of_length_le (by rw [HHS.out]; omega)] at hp
        exact hp
      have HA := Lib.hid (show lessB r s = false by rw [hrs]; exact less_self s)
      have HB := Lib.hid hR.hB
      clear hR hp hrs
      go_wp2_with fail
      go_ret
      refine ⟨?_, HB.out⟩
      rw [HA.out]
      rfl

theorem digit_cut (x : Nat) (hx : x < 16) : (⟨#[48, 49, 50, 51, 52, 53, 54, 55, 56, 57, 97, 98, 99, 100, 101, 102]⟩ : ByteArray).extract x (x + 1) = ⟨[hexd x].toArray⟩ := by
  have h : ∀ y : Nat, y < 16 → ((⟨#[48, 49, 50, 51, 52, 53, 54, 55, 56, 57, 97, 98, 99, 100, 101, 102]⟩ : ByteArray).extract y (y + 1)).data.toList = [hexd y] := by decide +kernel
  apply ByteArray.ext
  apply Array.ext'
  exact h x hx

def RSRel (w : World) (r : List UInt8) (v x : Value) (wr : World) : Prop := ∃ i : Nat, x = .int .i64 (i : Int) ∧ i ≤ 32 ∧ v = .string ⟨(show_ (r.take i)).toArray⟩ ∧ Below w.heap.size w wr

set_option maxHeartbeats 1000000 in
theorem refshow_any (w : World) (r : List UInt8) (hr : r.length = 32) :
    Calls Tryd.prog 14 #[.agg (bv r).toArray] w fun e w' => e = .returned (.string ⟨(show_ r).toArray⟩) ∧ Below w.heap.size w w' := by
  have HZ := Lib.hid (root_size hr)
  have HHR := Lib.hid hr
  have hbl := Blk.new w 23 (bv r).toArray
  have HC := Lib.hid hbl.cells
  have HB := Lib.hid (show Below w.heap.size w (w.alloc (.cells (bv r).toArray 23)) from (Below.refl _ _).alloc (Nat.le_refl _) _)
  clear hr hbl
  go_enter Tryd.func14, Tryd.ntmps14
  go_wp2_with ((with_reducible refine wpList_load_cells ?_ 23 (.tmp 1) ?_ w.heap.size 0 (bv r) ?_ 32 5 ?_ Tryd.underlying23 HZ.out ?_); rfl; rfl; rfl; exact HC.out)
  go_loopw [3, 7] (fun v x wr => RSRel w r v x wr) (fun _ x _ => 32 - intN x)
  case atStart => exact ⟨0, rfl, by omega, rfl, HB.out⟩
  case round =>
    clear HB HC
    obtain ⟨i, rfl, hi, rfl, hB⟩ := hrel
    by_cases hlt : i < 32
    · have d0 : (i : Int) < 32 := by omega
      obtain ⟨b, hb⟩ : ∃ b, r[i]? = some b := ⟨_, List.getElem?_eq_getElem (by rw [HHR.out]; exact hlt)⟩
      have hb8 := b.toNat_lt
      have hix : ∀ w', (Instr.index 23 (.agg (bv r).toArray) (.int .i64 (i : Int))).run Tryd.prog w' = .ok (.int .u8 (b.toNat : Int)) w' := fun w' =>
        run_index_agg w' 23 5 32 .u8 _ i _ Tryd.underlying23 Tryd.size5 Tryd.underlying5 hlt (by rw [List.getElem?_toArray]; simp [bv, hb])
      obtain ⟨T, hT⟩ : ∃ T : ByteArray, T = ⟨(show_ (r.take i)).toArray⟩ := ⟨_, rfl⟩
      rw [← hT]
      obtain ⟨m, hm⟩ : ∃ m, m = (show_ (r.take i)).length := ⟨_, rfl⟩
      have hm64 : m ≤ 64 := by rw [hm, show_length, List.length_take]; omega
      have zT : T.size = m := by rw [hT, hm]; simp [ByteArray.size]
      obtain ⟨D1, hD1⟩ : ∃ D, (⟨#[48, 49, 50, 51, 52, 53, 54, 55, 56, 57, 97, 98, 99, 100, 101, 102]⟩ : ByteArray).extract (b.toNat / 16) (b.toNat / 16 + 1) = D := ⟨_, rfl⟩
      obtain ⟨D2, hD2⟩ : ∃ D, (⟨#[48, 49, 50, 51, 52, 53, 54, 55, 56, 57, 97, 98, 99, 100, 101, 102]⟩ : ByteArray).extract (b.toNat % 16) (b.toNat % 16 + 1) = D := ⟨_, rfl⟩
      have eD1 : D1 = ⟨[hexd (b.toNat / 16)].toArray⟩ := by rw [← hD1]; exact digit_cut _ (by omega)
      have eD2 : D2 = ⟨[hexd (b.toNat % 16)].toArray⟩ := by rw [← hD2]; exact digit_cut _ (by omega)
      have z1 : D1.size = 1 := by rw [eD1]; rfl
      have z2 : D2.size = 1 := by rw [eD2]; rfl
      have HN := Lib.hid (show T ++ D1 ++ D2 = ⟨(show_ (r.take (i + 1))).toArray⟩ by
        rw [hT, eD1, eD2, List.take_add_one, hb]
        apply ByteArray.ext
        simp [show_])
      have hsum1 : ¬ 9223372036854775807 < m + 1 := by omega
      have hsum2 : ¬ 9223372036854775807 < m + 1 + 1 := by omega
      clear hT eD1 eD2 hb hm
      go_wp2_with fail
      go_quiet (fail)
      go_wp2_with fail
      rw [HN.out]
      refine ⟨⟨i + 1, by simp, by omega, rfl, below_drewN' hB nq⟩, ?_⟩
      simp only [intN]
      omega
    · obtain rfl : i = 32 := by omega
      rw [List.take_of_length_le (by rw [HHR.out]; exact Nat.le_refl _)]
      go_wp2_with fail
      go_ret
      exact ⟨rfl, hB⟩
end Go.Proofs.YtbjofbkncpedmaaDoor
