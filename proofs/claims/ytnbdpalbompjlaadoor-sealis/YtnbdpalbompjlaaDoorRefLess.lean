/-
  What the reference's Less answers.
-/
import Derived.Test.YtnbdpalbompjlaaDoorM5
namespace Go.Proofs.YtnbdpalbompjlaaDoor
open Go.RowKit
set_option maxRecDepth 10000

theorem less_same : ∀ (p r s : List UInt8), lessB (p ++ r) (p ++ s) = lessB r s
  | [], _, _ => rfl
  | a :: p, r, s => by rw [List.cons_append, List.cons_append, lessB_cons, if_neg (UInt8.lt_irrefl a), if_neg (UInt8.lt_irrefl a)]; exact less_same p r s

theorem split_at (r : List UInt8) (i : Nat) (x : UInt8) (h : r[i]? = some x) : r = r.take i ++ x :: r.drop (i + 1) := by
  obtain ⟨hi, rfl⟩ := List.getElem?_eq_some_iff.1 h
  rw [← List.drop_eq_getElem_cons hi, List.take_append_drop]

theorem less_at (r s : List UInt8) (i : Nat) (x y : UInt8) (hx : r[i]? = some x) (hy : s[i]? = some y) (hp : r.take i = s.take i) (hne : x ≠ y) : lessB r s = decide (x.toNat < y.toNat) := by
  rw [split_at r i x hx, split_at s i y hy, hp, less_same, lessB_cons]
  have h1 : x < y ↔ x.toNat < y.toNat := UInt8.lt_iff_toNat_lt
  have h2 : y < x ↔ y.toNat < x.toNat := UInt8.lt_iff_toNat_lt
  have h3 : x.toNat ≠ y.toNat := fun e => hne (UInt8.toNat_inj.1 e)
  by_cases h : x.toNat < y.toNat
  · rw [if_pos (h1.2 h)]; simp [h]
  · rw [if_neg (fun e => h (h1.1 e)), if_pos (h2.2 (by omega))]; simp [h]

structure TwoIn (w : World) (r s : List UInt8) (wr : World) : Prop where
  a : Blk wr w.heap.size 26 (bv r)
  b : Blk wr (w.heap.size + 1) 26 (bv s)
  hB : Below w.heap.size w wr
theorem TwoIn.drewN {w : World} {r s : List UInt8} {wr : World} (d : TwoIn w r s wr) (k : Nat) : TwoIn w r s (wr.drewN k) := ⟨d.a.drewN k, d.b.drewN k, below_drewN' d.hB k⟩

def RLRel (w : World) (r s : List UInt8) (x : Value) (wr : World) : Prop := ∃ i : Nat, x = .int .i64 (i : Int) ∧ i ≤ 32 ∧ r.take i = s.take i ∧ TwoIn w r s wr

set_option maxHeartbeats 1000000 in
theorem refless_any (w : World) (r s : List UInt8) (hr : r.length = 32) (hs : s.length = 32) :
    Calls Tryd.prog 47 #[.agg (bv r).toArray, .agg (bv s).toArray] w fun e w' => e = .returned (.bool (lessB r s)) ∧ Below w.heap.size w w' := by
  have h2 : TwoIn w r s ((w.alloc (.cells (bv r).toArray 26)).alloc (.cells (bv s).toArray 26)) := by
    have b := Blk.new (w.alloc (.cells (bv r).toArray 26)) 26 (bv s).toArray
    simp only [World.size_alloc] at b
    exact ⟨(Blk.new w 26 (bv r).toArray).alloc _, b, ((Below.refl _ _).alloc (Nat.le_refl _) _).alloc (by simp) _⟩
  have H2 := Lib.hid h2
  have HHR := Lib.hid hr
  have HHS := Lib.hid hs
  clear h2 hr hs
  go_enter Tryd.func47, Tryd.ntmps47
  go_wp2_with fail
  go_loopw [6] (fun x wr => RLRel w r s x wr) (fun x _ => 32 - intN x)
  case atStart => exact ⟨0, rfl, by omega, by simp, H2.out⟩
  case round =>
    clear H2
    obtain ⟨i, rfl, hi, hp, hR⟩ := hrel
    by_cases hlt : i < 32
    · have d0 : (i : Int) < 32 := by omega
      obtain ⟨x, hx⟩ : ∃ x, r[i]? = some x := ⟨_, List.getElem?_eq_getElem (by rw [HHR.out]; exact hlt)⟩
      obtain ⟨y, hy⟩ : ∃ y, s[i]? = some y := ⟨_, List.getElem?_eq_getElem (by rw [HHS.out]; exact hlt)⟩
      have q1 : wr.cell? ⟨w.heap.size, i, none⟩ = some (.int .u8 (x.toNat : Int)) := by rw [hR.a.cell]; simp [bv, hx]
      have q2 : wr.cell? ⟨w.heap.size + 1, i, none⟩ = some (.int .u8 (y.toNat : Int)) := by rw [hR.b.cell]; simp [bv, hy]
      obtain ⟨n, hn⟩ : ∃ n, n = x.toNat := ⟨_, rfl⟩
      obtain ⟨m, hm⟩ : ∃ m, m = y.toNat := ⟨_, rfl⟩
      rw [← hn] at q1
      rw [← hm] at q2
      have HR := Lib.hid hR
      by_cases hxy : x = y
      · have HP := Lib.hid (show r.take (i + 1) = s.take (i + 1) by rw [List.take_add_one, List.take_add_one, hp, hx, hy, hxy])
        obtain rfl : n = m := by rw [hn, hm, hxy]
        clear hp hx hy hn hm hxy hR
        go_wp2_with fail
        go_quiet (fail)
        go_wp2_with fail
        refine ⟨⟨i + 1, by simp, by omega, HP.out, HR.out.drewN nq⟩, ?_⟩
        simp only [intN]
        omega
      · have HA := Lib.hid (less_at r s i x y hx hy hp hxy)
        have hnm : ¬ ((n : Int) = (m : Int)) := by
          intro e
          have : x.toNat = y.toNat := by omega
          exact hxy (UInt8.toNat_inj.1 this)
        have HA2 := Lib.hid (show lessB r s = decide (n < m) by rw [HA.out, hn, hm])
        clear hp hx hy hn hm hxy HA hR
        go_wp2_with fail
        go_quiet (fail)
        have q1' : (wr.drewN nq).cell? ⟨w.heap.size, i, none⟩ = some (.int .u8 (n : Int)) := q1
        have q2' : (wr.drewN nq).cell? ⟨w.heap.size + 1, i, none⟩ = some (.int .u8 (m : Int)) := q2
        have hR2 := HR.out.drewN nq
        generalize wr.drewN nq = w2 at q1' q2' hR2 ⊢
        have HR2 := Lib.hid hR2
        clear q1 q2 HR hR2
        go_wp2_with fail
        go_quiet (fail)
        go_wp2_with fail
        go_ret
        refine ⟨?_, below_drewN' HR2.out.hB _⟩
        rw [HA2.out]
        rfl
    · obtain rfl : i = 32 := by omega
      have hrs : r = s := by
        rw [List.take_of_length_le (by rw [HHR.out]; omega), List.take_of_length_le (by rw [HHS.out]; omega)] at hp
        exact hp
      have HA := Lib.hid (show lessB r s = false by rw [hrs]; exact less_self s)
      have HB := Lib.hid hR.hB
      clear hR hp hrs
      go_wp2_with fail
      go_ret
      refine ⟨?_, HB.out⟩
      rw [HA.out]
      rfl

end Go.Proofs.YtnbdpalbompjlaaDoor
