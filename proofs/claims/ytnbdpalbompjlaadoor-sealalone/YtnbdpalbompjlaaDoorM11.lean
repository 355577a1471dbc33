/-
  The texts Less, Ord0, RefLess, one behind the other.
-/
import Derived.Test.YtnbdpalbompjlaaDoorM10
import Derived.Lib.BytesEntry
import Derived.Laws.Externs
/-
  What Less answers.
-/
namespace Go.Proofs.YtnbdpalbompjlaaDoor
open Go.RowKit
set_option maxRecDepth 10000

/-- A digest comes ahead of another one. -/
def lessB (r s : List UInt8) : Bool := decide (Lib.compareBytes r s < 0)

theorem bytesOf_ints (l : List UInt8) : Lib.bytesOf (l.map fun b => (b.toNat : Int)) = l := by
  rw [Lib.bytesOf, List.map_map]
  conv => rhs; rw [← List.map_id l]
  congr 1
  funext b
  simp

theorem load_bytes {w : World} {g : Nat} {t : TypeId} {l : List UInt8} (h : Blk w g t (bv l)) (n c : Nat) (hn : l.length = n) : (Extern.Bytes.bytesOf (.slice (some ⟨g, 0, none⟩) n c)).run Tryd.prog w = .ok ⟨l.toArray⟩ w := by
  have hl := Lib.run_loadBytesX (P := Tryd.prog) w (l.map fun b => (b.toNat : Int)) ⟨g, 0, none⟩ .empty (fun j x hj => by
    rw [Addr.add_lit, Nat.zero_add, h.cell]
    rw [List.getElem?_map] at hj
    cases hx : l[j]? with
    | none => rw [hx] at hj; cases hj
    | some y => rw [hx] at hj; cases hj; simp [bv, hx])
  rw [bytesOf_ints, List.length_map, hn] at hl
  simpa [Extern.Bytes.bytesOf] using hl

theorem cmp_run {w : World} {g1 g2 : Nat} {t1 t2 : TypeId} {r s : List UInt8} (h1 : Blk w g1 t1 (bv r)) (h2 : Blk w g2 t2 (bv s)) (hr : r.length = 32) (hs : s.length = 32) :
    (callFunc 105 #[.slice (some ⟨g1, 0, none⟩) 32 32, .slice (some ⟨g2, 0, none⟩) 32 32]).run Tryd.prog w = .ok (.value (.int .i64 (Lib.compareBytes r s))) w := by
  rw [run_callFunc_extern Tryd.func105 (by kernel_rfl) (by kernel_rfl) (by kernel_rfl) (e := Extern.BytealgCompare.compare) (by kernel_rfl)]
  have hc : (Extern.BytealgCompare.compare #[.slice (some ⟨g1, 0, none⟩) 32 32, .slice (some ⟨g2, 0, none⟩) 32 32]).run Tryd.prog w = .ok (.int .i64 (Lib.compareBytes r s)) w := by
    change Sem.run Tryd.prog (do pure (goInt (Extern.BytealgCompare.cmp (← Extern.Bytes.bytesOf (.slice (some ⟨g1, 0, none⟩) 32 32)) (← Extern.Bytes.bytesOf (.slice (some ⟨g2, 0, none⟩) 32 32))))) w = _
    simp only [Sem.run_bind, load_bytes h1 32 32 hr, load_bytes h2 32 32 hs, Result.andThen, Sem.run_pure]
    rw [Lib.cmp_eq]
    rfl
  rw [hc]
  rfl

theorem compare_any (w : World) (g1 g2 : Nat) (t1 t2 : TypeId) (r s : List UInt8) (h1 : Blk w g1 t1 (bv r)) (h2 : Blk w g2 t2 (bv s)) (hr : r.length = 32) (hs : s.length = 32) :
    Calls Tryd.prog 93 #[.slice (some ⟨g1, 0, none⟩) 32 32, .slice (some ⟨g2, 0, none⟩) 32 32] w fun e w' => e = .returned (.int .i64 (Lib.compareBytes r s)) ∧ w' = w := by
  have hc := cmp_run h1 h2 hr hs
  clear h1 h2
  go_enter Tryd.func93, Tryd.ntmps93
  go_wp2_with fail
  go_ret
  exact ⟨rfl, rfl⟩

set_option maxHeartbeats 1000000 in
theorem less_any (w : World) (r s : List UInt8) (hr : r.length = 32) (hs : s.length = 32) :
    Calls Tryd.prog 76 #[.agg (bv r).toArray, .agg (bv s).toArray] w fun e w' => e = .returned (.bool (lessB r s)) ∧ Below w.heap.size w w' := by
  have h1 := (Blk.new w 26 (bv r).toArray).alloc (.cells (bv s).toArray 26)
  have h2 := Blk.new (w.alloc (.cells (bv r).toArray 26)) 26 (bv s).toArray
  have hb : Below w.heap.size w ((w.alloc (.cells (bv r).toArray 26)).alloc (.cells (bv s).toArray 26)) := ((Below.refl _ _).alloc (Nat.le_refl _) _).alloc (by simp) _
  simp only [World.size_alloc] at h2
  have H1 := Lib.hid h1
  have H2 := Lib.hid h2
  have HB := Lib.hid hb
  clear h1 h2 hb
  go_enter Tryd.func76, Tryd.ntmps76
  go_wp2_with fail
  generalize (w.alloc (.cells (bv r).toArray 26)).alloc (.cells (bv s).toArray 26) = w1 at H1 H2 HB ⊢
  go_quiet ((go_at_call 93; refine Calls.quiet_of_same (compare_any _ _ _ 26 26 r s (H1.out.drewN _) (H2.out.drewN _) hr hs)))
  go_wp2_with fail
  go_ret
  exact ⟨rfl, below_drewN' HB.out nq⟩
end Go.Proofs.YtnbdpalbompjlaaDoor

/-
  Less is an order: plain mathematics.
-/
namespace Go.Proofs.YtnbdpalbompjlaaDoor

theorem lessB_cons (a b : UInt8) (r s : List UInt8) : lessB (a :: r) (b :: s) = if a < b then true else if b < a then false else lessB r s := by
  unfold lessB
  rw [Lib.compareBytes]
  split
  · simp
  · split
    · simp
    · rfl

theorem less_self : ∀ (r : List UInt8), lessB r r = false
  | [] => rfl
  | a :: r => by rw [lessB_cons, if_neg (UInt8.lt_irrefl a), if_neg (UInt8.lt_irrefl a)]; exact less_self r

theorem less_tri : ∀ (r s : List UInt8), r.length = s.length → r ≠ s → (lessB r s = true ∧ lessB s r = false) ∨ (lessB r s = false ∧ lessB s r = true)
  | [], [], _, h => absurd rfl h
  | [], b :: s, hl, _ => by simp at hl
  | a :: r, [], hl, _ => by simp at hl
  | a :: r, b :: s, hl, h => by
    rw [lessB_cons, lessB_cons]
    by_cases h1 : a < b
    · have h2 : ¬ b < a := UInt8.lt_asymm h1
      simp [h1, h2]
    · by_cases h2 : b < a
      · simp [h1, h2]
      · have hab : a = b := UInt8.le_antisymm (UInt8.not_lt.1 h2) (UInt8.not_lt.1 h1)
        subst hab
        simp only [h1, if_false]
        exact less_tri r s (by simpa using hl) (fun e => h (by rw [e]))

theorem less_trans : ∀ (r s t : List UInt8), r.length = s.length → s.length = t.length → lessB r s = true → lessB s t = true → lessB r t = true
  | [], [], _, _, _, h, _ => by simp [lessB, Lib.compareBytes] at h
  | [], b :: s, _, hl, _, _, _ => by simp at hl
  | a :: r, [], _, hl, _, _, _ => by simp at hl
  | _ :: _, _ :: _, [], _, hl, _, _ => by simp at hl
  | a :: r, b :: s, c :: t, hl, hl2, h1, h2 => by
    rw [lessB_cons] at h1 h2 ⊢
    by_cases ab : a < b
    · by_cases bc : b < c
      · rw [if_pos (UInt8.lt_trans ab bc)]
      · by_cases cb : c < b
        · simp [bc, cb] at h2
        · have hbc : b = c := UInt8.le_antisymm (UInt8.not_lt.1 cb) (UInt8.not_lt.1 bc)
          subst hbc
          rw [if_pos ab]
    · by_cases ba : b < a
      · simp [ab, ba] at h1
      · have hab : a = b := UInt8.le_antisymm (UInt8.not_lt.1 ba) (UInt8.not_lt.1 ab)
        subst hab
        simp only [ab, if_false] at h1
        by_cases bc : a < c
        · rw [if_pos bc]
        · by_cases cb : c < a
          · simp [bc, cb] at h2
          · simp only [bc, cb, if_false] at h2 ⊢
            exact less_trans r s t (by simpa using hl) (by simpa using hl2) h1 h2

end Go.Proofs.YtnbdpalbompjlaaDoor

/-
  What the reference's Less answers.
-/
namespace Go.Proofs.YtnbdpalbompjlaaDoor
open Go.RowKit
set_option maxRecDepth 10000

theorem less_same : ∀ (p r s : List UInt8), lessB (p ++ r) (p ++ s) = lessB r s
  | [], _, _ => rfl
  | a :: p, r, s => by rw [List.cons_append, List.cons_append, lessB_cons, if_neg (UInt8.lt_irrefl a), if_neg (UInt8.lt_irrefl a)]; exact less_same p r s

theorem split_at (r : List UInt8) (i : Nat) (x : UInt8) (h : r[i]? = some x) : r = r.take i ++ x :: r.drop (i + 1) := by
  obtain ⟨hi, rfl⟩ := List.getElem?_eq_some_iff.1 h
  rw [← List.drop_eq_getElem_cons hi, List.take_append_drop]

theorem less_at (r s : List UInt8) (i : Nat) (x y : UInt8) (hx : r[i]? = some x) (hy : s[i]? = some y) (hp : r.take i = s.take i) (hne : x ≠ y) : lessB r s = decide (x.toNat < y.toNat) := by
  rw [split_at r i x hx, split_at s i y hy, hp, less_same, lessB_cons]
  have h1 : x < y ↔ x.toNat < y.toNat := UInt8.lt_iff_toNat_lt
  have h2 : y < x ↔ y.toNat < x.toNat := UInt8.lt_iff_toNat_lt
  have h3 : x.toNat ≠ y.toNat := fun e => hne (UInt8.toNat_inj.1 e)
  by_cases h : x.toNat < y.toNat
  · rw [if_pos (h1.2 h)]; simp [h]
  · rw [if_neg (fun e => h (h1.1 e)), if_pos (h2.2 (by omega))]; simp [h]

structure TwoIn (w : World) (r s : List UInt8) (wr : World) : Prop where
  a : Blk wr w.heap.size 26 (bv r)
  b : Blk wr (w.heap.size + 1) 26 (bv s)
  hB : Below w.heap.size w wr
theorem TwoIn.drewN {w : World} {r s : List UInt8} {wr : World} (d : TwoIn w r s wr) (k : Nat) : TwoIn w r s (wr.drewN k) := ⟨d.a.drewN k, d.b.drewN k, below_drewN' d.hB k⟩

def RLRel (w : World) (r s : List UInt8) (x : Value) (wr : World) : Prop := ∃ i : Nat, x = .int .i64 (i : Int) ∧ i ≤ 32 ∧ r.take i = s.take i ∧ TwoIn w r s wr

set_option maxHeartbeats 1000000 in
theorem refless_any (w : World) (r s : List UInt8) (hr : r.length = 32) (hs : s.length = 32) :
    Calls Tryd.prog 47 #[.agg (bv r).toArray, .agg (bv s).toArray] w fun e w' => e = .returned (.bool (lessB r s)) ∧ Below w.heap.size w w' := by
  have h2 : TwoIn w r s ((w.alloc (.cells (bv r).toArray 26)).alloc (.cells (bv s).toArray 26)) := by
    have b := Blk.new (w.alloc (.cells (bv r).toArray 26)) 26 (bv s).toArray
    simp only [World.size_alloc] at b
    exact ⟨(Blk.new w 26 (bv r).toArray).alloc _, b, ((Below.refl _ _).alloc (Nat.le_refl _) _).alloc (by simp) _⟩
  have H2 := Lib.hid h2
  have HHR := Lib.hid hr
  have HHS := Lib.hid hs
  clear h2 hr hs
  go_enter Tryd.func47, Tryd.ntmps47
  go_wp2_with fail
  go_loopw [6] (fun x wr => RLRel w r s x wr) (fun x _ => 32 - intN x)
  case atStart => exact ⟨0, rfl, by omega, by simp, H2.out⟩
  case round =>
    clear H2
    obtain ⟨i, rfl, hi, hp, hR⟩ := hrel
    by_cases hlt : i < 32
    · have d0 : (i : Int) < 32 := by omega
      obtain ⟨x, hx⟩ : ∃ x, r[i]? = some x := ⟨_, List.getElem?_eq_getElem (by rw [HHR.out]; exact hlt)⟩
      obtain ⟨y, hy⟩ : ∃ y, s[i]? = some y := ⟨_, List.getElem?_eq_getElem (by rw [HHS.out]; exact hlt)⟩
      have q1 : wr.cell? ⟨w.heap.size, i, none⟩ = some (.int .u8 (x.toNat : Int)) := by rw [hR.a.cell]; simp [bv, hx]
      have q2 : wr.cell? ⟨w.heap.size + 1, i, none⟩ = some (.int .u8 (y.toNat : Int)) := by rw [hR.b.cell]; simp [bv, hy]
      obtain ⟨n, hn⟩ : ∃ n, n = x.toNat := ⟨_, rfl⟩
      obtain ⟨m, hm⟩ : ∃ m, m = y.toNat := ⟨_, rfl⟩
      rw [← hn] at q1
      rw [← hm] at q2
      have HR := Lib.hid hR
      by_cases hxy : x = y
      · have HP := Lib.hid (show r.take (i + 1) = s.take (i + 1) by rw [List.take_add_one, List.take_add_one, hp, hx, hy, hxy])
        obtain rfl : n = m := by rw [hn, hm, hxy]
        clear hp hx hy hn hm hxy hR
        go_wp2_with fail
        go_quiet (fail)
        go_wp2_with fail
        refine ⟨⟨i + 1, by simp, by omega, HP.out, HR.out.drewN nq⟩, ?_⟩
        simp only [intN]
        omega
      · have HA := Lib.hid (less_at r s i x y hx hy hp hxy)
        have hnm : ¬ ((n : Int) = (m : Int)) := by
          intro e
          have : x.toNat = y.toNat := by omega
          exact hxy (UInt8.toNat_inj.1 this)
        have HA2 := Lib.hid (show lessB r s = decide (n < m) by rw [HA.out, hn, hm])
        clear hp hx hy hn hm hxy HA hR
        go_wp2_with fail
        go_quiet (fail)
        have q1' : (wr.drewN nq).cell? ⟨w.heap.size, i, none⟩ = some (.int .u8 (n : Int)) := q1
        have q2' : (wr.drewN nq).cell? ⟨w.heap.size + 1, i, none⟩ = some (.int .u8 (m : Int)) := q2
        have hR2 := HR.out.drewN nq
        generalize wr.drewN nq = w2 at q1' q2' hR2 ⊢
        have HR2 := Lib.hid hR2
        clear q1 q2 HR hR2
        go_wp2_with fail
        go_quiet (fail)
        go_wp2_with fail
        go_ret
        refine ⟨?_, below_drewN' HR2.out.hB _⟩
        rw [HA2.out]
        rfl
    · obtain rfl : i = 32 := by omega
      have hrs : r = s := by
        rw [List.take_of_length_le (by rw [HHR.out]; omega), List.take_of_length_le (by rw [HHS.out]; omega)] at hp
        exact hp
      have HA := Lib.hid (show lessB r s = false by rw [hrs]; exact less_self s)
      have HB := Lib.hid hR.hB
      clear hR hp hrs
      go_wp2_with fail
      go_ret
      refine ⟨?_, HB.out⟩
      rw [HA.out]
      rfl

end Go.Proofs.YtnbdpalbompjlaaDoor
