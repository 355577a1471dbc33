/-
  What the reference's root and primes answer.
-/
import Derived.Test.YtnbdpalbompjlaaDoorM7
import Derived.Test.YtnbdpalbompjlaaDoorSpread
namespace Go.Proofs.YtnbdpalbompjlaaDoor
open Go.RowKit
set_option maxRecDepth 10000

def rootGo (ab : Nat → Nat → Bool) (p : Nat) : Nat → Nat → Nat
  | 0, x => x
  | j + 1, x => rootGo ab p j (if ab (add64 x (2 ^ j)) p then x else add64 x (2 ^ j))
def rootN (ab : Nat → Nat → Bool) (p : Nat) : Nat := rootGo ab p 40 0 % 4294967296

def RootRel (ab : Nat → Nat → Bool) (p : Nat) (w : World) (x k : Value) (wr : World) : Prop :=
  ∃ j y : Nat, x = .int .u64 (y : Int) ∧ k = .int .i64 ((j : Int) - 1) ∧ j ≤ 40 ∧ rootGo ab p j y = rootGo ab p 40 0 ∧ wr = w

def kN : Value → Nat
  | .int _ n => (n + 1).toNat
  | _ => 0

set_option maxHeartbeats 1000000 in
theorem root_any (ab : Nat → Nat → Bool) (pw : Int) (hab : ∀ w x p, Calls Tryd.prog 70 #[.int .u64 (x : Nat), .int .u64 (p : Nat), .int .i64 pw] w fun e w' => e = .returned (.bool (ab x p)) ∧ w' = w) (w : World) (p : Nat) :
    Calls Tryd.prog 59 #[.int .u64 p, .int .i64 pw] w fun e w' => e = .returned (.int .u32 (rootN ab p)) ∧ w' = w := by
  go_enter Tryd.func59, Tryd.ntmps59
  go_wp2_with fail
  go_loopw [5, 6] (fun x k wr => RootRel ab p w x k wr) (fun _ k _ => kN k)
  case atStart => exact ⟨40, 0, rfl, rfl, by omega, rfl, rfl⟩
  case round =>
    obtain ⟨j, y, rfl, rfl, hj, hg, rfl⟩ := hrel
    by_cases h0 : j = 0
    · subst h0
      have hy : (y : Int) % 4294967296 = ((rootN ab p : Nat) : Int) := by rw [rootN, ← hg]; simp [rootGo]
      clear hg
      go_wp2_with fail
      go_ret
      exact ⟨rfl, rfl⟩
    · obtain ⟨i, rfl⟩ : ∃ i, j = i + 1 := ⟨j - 1, by omega⟩
      have ei : (((i + 1 : Nat) : Int) - 1) = (i : Int) := by omega
      rw [ei]
      have d0 : (0 : Int) ≤ (i : Int) := by omega
      have e1 : IntKind.u64.wrap (i : Int) = (i : Int) := by simp [IntKind.wrap, IntKind.bits, IntKind.signed]; omega
      obtain ⟨P2, hP2⟩ : ∃ P2, P2 = 2 ^ i := ⟨_, rfl⟩
      have e2 : IntKind.u64.wrap ((2 : Int) ^ i) = (P2 : Int) := by
        have hlt : 2 ^ i < 18446744073709551616 := Nat.lt_of_le_of_lt (Nat.pow_le_pow_right (by omega) (show i ≤ 40 by omega)) (by decide)
        have e : ((2 : Int) ^ i) = ((2 ^ i : Nat) : Int) := by simp
        rw [hP2, e]
        simp only [IntKind.wrap, IntKind.bits, IntKind.signed, Bool.false_and, Bool.false_eq_true, if_false]
        omega
      obtain ⟨Y2, hY2⟩ : ∃ Y2, Y2 = add64 y P2 := ⟨_, rfl⟩
      have e3 : IntKind.u64.wrap ((y : Int) + (P2 : Int)) = (Y2 : Int) := by rw [hY2]; exact rule_add64 y P2
      have HG := Lib.hid (show rootGo ab p i (if ab Y2 p then y else Y2) = rootGo ab p 40 0 by rw [← hg, rootGo, hY2, hP2])
      clear hg hY2 hP2 h0 ei
      go_wp2_with fail
      refine (hab wr Y2 p).mono ?_
      rintro e w2 ⟨rfl, rfl⟩
      cases hb : ab Y2 p with
      | true =>
        have HG2 := Lib.hid (show rootGo ab p i y = rootGo ab p 40 0 by have := HG.out; rw [hb] at this; simpa using this)
        clear HG hb
        go_wp2_with fail
        refine ⟨⟨i, y, rfl, by rfl, by omega, HG2.out, rfl⟩, ?_⟩
        simp only [kN]
        omega
      | false =>
        have HG2 := Lib.hid (show rootGo ab p i Y2 = rootGo ab p 40 0 by have := HG.out; rw [hb] at this; simpa using this)
        clear HG hb
        go_wp2_with fail
        refine ⟨⟨i, Y2, rfl, by rfl, by omega, HG2.out, rfl⟩, ?_⟩
        simp only [kN]
        omega

/-- The primes below k. -/
def prL : Nat → List Nat
  | 0 => []
  | k + 1 => if k < 2 then [] else if (prL k).all (fun p => k % p != 0) then prL k ++ [k] else prL k

theorem prL_ge : ∀ (k p : Nat), p ∈ prL k → 2 ≤ p
  | 0, p, h => by simp [prL] at h
  | k + 1, p, h => by
    rw [prL] at h
    split at h
    · simp at h
    · split at h
      · rcases List.mem_append.1 h with h | h
        · exact prL_ge k p h
        · simp at h; omega
      · exact prL_ge k p h
theorem prL_lt : ∀ (k p : Nat), p ∈ prL k → p < k
  | 0, p, h => by simp [prL] at h
  | k + 1, p, h => by
    rw [prL] at h
    split at h
    · simp at h
    · split at h
      · rcases List.mem_append.1 h with h | h
        · have := prL_lt k p h; omega
        · simp at h; omega
      · have := prL_lt k p h; omega
theorem prL_mono : ∀ (k j : Nat), (prL k).length ≤ (prL (k + j)).length
  | k, 0 => Nat.le_refl _
  | k, j + 1 => by
    refine Nat.le_trans (prL_mono k j) ?_
    rw [← Nat.add_assoc, prL]
    split
    · have : prL (k + j) = [] := by
        match h : k + j with
        | 0 => rfl
        | 1 => rfl
        | n + 2 => omega
      rw [this]; simp
    · split
      · simp
      · exact Nat.le_refl _

/-- Numbers of 64 bits as cells. -/
def qv (l : List Nat) : List Value := l.map fun (x : Nat) => Value.int .u64 (x : Int)
theorem qv_length (l : List Nat) : (qv l).length = l.length := by simp [qv]
theorem qv_at {l : List Nat} {j x : Nat} (h : l[j]? = some x) : (qv l)[j]? = some (.int .u64 (x : Int)) := by simp [qv, h]
theorem qv_append (a b : List Nat) : qv (a ++ b) = qv a ++ qv b := by simp [qv]
theorem Tryd.info27 : (Tryd.prog.info? 27).map (fun i => (i.zero, i.size, i.bytes)) = some (some (.int .u64 0), 1, 8) := by kernel_rfl

theorem src_u64 {P : Program} (w : World) (t : TypeId) (ht : P.underlying t = some (.slice 27)) (x : Nat) : Src P 1 t (.slice (some ⟨w.heap.size, 0, none⟩) 1 1) 1 (qv [x]) (w.alloc (.cells #[.int .u64 (x : Int)] 27)) := by
  refine Src.ofSlice _ ht _ 1 1 _ rfl ?_ (by intro v hv; simp [qv] at hv; subst hv; rfl)
  intro i y hi
  match i, hi with
  | 0, hi => simp [qv] at hi; subst hi; simp [Addr.add]

theorem Held.cellAt {w : World} {base n cap j : Nat} {ao : Option Addr} {xs : List Value} {u : Value} (h : Held w base (.slice ao n cap) xs) (hj : j < n) (hu : xs[j]? = some u) : ∃ b o, ao = some ⟨b, o, none⟩ ∧ w.cell? ⟨b, o + j, none⟩ = some u := by
  obtain ⟨n', cap', g, off, ao', he, h⟩ := h
  cases he
  have hl := h.le
  exact ⟨g, off, h.addr (by omega), h.cells j u hu⟩

def PrRel (w : World) (n : Nat) (v x : Value) (wr : World) : Prop :=
  ∃ k : Nat, x = .int .u64 (k : Int) ∧ 2 ≤ k ∧ (prL k).length ≤ n ∧ (k ≤ 2 ∨ (prL (k - 1)).length < n) ∧ Held wr w.heap.size v (qv (prL k)) ∧ Below w.heap.size w wr

def PrIn (w : World) (k : Nat) (b x : Value) (wr : World) : Prop := ∃ i : Nat, x = .int .i64 (i : Int) ∧ i ≤ (prL k).length ∧ b = .bool (((prL k).take i).all fun p => k % p != 0) ∧ wr = w

def u64N : Value → Nat
  | .int _ n => n.toNat
  | _ => 0

set_option maxHeartbeats 2000000 in
theorem primes_any (w : World) (n K : Nat) (hn : n ≤ 100) (hK : (prL K).length = n) (hK1 : 2 ≤ K) (hK2 : K ≤ 1000) (hK3 : (prL (K - 1)).length < n) :
    Calls Tryd.prog 58 #[.int .i64 n] w fun e w' => ∃ v, e = .returned v ∧ Held w' w.heap.size v (qv (prL K)) ∧ Below w.heap.size w w' := by
  obtain ⟨i0, hi0, hz0, hz1, hz2⟩ := info_parts Tryd.info27
  have HK := Lib.hid hK
  have HK3 := Lib.hid hK3
  clear hK hK3
  go_enter Tryd.func58, Tryd.ntmps58
  go_wp2_with fail
  go_loopw [3, 4] (fun v x wr => PrRel w n v x wr) (fun _ x _ => 2000 - u64N x)
  case atStart => exact ⟨2, rfl, by omega, Nat.zero_le _, Or.inl (by omega), Held.nil _ _, Below.refl _ _⟩
  case round =>
    obtain ⟨k, rfl, hk2, hkn, hkp, hh, hB⟩ := hrel
    obtain ⟨ao, cap, hv⟩ := hh.shape
    rw [qv_length] at hv
    subst hv
    obtain ⟨L, hL⟩ : ∃ L, L = (prL k).length := ⟨_, rfl⟩
    rw [← hL] at hkn
    by_cases hlt : L < n
    · have d0 : (L : Int) < (n : Int) := by omega
      have hkK : k < K := by
        rcases Nat.lt_or_ge k K with h | h
        · exact h
        · have := prL_mono K (k - K)
          rw [show K + (k - K) = k by omega, HK.out] at this
          omega
      have HL := Lib.hid hL
      have HH := Lib.hid hh
      have HB := Lib.hid hB
      rw [← hL]
      clear hL hh hB hkp
      go_wp2_with fail
      go_loopw [5, 16] (fun b x wr2 => PrIn wr k b x wr2) (fun _ x _ => L - intN x)
      case atStart => exact ⟨0, rfl, Nat.zero_le _, by simp, rfl⟩
      case round =>
        obtain ⟨i, rfl, hi, rfl, rfl⟩ := hrel
        rw [← HL.out] at hi
        by_cases hil : i < L
        · have d1 : (i : Int) < (L : Int) := by omega
          have hil' : i < (prL k).length := by rw [← HL.out]; exact hil
          obtain ⟨p, hp⟩ : ∃ p, (prL k)[i]? = some p := ⟨_, List.getElem?_eq_getElem hil'⟩
          obtain ⟨b, o, rfl, q⟩ := HH.out.cellAt hil' (qv_at hp)
          have hp2 := prL_ge k p (List.mem_of_getElem? hp)
          have hnz : ¬ ((p : Int) = 0) := by omega
          obtain ⟨bb, hbb⟩ : ∃ bb, bb = (((prL k).take i).all fun p => k % p != 0) := ⟨_, rfl⟩
          rw [← hbb]
          have hnext : (((prL k).take (i + 1)).all fun p => k % p != 0) = (bb && (k % p != 0)) := by
            rw [List.take_add_one, hp, List.all_append, ← hbb]; simp
          have HN := Lib.hid hnext
          clear hnext hbb hp
          cases bb with
          | false =>
            go_wp2_with fail
            refine ⟨⟨i + 1, by simp, hil', by rw [HN.out]; rfl, rfl⟩, ?_⟩
            simp only [intN]
            omega
          | true =>
            obtain ⟨m, hm⟩ : ∃ m, m = k % p := ⟨_, rfl⟩
            have em : (k : Int) % (p : Int) = (m : Int) := by rw [hm]; simp
            have em2 : Int.tmod (k : Int) (p : Int) = (m : Int) := by rw [Int.tmod_eq_emod_of_nonneg (by omega)]; exact em
            have HM := Lib.hid hm
            clear hm
            by_cases hm0 : m = 0
            · subst hm0
              go_wp2_with fail
              refine ⟨⟨i + 1, by simp, hil', by rw [HN.out, ← HM.out]; rfl, rfl⟩, ?_⟩
              simp only [intN]
              omega
            · have hm1 : ¬ ((m : Int) = 0) := by omega
              have hm2 : ((m : Int) != 0) = true := by simpa using hm1
              go_wp2_with fail
              refine ⟨⟨i + 1, by simp, hil', by rw [HN.out, ← HM.out]; simp [hm0], rfl⟩, ?_⟩
              simp only [intN]
              omega
        · obtain rfl : i = L := by omega
          have hall : ((prL k).take i).all (fun p => k % p != 0) = (prL k).all (fun p => k % p != 0) := by rw [HL.out, List.take_length]
          obtain ⟨bb, hbb⟩ : ∃ bb, bb = (((prL k).take i).all fun p => k % p != 0) := ⟨_, rfl⟩
          rw [← hbb]
          rw [← hbb] at hall
          have hpr : prL (k + 1) = if bb then prL k ++ [k] else prL k := by rw [prL, if_neg (by omega), ← hall]
          have HPR := Lib.hid hpr
          have hsz := HB.out.size
          clear hall hbb hpr
          have e1 : IntKind.u64.wrap ((k : Int) + 1) = ((k + 1 : Nat) : Int) := by simp [IntKind.wrap, IntKind.bits, IntKind.signed]; omega
          cases bb with
          | true =>
            have HSrc := Lib.hid (src_u64 wr 94 Tryd.underlying94 k (P := Tryd.prog))
            have HHa := Lib.hid (HH.out.alloc (.cells #[.int .u64 (k : Int)] 27))
            have hql : (qv (prL k)).length ≤ 100 := by rw [qv_length, ← HL.out]; omega
            rw [HL.out]
            go_wp2_with (at_builtin; refine wpList_append_held rfl _ _ 94 94 rfl rfl HHa.out 27 i0 (.int .u64 0) 8 Tryd.underlying94 hi0 hz0 hz1 hz2 rfl _ rfl 1 (qv [k]) HSrc.out ?e2 ?e3 ?e4 ?_)
            case e2 => unfold maxLen; omega
            case e3 => omega
            case e4 => (try rw [World.size_alloc]); omega
            intro v2 w2 hh hg
            have hbb : Below w.heap.size wr w2 := ((Below.refl _ _).alloc hsz _).trans (hg.below HHa.out (by rw [World.size_alloc]; omega))
            have HREL := Lib.hid (show PrRel w n v2 (.int .u64 ((k : Int) + 1)) w2 from
              ⟨k + 1, by simp, by omega, by rw [HPR.out]; simp; rw [← HL.out]; omega, Or.inr (by rw [Nat.add_sub_cancel, ← HL.out]; exact hlt), by rw [HPR.out]; simpa [qv_append] using hh, HB.out.trans hbb⟩)
            clear hh hg hbb HSrc HHa
            go_wp2_with fail
            refine ⟨HREL.out, ?_⟩
            simp only [u64N]
            omega
          | false =>
            have HREL := Lib.hid (show PrRel w n (.slice ao (prL k).length cap) (.int .u64 ((k : Int) + 1)) wr from
              ⟨k + 1, by simp, by omega, by rw [HPR.out]; simp; rw [← HL.out]; omega, Or.inr (by rw [Nat.add_sub_cancel, ← HL.out]; exact hlt), by rw [HPR.out]; exact HH.out, HB.out⟩)
            rw [← HL.out] at HREL
            go_wp2_with fail
            refine ⟨HREL.out, ?_⟩
            simp only [u64N]
            omega
    · have hLn : L = n := by omega
      have hkK : k = K := by
        rcases Nat.lt_trichotomy k K with h | h | h
        · exfalso
          have h1 := prL_mono k (K - 1 - k)
          rw [show k + (K - 1 - k) = K - 1 by omega] at h1
          have h2 := HK3.out
          omega
        · exact h
        · exfalso
          rcases hkp with h1 | h1
          · omega
          · have h2 := prL_mono K (k - 1 - K)
            rw [show K + (k - 1 - K) = k - 1 by omega, HK.out] at h2
            omega
      subst hkK
      have d0 : ¬ ((L : Int) < (n : Int)) := by omega
      have HH := Lib.hid hh
      have HB := Lib.hid hB
      have HL := Lib.hid hL
      rw [← hL]
      clear hL hh hB hkp
      go_wp2_with fail
      go_ret
      exact ⟨_, rfl, by have h := HH.out; rw [← HL.out, hLn] at h; exact h, HB.out⟩

set_option maxRecDepth 100000 in
theorem firsts : (prL 20).map (rootN above2) = firstL ∧ (prL 20).length = 8 ∧ (prL 19).length < 8 := by decide +kernel
set_option maxRecDepth 100000 in
theorem addeds : (prL 312).map (rootN above3) = addedL ∧ (prL 312).length = 64 ∧ (prL 311).length < 64 := by decide +kernel
end Go.Proofs.YtnbdpalbompjlaaDoor
