/-
  The walk of LeBack.
-/
import Derived.Test.YtnggmfjcfjplfaaAlive
import Derived.Test.YtnggmfjcfjplfaaEnc
import Derived.OpenShut
import Derived.IntWalk
namespace Go.Proofs.Ytnggmfjcfjplfaa
open Go.RowKit

def bstr (l : List UInt8) : ByteArray := ⟨l.toArray⟩
theorem bstr_size (l : List UInt8) : (bstr l).size = l.length := by simp [bstr, ByteArray.size]
theorem bstr_toList (l : List UInt8) : (bstr l).data.toList = l := by simp [bstr]

theorem rd_split (p r : List UInt8) (sh : Bool) : rdOut (bstr (p ++ r)) (p.length : Nat) = bstr p ∧ rdLeft (bstr (p ++ r)) (p.length : Nat) = bstr r ∧ rdShort (bstr (p ++ r)) sh (p.length : Nat) = sh := by
  have h : rdOk (bstr (p ++ r)) ((p.length : Nat) : Int) = true := by
    unfold rdOk
    rw [bstr_size]
    simp
    omega
  refine ⟨?_, ?_, ?_⟩
  · simp [rdOut, h]
    apply ByteArray.ext
    rw [ByteArray.data_extract]
    apply Array.ext'
    simp [bstr]
  · simp [rdLeft, h]
    apply ByteArray.ext
    rw [ByteArray.data_extract]
    apply Array.ext'
    simp [bstr, ByteArray.size]
  · simp [rdShort, h]

theorem rd_step (n K : Nat) (hK : K ≤ 8) (R : List UInt8) (sh : Bool) :
    leN (rdOut (bstr (leB n K ++ R)) (wd (K : Int))).data.toList = n % 256 ^ K ∧ rdLeft (bstr (leB n K ++ R)) (wd (K : Int)) = bstr R ∧ rdShort (bstr (leB n K ++ R)) sh (wd (K : Int)) = sh ∧ True := by
  have ew : wd (K : Int) = ((leB n K).length : Nat) := by rw [leB_length]; unfold wd; rw [if_neg (by omega)]
  obtain ⟨h1, h2, h3⟩ := rd_split (leB n K) R sh
  rw [ew, h1, h2, h3, bstr_toList, leN_leB]
  exact ⟨rfl, rfl, rfl, trivial⟩

theorem wrap_pow (K : Nat) (h : K < 8) : IntKind.u64.wrap ((2 : Int) ^ (8 * K)) = ((256 ^ K : Nat) : Int) := by
  have hle : 256 ^ K ≤ 256 ^ 7 := Nat.pow_le_pow_right (by omega) (by omega)
  have h7 : (256 : Nat) ^ 7 = 72057594037927936 := by decide
  rw [h7] at hle
  have e : (2 : Int) ^ (8 * K) = ((256 ^ K : Nat) : Int) := by rw [pow_bytes]; simp
  rw [e, IntKind.wrap_u64]
  generalize 256 ^ K = M at hle ⊢
  omega

theorem mul_small (L K : Nat) (hl : L ≤ 100) (hK : K ≤ 8) : ((L : Int) * (K : Int) == wrap64 ((K : Int) * (L : Int))) = true := by
  have hle : L * K ≤ 100 * 8 := Nat.mul_le_mul hl hK
  have e1 : (L : Int) * (K : Int) = ((L * K : Nat) : Int) := by simp
  have e2 : (K : Int) * (L : Int) = ((L * K : Nat) : Int) := by rw [Int.mul_comm]; simp
  rw [e1, e2]
  generalize L * K = P at hle ⊢
  have : wrap64 (P : Int) = (P : Int) := by unfold wrap64; omega
  rw [this]
  exact beq_self_eq_true _

theorem wid_nat (k : Nat) (h : k ≤ 8) : wid (k : Int) = k := by unfold wid; omega

set_option maxHeartbeats 1000000 in
theorem back_some (w : World) (b off cap : Nat) (ns : List Nat) (K : Nat) (hK : K ≤ 8) (hn : ∀ j, ns.getD j 0 < 2 ^ 64) (hl : ns.length ≤ 100) (hb : b < w.heap.size)
    (hc : ∀ j, j < ns.length → w.cell? ⟨b, off + j, none⟩ = some (.int .u64 ((ns.getD j 0 : Nat) : Int))) :
    Calls Try.prog 5 #[.slice (some ⟨b, off, none⟩) ns.length cap, .int .i64 K] w fun e w' => e = .returned (.bool true) ∧ Below w.heap.size w w' := by
  have c1 : ¬ ((100 : Int) < (ns.length : Int)) := by omega
  have c2 : ¬ ((K : Int) < 0) := by omega
  have c3 : ¬ ((8 : Int) < (K : Int)) := by omega
  have HC := Lib.hid hc
  have HN := Lib.hid hn
  clear hc hn
  obtain ⟨L, hL⟩ : ∃ L, L = ns.length := ⟨_, rfl⟩
  rw [← hL] at hl c1
  rw [← hL]
  have HL := Lib.hid hL
  clear hL
  go_enter Try.func5, Try.ntmps5
  go_wp2_with fail
  refine (alive_any w).mono ?_
  rintro e w1 ⟨rfl, hb1⟩
  go_wp2_with fail
  go_loopw [5, 28] (fun v i wr => ∃ j : Nat, j ≤ L ∧ i = .int .i64 j ∧ Held wr w.heap.size v (bv (enc K (ns.take j))) ∧ Below w.heap.size w wr) (fun _ i _ => L - (intOf i).toNat)
  case atStart => exact ⟨0, Nat.zero_le _, rfl, Held.nil _ _, hb1⟩
  case round =>
    obtain ⟨j, hj, rfl, hh, hbel⟩ := hrel
    by_cases hlt : j < L
    · have hjn : j < ns.length := by rw [← HL.out]; exact hlt
      have hcell := (hbel.cell (p := ⟨b, off + j, none⟩) hb).trans (HC.out j hjn)
      have hnj := HN.out j
      obtain ⟨n, hn⟩ : ∃ n, n = ns.getD j 0 := ⟨_, rfl⟩
      rw [← hn] at hcell hnj
      have HNJ := Lib.hid hn
      have HB := Lib.hid hnj
      have hlen : (enc K (ns.take j)).length ≤ 1000000 := by
        rw [enc_length, List.length_take]
        have : min j ns.length * K ≤ 100 * 8 := Nat.mul_le_mul (by omega) hK
        omega
      clear hn hnj hjn
      go_wp2_with fail
      refine (put_any wr w.heap.size _ _ n K HB.out hh hbel.size hlen).mono ?_
      rintro e w2 ⟨v2, rfl, hh2, hg2⟩
      have hbel2 := hbel.trans (hg2.below hh hbel.size)
      rw [wid_nat K hK, HNJ.out, ← enc_take_succ K ns j (by rw [← HL.out]; exact hlt)] at hh2
      clear hh hg2 hcell
      go_wp2
      go_roundw
      case rel => exact ⟨j + 1, by omega, by go_num, hh2, hbel2⟩
      case measure => simp [intOf]; omega
    · have hjL : ns.take j = ns := List.take_of_length_le (by rw [← HL.out]; omega)
      rw [hjL] at hh
      clear hjL
      obtain ⟨E, hE⟩ : ∃ E, E = enc K ns := ⟨_, rfl⟩
      rw [← hE] at hh
      have HE := Lib.hid hE
      clear hE
      have hs1 := hh.string (P := Try.prog) 24 9 5 Try.underlying24 Try.underlying5 Try.underlying9
      obtain ⟨wA, hwA⟩ : ∃ wA : World, wA = wr := ⟨_, rfl⟩
      subst hwA
      go_wp2_with fail
      refine (from_new wA _).mono ?_
      rintro e wB ⟨r, rfl, hr, hrd, hbAB⟩
      have hbs : bstr E = ⟨E.toArray⟩ := rfl
      rw [← hbs] at hrd hs1
      clear hbs
      have hrB := hrd.lt
      have hEl : E.length ≤ 800 := by
        rw [HE.out, enc_length]
        have : ns.length * K ≤ 100 * 8 := Nat.mul_le_mul (by rw [← HL.out]; exact hl) hK
        omega
      go_wp2_with fail
      go_loopw [9, 42] (fun c i wr => ∃ m : Nat, m ≤ L ∧ i = .int .i64 m ∧ Held wr wB.heap.size c (bv (enc K (ns.take m))) ∧ Rd wr r (bstr (enc K (ns.drop m))) false ∧ Below wA.heap.size wA wr ∧ wB.heap.size ≤ wr.heap.size) (fun _ i _ => L - (intOf i).toNat)
      case atStart => exact ⟨0, Nat.zero_le _, rfl, Held.nil _ _, by rw [List.drop_zero, ← HE.out]; exact hrd, hbAB, Nat.le_refl _⟩
      case round =>
        obtain ⟨m, hm, rfl, hc, hrr, hAr, hBr⟩ := hrel
        by_cases hlt2 : m < L
        · have hmn : m < ns.length := by rw [← HL.out]; exact hlt2
          have hcell := ((hbel.trans (hAr.mono hbel.size)).cell (p := ⟨b, off + m, none⟩) hb).trans (HC.out m hmn)
          have hnj := HN.out m
          rw [enc_drop K ns m hmn] at hrr
          have hstep := enc_take_succ K ns m hmn
          obtain ⟨n, hn⟩ : ∃ n, n = ns.getD m 0 := ⟨_, rfl⟩
          rw [← hn] at hcell hnj hrr hstep
          obtain ⟨q, hq⟩ : ∃ q, q = n % 256 ^ K := ⟨_, rfl⟩
          have hq64 : q < 2 ^ 64 := by rw [hq]; exact Nat.lt_of_le_of_lt (Nat.mod_le _ _) hnj
          have hlen : (enc K (ns.take m)).length ≤ 1000000 := by
            rw [enc_length, List.length_take]
            have : min m ns.length * K ≤ 100 * 8 := Nat.mul_le_mul (by omega) hK
            omega
          obtain ⟨t1, t2, t3, _⟩ := rd_step n K hK (enc K (ns.drop (m + 1))) false
          have hsz : (bstr (leB n K ++ enc K (ns.drop (m + 1)))).size ≤ maxLen := by
            rw [bstr_size, List.length_append, leB_length, enc_length, List.length_drop]
            have : (ns.length - (m + 1)) * K ≤ 100 * 8 := Nat.mul_le_mul (by have := HL.out; omega) hK
            unfold maxLen; omega
          have HU := Lib.hid (uint_any wr r _ false K hrr hsz)
          rw [t1, t2, t3, ← hq] at HU
          have HS := Lib.hid hstep
          have HNJ := Lib.hid hn
          have HQ := Lib.hid hq
          have HB := Lib.hid hq64
          clear hn hnj hmn hq hq64 hstep t1 t2 t3 hsz
          go_wp2_with fail
          refine HU.out.mono ?_
          rintro e w5 ⟨rfl, hr5, hg5⟩
          have hc5 := hc.grown hg5 (fun k hk => by have := hc.own k hk; simp; omega)
          have z5 := hg5.size
          have hA5 := hAr.trans (below_of_grown hg5 hAr.size hr)
          clear hg5 HU hrr
          by_cases hK8 : K < 8
          · have d1 : (K : Int) < 8 := by omega
            have d2 : ((K : Int) == 8) = false := by simp; omega
            obtain ⟨M, hM⟩ : ∃ M, M = 256 ^ K := ⟨_, rfl⟩
            have hM0 : 0 < M := by rw [hM]; exact Nat.pow_pos (by omega)
            have e1 : IntKind.u64.wrap ((2 : Int) ^ (8 * K)) = (M : Int) := by rw [hM]; exact wrap_pow K hK8
            have e2 : ¬ ((M : Int) = 0) := by omega
            have e3 : ((q : Int) != (n : Int) % (M : Int)) = false := by
              have : (q : Int) = (n : Int) % (M : Int) := by rw [HQ.out, hM]; simp
              simp [this]
            clear hM hM0
            go_wp2_with fail
            refine (put_any w5 wB.heap.size _ _ q K HB.out hc5 (by omega) hlen).mono ?_
            rintro e w6 ⟨v6, rfl, hc6, hg6⟩
            have hb6 := hg6.below hc5 (by omega)
            have z6 := hb6.size
            have hr6 := hr5.keep (hb6.block r hrB)
            have hA6 := hA5.trans (hb6.mono hbAB.size)
            rw [wid_nat K hK, HQ.out, leB_mod, ← HS.out] at hc6
            clear hg6 hb6 hc5 hr5 hA5 hc hAr hcell e1 e2 e3
            go_wp2
            go_roundw
            case rel => exact ⟨m + 1, by omega, by go_num, hc6, hr6, hA6, by omega⟩
            case measure => simp [intOf]; omega
          · have d1 : ¬ ((K : Int) < 8) := by omega
            have d2 : ((K : Int) == 8) = true := by simp; omega
            have e3 : ((q : Int) != (n : Int)) = false := by
              have h8 : K = 8 := by omega
              have : q = n := by rw [HQ.out, h8]; exact Nat.mod_eq_of_lt (by rw [HNJ.out]; exact HN.out m)
              simp [this]
            go_wp2_with fail
            refine (put_any w5 wB.heap.size _ _ q K HB.out hc5 (by omega) hlen).mono ?_
            rintro e w6 ⟨v6, rfl, hc6, hg6⟩
            have hb6 := hg6.below hc5 (by omega)
            have z6 := hb6.size
            have hr6 := hr5.keep (hb6.block r hrB)
            have hA6 := hA5.trans (hb6.mono hbAB.size)
            rw [wid_nat K hK, HQ.out, leB_mod, ← HS.out] at hc6
            clear hg6 hb6 hc5 hr5 hA5 hc hAr hcell e3
            go_wp2
            go_roundw
            case rel => exact ⟨m + 1, by omega, by go_num, hc6, hr6, hA6, by omega⟩
            case measure => simp [intOf]; omega
        · have hmL : m = L := by omega
          have hall : ns.take m = ns := List.take_of_length_le (by rw [← HL.out]; omega)
          have hnone : ns.drop m = [] := List.drop_eq_nil_of_le (by rw [← HL.out]; omega)
          rw [hall, ← HE.out] at hc
          rw [hnone] at hrr
          have hv := hh.below hAr
          have s1 := hc.string (P := Try.prog) 24 9 5 Try.underlying24 Try.underlying5 Try.underlying9
          have s2 := hv.string (P := Try.prog) 24 9 5 Try.underlying24 Try.underlying5 Try.underlying9
          obtain ⟨av, cv, hsv⟩ := hv.shape
          have hEl2 : (bv E).length = L * K := by rw [bv_length, HE.out, enc_length, HL.out]
          rw [hEl2] at hsv
          have hemp : bstr (enc K []) = ByteArray.empty := rfl
          rw [hemp] at hrr
          rw [hsv] at s2
          rw [hsv]
          have eb : (bstr E).toList == (bstr E).toList := beq_self_eq_true _
          have et : ((L : Int) * (K : Int) == wrap64 ((K : Int) * (L : Int))) = true := mul_small L K hl hK
          clear hmL hall hnone hsv hEl2 hs1 hemp hh hv hc
          go_wp2_with (go_at_call 14; refine (end_any wr r _ _ hrr).mono ?_; rintro e w7 ⟨rfl, rfl⟩)
          go_ret
          exact ⟨rfl, hbel.trans (hAr.mono hbel.size)⟩

set_option maxHeartbeats 1000000 in
theorem back_zero (w : World) (ao : Option Addr) (cap : Nat) (K : Int) (h0 : 0 ≤ K) (h8 : K ≤ 8) :
    Calls Try.prog 5 #[.slice ao 0 cap, .int .i64 K] w fun e w' => e = .returned (.bool true) ∧ Below w.heap.size w w' := by
  have c2 : ¬ (K < 0) := by omega
  have c3 : ¬ (8 < K) := by omega
  go_enter Try.func5, Try.ntmps5
  go_wp2_with fail
  refine (alive_any w).mono ?_
  rintro e w1 ⟨rfl, hb1⟩
  go_wp2_with fail
  refine wp_loop_rounds 1 ?_
  rw [rounds_succ]
  have hs0 := (Held.nil w1 0).string (P := Try.prog) (l := []) 24 9 5 Try.underlying24 Try.underlying5 Try.underlying9
  go_wp2_with fail
  refine (from_new w1 _).mono ?_
  rintro e wB ⟨r, rfl, hr, hrd, hbAB⟩
  go_wp2_with fail
  refine wp_loop_rounds 1 ?_
  rw [rounds_succ]
  have hs1 := (Held.nil wB 0).string (P := Try.prog) (l := []) 24 9 5 Try.underlying24 Try.underlying5 Try.underlying9
  have hrd2 : Rd wB r ByteArray.empty false := hrd
  go_wp2_with (go_at_call 14; refine (end_any wB r _ _ hrd2).mono ?_; rintro e w7 ⟨rfl, rfl⟩)
  go_ret
  exact ⟨rfl, hb1.trans (hbAB.mono hb1.size)⟩

set_option maxHeartbeats 400000 in
theorem back_out (w : World) (ao : Option Addr) (len cap : Nat) (K : Int) (h : 100 < len ∨ K < 0 ∨ 8 < K) :
    Calls Try.prog 5 #[.slice ao len cap, .int .i64 K] w fun e w' => e = .returned (.bool true) ∧ Below w.heap.size w w' := by
  by_cases c0 : (100 : Int) < (len : Int)
  · go_enter Try.func5, Try.ntmps5
    go_wp2_with (go_at_call 8; refine (alive_any w).mono ?_; rintro e w1 ⟨rfl, hb1⟩)
    go_ret
    exact ⟨rfl, hb1⟩
  · by_cases c1 : K < 0
    · go_enter Try.func5, Try.ntmps5
      go_wp2_with (go_at_call 8; refine (alive_any w).mono ?_; rintro e w1 ⟨rfl, hb1⟩)
      go_ret
      exact ⟨rfl, hb1⟩
    · have c2 : 8 < K := by omega
      go_enter Try.func5, Try.ntmps5
      go_wp2_with (go_at_call 8; refine (alive_any w).mono ?_; rintro e w1 ⟨rfl, hb1⟩)
      go_ret
      exact ⟨rfl, hb1⟩

theorem back_any (w : World) (ao : Option Addr) (len cap : Nat) (zs : List Int) (K : Int)
    (h : (ao = none ∧ len = 0 ∧ cap = 0 ∧ zs = []) ∨
      ∃ x, ao = some x ∧ len ≤ cap ∧ cap ≤ maxLen ∧ zs.length = cap ∧ (∀ i, i < zs.length → w.cell? (x.add i) = some (.int .u64 (zs.getD i 0))) ∧ ∀ n ∈ zs, (Lit.int .u64 n).wf = true) :
    Calls Try.prog 5 #[.slice ao len cap, .int .i64 K] w fun e w' => e = .returned (.bool true) ∧ Below w.heap.size w w' := by
  by_cases hout : 100 < len ∨ K < 0 ∨ 8 < K
  · exact back_out w ao len cap K hout
  by_cases h0 : len = 0
  · subst h0
    exact back_zero w ao cap K (by omega) (by omega)
  rcases h with ⟨_, hl, _⟩ | ⟨x, rfl, hle, _, hz, hcell, hwf⟩
  · exact absurd hl h0
  obtain ⟨k, rfl⟩ : ∃ k : Nat, K = k := ⟨K.toNat, by omega⟩
  obtain ⟨b, off, spot⟩ := x
  have hc0 := hcell 0 (by omega)
  have hspot : spot = none := by simpa [Addr.add] using World.cell?_spot hc0
  subst hspot
  have hrange : ∀ j, 0 ≤ zs.getD j 0 ∧ zs.getD j 0 ≤ 18446744073709551615 := fun j => by
    have := range_u64 hwf j
    simpa using this
  have hlen : ((zs.take len).map Int.toNat).length = len := by simp; omega
  have hget : ∀ j, j < len → ((((zs.take len).map Int.toNat).getD j 0 : Nat) : Int) = zs.getD j 0 := fun j hj => by
    have hjz : j < zs.length := by omega
    have hr := hrange j
    simp [hjz, hj] at hr ⊢
    omega
  have hblk : b < w.heap.size := by
    have := World.block_lt_of_cell? w _ hc0
    simpa [Addr.add] using this
  have := back_some w b off cap ((zs.take len).map Int.toNat) k (by omega) (fun j => by
      by_cases hj : j < len
      · have h1 := hget j hj
        have h2 := hrange j
        omega
      · rw [List.getD_eq_getElem?_getD, List.getElem?_eq_none (by omega)]
        exact Nat.pow_pos (by omega)) (by omega) hblk (fun j hj => by
      rw [hlen] at hj
      rw [hget j hj]
      have := hcell j (by omega)
      rwa [Addr.add_lit] at this)
  rwa [hlen] at this

end Go.Proofs.Ytnggmfjcfjplfaa
