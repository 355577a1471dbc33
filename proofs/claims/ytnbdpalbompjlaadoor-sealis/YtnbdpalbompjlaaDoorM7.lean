/-
  The texts Seal0, Info8, Put, LotOf, Draw, one behind the other.
-/
import Derived.Test.YtnbdpalbompjlaaDoorM1
import Derived.Test.YtnbdpalbompjlaaDoorM5
import Derived.Test.YtnbdpalbompjlaaDoorJoin
import Derived.Test.YtnbdpalbompjlaaDoorRows
import Derived.WalkKit
import Derived.Test.YtnbdpalbompjlaaDoorM2
import Derived.WalkSpells
import Derived.WalkLawsBesides
import Derived.Outline
import Derived.Lib.Hide
import Derived.Test.YtnbdpalbompjlaaDoorM4
import Derived.Test.YtnbdpalbompjlaaDoorWide
import Derived.Laws.MakeOwn
/-
  Who speaks in a message, what its tag is joined of, which votes it is: plain mathematics.
-/
namespace Go.Proofs.YtnbdpalbompjlaaDoor
open Go.RowKit
set_option maxRecDepth 10000

/-- Who speaks, of a slot's members K. -/
def spk (K : List Nat) (M : Msg) : Option (List Nat) :=
  if msgGood M = true then
    if M.k = 1 then (if firstOf K = M.m then some [M.m.toNat] else none)
    else if M.k = 2 then (if 0 ≤ placeFrom M.m 0 K then some [M.m.toNat] else none)
    else if fits K M.l = true then some (picked K M.l) else none
  else none

theorem msg_kinds {M : Msg} (h : msgGood M = true) : M.k = 1 ∨ M.k = 2 ∨ M.k = 3 := by
  unfold msgGood at h
  rw [Bool.and_eq_true] at h
  have h5 := h.2
  split at h5
  · left; assumption
  · split at h5
    · right; left; assumption
    · split at h5
      · right; right; assumption
      · cases h5
theorem msg_spans {M : Msg} (h : msgGood M = true) : 0 ≤ M.s ∧ M.s ≤ 1073741824 ∧ 0 ≤ M.m ∧ M.m ≤ 65535 := by
  unfold msgGood at h
  rw [Bool.and_eq_true, decide_eq_true_eq] at h
  exact h.1

theorem placeFrom_low (who : Int) : ∀ (K : List Nat) (i : Nat), placeFrom who i K = -1 ∨ (i : Int) ≤ placeFrom who i K
  | [], _ => .inl rfl
  | x :: r, i => by
    rw [placeFrom]
    split
    · right; omega
    · rcases placeFrom_low who r (i + 1) with h | h
      · exact .inl h
      · right; omega
theorem placeFrom_mem (who : Int) : ∀ (K : List Nat) (i : Nat), 0 ≤ placeFrom who i K → who.toNat ∈ K
  | [], _, h => by rw [placeFrom] at h; omega
  | x :: r, i, h => by
    rw [placeFrom] at h
    split at h
    · rename_i e; subst e; simp
    · exact List.mem_cons_of_mem _ (placeFrom_mem who r (i + 1) h)
theorem firstOf_mem {who : Int} (h0 : 0 ≤ who) : ∀ (K : List Nat), firstOf K = who → who.toNat ∈ K
  | [], h => by rw [firstOf] at h; omega
  | x :: r, h => by rw [firstOf] at h; subst h; simp
/-- To propose is to stand at place 0. -/
theorem firstOf_place {who : Int} (h0 : 0 ≤ who) : ∀ (K : List Nat), firstOf K = who ↔ placeFrom who 0 K = 0
  | [] => by rw [firstOf, placeFrom]; omega
  | x :: r => by
    rw [firstOf, placeFrom]
    split
    · rename_i e; simp [e]
    · rename_i e
      rcases placeFrom_low who r 1 with h | h
      · exact ⟨fun q => absurd q e, fun q => by rw [Nat.zero_add] at q; omega⟩
      · exact ⟨fun q => absurd q e, fun q => by rw [Nat.zero_add] at q; omega⟩
theorem pickL_mem : ∀ (l : List Nat) (r : List Bool) (x : Nat), x ∈ pickL l r → x ∈ l
  | [], _, x, h => by simp [pickL] at h
  | _ :: _, [], x, h => by simp [pickL] at h
  | a :: l, b :: r, x, h => by
    rw [pickL] at h
    split at h
    · rcases List.mem_cons.1 h with rfl | h
      · exact List.mem_cons_self
      · exact List.mem_cons_of_mem _ (pickL_mem l r x h)
    · exact List.mem_cons_of_mem _ (pickL_mem l r x h)
theorem picked_mem {l : List Nat} {r : List Bool} {x : Nat} (h : x ∈ picked l r) : x ∈ l := by
  rw [picked] at h
  split at h
  · exact pickL_mem l r x h
  · cases h
theorem pickL_some : ∀ (l : List Nat) (r : List Bool), r.length = l.length → r.any id = true → pickL l r ≠ []
  | [], [], _, h => by simp at h
  | [], _ :: _, h, _ => by simp at h
  | _ :: _, [], h, _ => by simp at h
  | a :: l, b :: r, h, h2 => by
    rw [pickL]
    cases b with
    | true => simp
    | false =>
      simp only [Bool.false_eq_true, if_false]
      exact pickL_some l r (by simpa using h) (by simpa using h2)

theorem spk_good {K : List Nat} {M : Msg} {l : List Nat} (h : spk K M = some l) : msgGood M = true := by
  unfold spk at h
  split at h
  · assumption
  · cases h
theorem spk_bad {K : List Nat} {M : Msg} (h : msgGood M = false) : spk K M = none := by
  rw [spk, if_neg (by rw [h]; simp)]
theorem spk_one {K : List Nat} {M : Msg} (h : msgGood M = true) (k : M.k = 1) : spk K M = if firstOf K = M.m then some [M.m.toNat] else none := by
  rw [spk, if_pos h, if_pos k]
theorem spk_two {K : List Nat} {M : Msg} (h : msgGood M = true) (k : M.k = 2) : spk K M = if 0 ≤ placeFrom M.m 0 K then some [M.m.toNat] else none := by
  rw [spk, if_pos h, if_neg (by omega), if_pos k]
theorem spk_three {K : List Nat} {M : Msg} (h : msgGood M = true) (k : M.k = 3) : spk K M = if fits K M.l = true then some (picked K M.l) else none := by
  rw [spk, if_pos h, if_neg (by omega), if_neg (by omega)]
theorem spk_mem {K : List Nat} {M : Msg} {l : List Nat} (h : spk K M = some l) : ∀ x ∈ l, x ∈ K := by
  intro x hx
  have hg := spk_good h
  have hm := (msg_spans hg).2.2.1
  rcases msg_kinds hg with k | k | k
  · rw [spk_one hg k] at h
    split at h
    · rename_i e; cases h; rw [List.mem_singleton] at hx; subst hx; exact firstOf_mem hm K e
    · cases h
  · rw [spk_two hg k] at h
    split at h
    · rename_i e; cases h; rw [List.mem_singleton] at hx; subst hx; exact placeFrom_mem M.m K 0 e
    · cases h
  · rw [spk_three hg k] at h
    split at h
    · cases h; exact picked_mem hx
    · cases h
theorem picked_len (l : List Nat) (r : List Bool) : (picked l r).length ≤ l.length := by
  rw [picked]
  split
  · exact pickL_le l r
  · simp
theorem spk_len {K : List Nat} {M : Msg} {l : List Nat} (h : spk K M = some l) (hK : K.length ≤ 1000) : l.length ≤ 1000 := by
  have hg := spk_good h
  rcases msg_kinds hg with k | k | k
  · rw [spk_one hg k] at h
    split at h
    · cases h; simp
    · cases h
  · rw [spk_two hg k] at h
    split at h
    · cases h; simp
    · cases h
  · rw [spk_three hg k] at h
    split at h
    · cases h; have := picked_len K M.l; omega
    · cases h
/-- Somebody speaks, if they can. -/
theorem spk_some {K : List Nat} {M : Msg} {l : List Nat} (h : spk K M = some l) : l ≠ [] := by
  have hg := spk_good h
  rcases msg_kinds hg with k | k | k
  · rw [spk_one hg k] at h
    split at h
    · cases h; simp
    · cases h
  · rw [spk_two hg k] at h
    split at h
    · cases h; simp
    · cases h
  · rw [spk_three hg k] at h
    split at h
    · rename_i hf
      cases h
      rw [picked, if_pos hf]
      have ha : M.l.any id = true := by
        unfold msgGood at hg
        rw [if_neg (by omega), if_neg (by omega), if_pos k] at hg
        simp only [Bool.and_eq_true] at hg
        exact hg.2.2.2
      refine pickL_some K M.l ?_ ha
      simp [fits] at hf
      exact hf.2
    · cases h

/-- The vote that one of a sum's would have alone. -/
def voteM (M : Msg) (who : Nat) : Msg := ⟨2, M.s, M.T, who, 0, [], List.replicate 16 0⟩
/-- What one of those who speak says. -/
def partM (M : Msg) (who : Nat) : Msg := if M.k = 3 then voteM M who else M
theorem voteM_fits {M : Msg} (h : M.Fits) (who : Nat) : (voteM M who).Fits := ⟨h.T, by simp [voteM], by simp [voteM]⟩
theorem voteM_good {M : Msg} (h : msgGood M = true) {who : Nat} (hw : who ≤ 65535) : msgGood (voteM M who) = true := by
  have := msg_spans h
  unfold msgGood
  simp only [voteM, List.length_nil]
  simp
  omega
theorem partM_fits {M : Msg} (h : M.Fits) (who : Nat) : (partM M who).Fits := by
  unfold partM
  split
  · exact voteM_fits h who
  · exact h
theorem partM_good {M : Msg} (h : msgGood M = true) {who : Nat} (hw : who ≤ 65535) : msgGood (partM M who) = true := by
  unfold partM
  split
  · exact voteM_good h hw
  · exact h
theorem partM_bits {M : Msg} (h : msgGood M = true) (hf : M.Fits) (who : Nat) : (partM M who).l = [] := by
  unfold partM
  split
  · rfl
  · rename_i k; exact (msg_ranged h hf).l k
theorem partM_sum {M : Msg} (h : M.k = 3) (who : Nat) : partM M who = voteM M who := by rw [partM, if_pos h]
theorem partM_own {M : Msg} (h : M.k ≠ 3) (who : Nat) : partM M who = M := by rw [partM, if_neg h]
theorem partM_length {M : Msg} (h : msgGood M = true) (hf : M.Fits) {who : Nat} (hw : who ≤ 65535) : (msgP (partM M who)).length ≤ 100 := by
  have hr := msg_ranged (partM_good h hw) (partM_fits hf who)
  rw [msgP_length hr, partM_bits h hf who]
  split
  · omega
  · split <;> simp

/-- A validator's key, as bytes. -/
def keyAt (vs : List (Int × ByteArray)) (i : Nat) : List UInt8 := match vs[i]? with
  | some v => v.2.data.toList
  | none => []
theorem keyAt_some {vs : List (Int × ByteArray)} {i : Nat} {v : Int × ByteArray} (h : vs[i]? = some v) : v.2 = ⟨(keyAt vs i).toArray⟩ := by
  unfold keyAt
  rw [h]
/-- The tag of what one of them says. -/
def tagOne (vs : List (Int × ByteArray)) (M : Msg) (i : Nat) : List UInt8 := tag (keyAt vs i) (msgP (partM M i))
/-- The tags of all of them. -/
def tagsM (vs : List (Int × ByteArray)) (M : Msg) (l : List Nat) : List (List UInt8) := l.map (tagOne vs M)
theorem tagsM_Tags (vs : List (Int × ByteArray)) (M : Msg) (l : List Nat) : Tags (tagsM vs M l) := fun t ht => by
  obtain ⟨i, _, rfl⟩ := List.mem_map.1 ht
  exact tag_length _ _
/-- A message's tag. -/
def sealT (vs : List (Int × ByteArray)) (K : List Nat) (M : Msg) : List UInt8 := match spk K M with
  | some l => joined (tagsM vs M l)
  | none => List.replicate 16 0
theorem sealT_length (vs : List (Int × ByteArray)) (K : List Nat) (M : Msg) : (sealT vs K M).length = 16 := by
  unfold sealT
  split
  · exact joined_length _
  · simp
theorem joined_sole (a : List UInt8) (h : a.length = 16) : joined [a] = a := by
  rw [joined, show col [a] = fun p => a.getD p 0 from funext (col_one a), tagF_of a h]
theorem sealT_sole {vs : List (Int × ByteArray)} {K : List Nat} {M : Msg} {l : List Nat} (h : spk K M = some l) (k : M.k ≠ 3) : sealT vs K M = tag (keyAt vs M.m.toNat) (msgP M) := by
  have hg := spk_good h
  have e : l = [M.m.toNat] := by
    rcases msg_kinds hg with q | q | q
    · rw [spk_one hg q] at h
      split at h
      · cases h; rfl
      · cases h
    · rw [spk_two hg q] at h
      split at h
      · cases h; rfl
      · cases h
    · exact absurd q k
  unfold sealT
  rw [h, e]
  show joined [tag (keyAt vs M.m.toNat) (msgP (partM M M.m.toNat))] = _
  rw [joined_sole _ (tag_length _ _), partM_own k]

/-- A message's tag is its own. -/
def sealC (vs : List (Int × ByteArray)) (K : List Nat) (M : Msg) : Bool := (spk K M).isSome && (sealT vs K M == M.G)

/-- The votes of a message: who, slot, target. -/
def votesM (K : List Nat) (M : Msg) : List (Nat × Int × List UInt8) := if M.k = 1 then [] else ((spk K M).getD []).map fun i => (i, M.s, M.T)
end Go.Proofs.YtnbdpalbompjlaaDoor

/-
  What the program says of bytes.
-/
namespace Go.Proofs.YtnbdpalbompjlaaDoor
open Go.RowKit
set_option maxRecDepth 10000

theorem Tryd.info5 : (Tryd.prog.info? 5).map (fun i => (i.zero, i.size, i.bytes)) = some (some (.int .u8 0), 1, 1) := by kernel_rfl
end Go.Proofs.YtnbdpalbompjlaaDoor

/-
  What le.Put does.
-/
namespace Go.Proofs.YtnbdpalbompjlaaDoor
open Go.RowKit
set_option maxRecDepth 10000


set_option maxHeartbeats 400000 in
theorem put_mid (w : World) (base : Nat) (v : Value) (bs : List UInt8) (n : Nat) (k : Nat) (hk : k ≤ 8) (hn : n < 2 ^ 64) (hv : Held w base v (bv bs)) (hbase : base ≤ w.heap.size) (hlen : bs.length ≤ 1000000) :
    Calls Tryd.prog 53 #[v, .int .u64 n, .int .i64 k] w fun e w' => ∃ v', e = .returned v' ∧ Held w' base v' (bv (bs ++ leB n k)) ∧ Grew w v w' v' := by
  obtain ⟨i0, hi, hz0, hz1, hz2⟩ := info_parts Tryd.info5
  have h1 : (0 : Int) ≤ (k : Int) := by omega
  have h2 : (k : Int) ≤ 8 := by omega
  go_enter Tryd.func53, Tryd.ntmps53
  go_wp2_with fail
  go_loopw [0, 1, 10] (fun u m i wr => ∃ j : Nat, j ≤ k ∧ i = .int .i64 j ∧ m = .int .u64 ((n / 256 ^ j : Nat) : Int) ∧ Held wr base u (bv (bs ++ leB n j)) ∧ Grew w v wr u) (fun _ _ i _ => k - (intOf i).toNat)
  case atStart => exact ⟨0, Nat.zero_le _, rfl, by simp, by simpa [leB] using hv, Grew.refl _ _⟩
  case round =>
    obtain ⟨j, hj, rfl, rfl, hh, hg⟩ := hrel
    have hsz := hg.grown.size
    obtain ⟨q, hq⟩ : ∃ q : Nat, q = n / 256 ^ j := ⟨_, rfl⟩
    have hqb : q < 2 ^ 64 := by rw [hq]; exact Nat.lt_of_le_of_lt (Nat.div_le_self _ _) hn
    rw [← hq]
    have HQ := Lib.hid hq
    clear hq
    by_cases hlt : j < k
    · have hL : (bv (bs ++ leB n j)).length ≤ 1000008 := by rw [bv_length, List.length_append, leB_length]; omega
      go_wp2_with (at_builtin; refine wpList_append_held rfl _ _ 86 86 rfl rfl (hh.alloc _) 5 i0 (.int .u8 0) 1 Tryd.underlying86 hi hz0 hz1 hz2 rfl _ rfl 1 [.int .u8 ((q % 256 : Nat) : Int)] ?c1 ?c2 ?c3 ?c4 ?_)
      case c1 =>
        refine Src.ofSlice _ Tryd.underlying86 _ 1 1 _ rfl ?_ ?_
        · intro i u hi
          match i, hi with
          | 0, hi => simp at hi; subst hi; simp [Addr.add]
        · intro u hu; simp at hu; subst hu; rfl
      case c2 => unfold maxLen; omega
      case c3 => omega
      case c4 => simp; omega
      · intro v1 w1 hh1 hg1
        have hg2 := hg.trans (hg1.before ((Below.refl _ _).alloc (Nat.le_refl _) _))
        have hh2 : Held w1 base v1 (bv (bs ++ leB n (j + 1))) := by
          rw [leB_snoc, ← List.append_assoc, bv_append, ← HQ.out]
          have : bv [UInt8.ofNat (q % 256)] = [.int .u8 ((q % 256 : Nat) : Int)] := by simp [bv]
          rw [this]; exact hh1
        clear hh hh1 hg1
        have hdiv : q / 256 = n / 256 ^ (j + 1) := by rw [HQ.out, Nat.div_div_eq_div_mul, Nat.pow_succ]
        have HD := Lib.hid hdiv
        clear hdiv
        go_wp2
        go_roundw
        case rel => exact ⟨j + 1, by omega, by go_num, by rw [← HD.out]; go_num, hh2, hg2⟩
        case measure => simp [intOf]; omega
    · have hjk : j = k := by omega
      have HJ := Lib.hid hjk
      clear hjk
      go_wp2
      go_ret
      refine ⟨_, rfl, ?_, hg⟩
      rw [← HJ.out]; exact hh

set_option maxHeartbeats 400000 in
theorem put_hi (w : World) (base : Nat) (v : Value) (bs : List UInt8) (n : Nat) (width : Int) (hk : 8 < width) (hn : n < 2 ^ 64) (hv : Held w base v (bv bs)) (hbase : base ≤ w.heap.size) (hlen : bs.length ≤ 1000000) :
    Calls Tryd.prog 53 #[v, .int .u64 n, .int .i64 width] w fun e w' => ∃ v', e = .returned v' ∧ Held w' base v' (bv (bs ++ leB n 8)) ∧ Grew w v w' v' := by
  obtain ⟨i0, hi, hz0, hz1, hz2⟩ := info_parts Tryd.info5
  have h1 : (0 : Int) ≤ width := by omega
  have h2 : ¬ width ≤ 8 := by omega
  go_enter Tryd.func53, Tryd.ntmps53
  go_wp2_with fail
  go_loopw [0, 1, 10] (fun u m i wr => ∃ j : Nat, j ≤ 8 ∧ i = .int .i64 j ∧ m = .int .u64 ((n / 256 ^ j : Nat) : Int) ∧ Held wr base u (bv (bs ++ leB n j)) ∧ Grew w v wr u) (fun _ _ i _ => 8 - (intOf i).toNat)
  case atStart => exact ⟨0, Nat.zero_le _, rfl, by simp, by simpa [leB] using hv, Grew.refl _ _⟩
  case round =>
    obtain ⟨j, hj, rfl, rfl, hh, hg⟩ := hrel
    have hsz := hg.grown.size
    obtain ⟨q, hq⟩ : ∃ q : Nat, q = n / 256 ^ j := ⟨_, rfl⟩
    have hqb : q < 2 ^ 64 := by rw [hq]; exact Nat.lt_of_le_of_lt (Nat.div_le_self _ _) hn
    rw [← hq]
    have HQ := Lib.hid hq
    clear hq
    by_cases hlt : j < 8
    · have hL : (bv (bs ++ leB n j)).length ≤ 1000008 := by rw [bv_length, List.length_append, leB_length]; omega
      go_wp2_with (at_builtin; refine wpList_append_held rfl _ _ 86 86 rfl rfl (hh.alloc _) 5 i0 (.int .u8 0) 1 Tryd.underlying86 hi hz0 hz1 hz2 rfl _ rfl 1 [.int .u8 ((q % 256 : Nat) : Int)] ?c1 ?c2 ?c3 ?c4 ?_)
      case c1 =>
        refine Src.ofSlice _ Tryd.underlying86 _ 1 1 _ rfl ?_ ?_
        · intro i u hi
          match i, hi with
          | 0, hi => simp at hi; subst hi; simp [Addr.add]
        · intro u hu; simp at hu; subst hu; rfl
      case c2 => unfold maxLen; omega
      case c3 => omega
      case c4 => simp; omega
      · intro v1 w1 hh1 hg1
        have hg2 := hg.trans (hg1.before ((Below.refl _ _).alloc (Nat.le_refl _) _))
        have hh2 : Held w1 base v1 (bv (bs ++ leB n (j + 1))) := by
          rw [leB_snoc, ← List.append_assoc, bv_append, ← HQ.out]
          have : bv [UInt8.ofNat (q % 256)] = [.int .u8 ((q % 256 : Nat) : Int)] := by simp [bv]
          rw [this]; exact hh1
        clear hh hh1 hg1
        have hdiv : q / 256 = n / 256 ^ (j + 1) := by rw [HQ.out, Nat.div_div_eq_div_mul, Nat.pow_succ]
        have HD := Lib.hid hdiv
        clear hdiv
        go_wp2
        go_roundw
        case rel => exact ⟨j + 1, by omega, by go_num, by rw [← HD.out]; go_num, hh2, hg2⟩
        case measure => simp [intOf]; omega
    · have hjk : j = 8 := by omega
      have HJ := Lib.hid hjk
      clear hjk
      go_wp2
      go_ret
      refine ⟨_, rfl, ?_, hg⟩
      rw [← HJ.out]; exact hh

set_option maxHeartbeats 400000 in
theorem put_lo (w : World) (base : Nat) (v : Value) (bs : List UInt8) (n : Nat) (width : Int) (hk : width < 0) (hv : Held w base v (bv bs)) :
    Calls Tryd.prog 53 #[v, .int .u64 n, .int .i64 width] w fun e w' => ∃ v', e = .returned v' ∧ Held w' base v' (bv (bs ++ leB n 0)) ∧ Grew w v w' v' := by
  have h1 : ¬ (0 : Int) ≤ width := by omega
  go_enter Tryd.func53, Tryd.ntmps53
  go_wp2_with fail
  refine wp_loop_rounds 1 ?_
  rw [rounds_succ]
  go_wp2
  go_ret
  exact ⟨_, rfl, by simpa [leB] using hv, Grew.refl _ _⟩

/-- Put, of every width. -/
theorem put_any (w : World) (base : Nat) (v : Value) (bs : List UInt8) (n : Nat) (width : Int) (hn : n < 2 ^ 64) (hv : Held w base v (bv bs)) (hbase : base ≤ w.heap.size) (hlen : bs.length ≤ 1000000) :
    Calls Tryd.prog 53 #[v, .int .u64 n, .int .i64 width] w fun e w' => ∃ v', e = .returned v' ∧ Held w' base v' (bv (bs ++ leB n (wid width))) ∧ Grew w v w' v' := by
  by_cases h0 : width < 0
  · have := put_lo w base v bs n width h0 hv
    rwa [show wid width = 0 by unfold wid; omega]
  · by_cases h8 : 8 < width
    · have := put_hi w base v bs n width h8 hn hv hbase hlen
      rwa [show wid width = 8 by unfold wid; omega]
    · obtain ⟨k, rfl⟩ : ∃ k : Nat, width = k := ⟨width.toNat, by omega⟩
      have := put_mid w base v bs n k (by omega) hn hv hbase hlen
      rwa [show wid (k : Int) = k by unfold wid; omega]
end Go.Proofs.YtnbdpalbompjlaaDoor

/-
  What board.digestOf answers: the digest of a validator in a slot.
-/
namespace Go.Proofs.YtnbdpalbompjlaaDoor
open Go.RowKit
set_option maxRecDepth 10000

/-- Two texts that were just built. -/
theorem strs_two (w : World) (s t : List UInt8) : StrAt (w.alloc (.cells #[.string ⟨s.toArray⟩, .string ⟨t.toArray⟩] 9)) (w.alloc (.cells #[.string ⟨s.toArray⟩, .string ⟨t.toArray⟩] 9)).heap.size (some ⟨w.heap.size, 0, none⟩) w.heap.size 0 [s, t] := by
  have h := Blk.new w 9 #[.string ⟨s.toArray⟩, .string ⟨t.toArray⟩]
  refine ⟨fun _ => rfl, fun _ => h.lt, fun j x hj => ?_⟩
  rw [Nat.zero_add, h.cell j]
  match j, hj with
  | 0, hj => simp at hj; subst hj; rfl
  | 1, hj => simp at hj; subst hj; rfl
  | _ + 2, hj => simp at hj

set_option maxHeartbeats 4000000 in
theorem digestOf_any (w : World) (hT : Tabs w) (slot who : Nat) (h1 : slot ≤ 1073741824) (h2 : who ≤ 1000000) :
    Calls Tryd.prog 73 #[.int .i64 slot, .int .i64 who] w fun e w' => e = .returned (.agg (bv (lotD slot who)).toArray) ∧ Below w.heap.size w w' := by
  have HB0 := Lib.hid ((Below.refl w.heap.size w).alloc (Nat.le_refl _) (.cells (Array.replicate 32 (.int .u8 0)) 26))
  have HR0 := Lib.hid (Blk.new w 26 (Array.replicate 32 (.int .u8 0)))
  have hu1 : IntKind.u64.wrap (slot : Int) = (slot : Int) := by rw [IntKind.wrap_u64]; omega
  have hu2 : IntKind.u64.wrap (who : Int) = (who : Int) := by rw [IntKind.wrap_u64]; omega
  go_enter Tryd.func73, Tryd.ntmps73
  go_wp2_with fail
  have hrep : (Array.replicate 32 (Value.int .u8 0)) = #[.int .u8 0, .int .u8 0, .int .u8 0, .int .u8 0, .int .u8 0, .int .u8 0, .int .u8 0, .int .u8 0, .int .u8 0, .int .u8 0, .int .u8 0, .int .u8 0, .int .u8 0, .int .u8 0, .int .u8 0, .int .u8 0, .int .u8 0, .int .u8 0, .int .u8 0, .int .u8 0, .int .u8 0, .int .u8 0, .int .u8 0, .int .u8 0, .int .u8 0, .int .u8 0, .int .u8 0, .int .u8 0, .int .u8 0, .int .u8 0, .int .u8 0, .int .u8 0] := rfl
  rw [← hrep]
  generalize w.alloc (.cells (Array.replicate 32 (.int .u8 0)) 26) = w1 at HB0 HR0 ⊢
  have hwR : w.heap.size ≤ w.heap.size := Nat.le_refl _
  obtain ⟨R, hR⟩ : ∃ R, R = w.heap.size := ⟨_, rfl⟩
  rw [← hR] at HR0 ⊢
  have hwR : w.heap.size ≤ R := by omega
  clear hrep hR
  refine (put_mid w1 w1.heap.size (.slice none 0 0) [] slot 4 (by omega) (by omega) (Held.nil _ _) (Nat.le_refl _) (by simp)).mono ?_
  rintro e w2 ⟨v2, rfl, hh2, hg2⟩
  have HB2 := Lib.hid (hg2.below (Held.nil w1 w1.heap.size) (Nat.le_refl _))
  rw [List.nil_append] at hh2
  have HH2 := Lib.hid hh2
  clear hh2 hg2
  go_wp2_with fail
  refine (put_mid w2 w1.heap.size v2 (leB slot 4) who 2 (by omega) (by omega) HH2.out HB2.out.size (by rw [leB_length]; omega)).mono ?_
  rintro e w3 ⟨v3, rfl, hh3, hg3⟩
  have HB3 := Lib.hid (HB2.out.trans (hg3.below HH2.out HB2.out.size))
  have hs3 := hh3.string (P := Tryd.prog) 86 9 5 Tryd.underlying86 Tryd.underlying5 Tryd.underlying9
  have HR3 := Lib.hid (HR0.out.below HB3.out HR0.out.lt)
  have HBF := Lib.hid (HB0.out.trans (HB3.out.mono HB0.out.size))
  obtain ⟨B, hBB⟩ : ∃ B, B = leB slot 4 ++ leB who 2 := ⟨_, rfl⟩
  rw [← hBB] at hs3
  have HBB := Lib.hid hBB
  clear hh3 hg3 HB3 HB2 HH2 HR0 HB0 hBB
  go_wp2_with fail
  have hb := (Below.refl w3.heap.size w3).alloc (Nat.le_refl _) (.cells #[.string ⟨boardB.toArray⟩, .string ⟨B.toArray⟩] 9)
  have HR4 := Lib.hid (HR3.out.below hb HR3.out.lt)
  have HB4 := Lib.hid (HBF.out.trans (hb.mono HBF.out.size))
  refine (of_any _ _ 2 2 w3.heap.size 0 [boardB, B] (hT.below HB4.out hT.size) rfl (by omega) (strs_two w3 boardB B) (by rw [HBB.out]; simp [boardB, leB_length])).mono ?_
  rintro e w5 ⟨rfl, hb5⟩
  obtain ⟨D, hD⟩ : ∃ D, D = lotD slot who := ⟨_, rfl⟩
  have hDe : digest [boardB, B].flatten = D := by rw [hD, HBB.out, lotD, lotB]; simp
  rw [hDe]
  have hdl : D.length = 32 := by rw [hD]; exact lotD_length _ _
  have hr := HR4.out.below hb5 HR4.out.lt
  have HB5 := HB4.out.trans (hb5.mono HB4.out.size)
  have HR5 := Lib.hid hr
  have HSZ := Lib.hid (show (Tryd.prog.info? 26).map (·.size) = some (bv D).length by rw [bv_length, hdl]; exact Tryd.size26)
  have HLE := Lib.hid (show 0 + (bv D).length ≤ (Array.replicate 32 (Value.int .u8 0)).toList.length by rw [bv_length, hdl]; simp)
  have HSP := Lib.hid (splice_all (Array.replicate 32 (Value.int .u8 0)).toList (bv D) (by rw [bv_length, hdl]; simp))
  have HR6 := Lib.hid (hr.setRow (bv D))
  have HB6 := Lib.hid (below_setRow HB5 hwR (bv D).toArray)
  have HD := Lib.hid hD
  clear hr hdl hD hDe hb5 HR4 HB4 HB5 hs3
  go_wp2_with ((with_reducible refine wpList_store_part ?_ 26 (.tmp 4) (.tmp 16) ?_ R 0 (bv D) ?_ ?_ 26 _ HR5.out HSZ.out HLE.out (bv_one _) ?_); rfl; rfl; rfl; rfl; rw [HSP.out])
  rw [← HD.out]
  refine bodyPost_ret (v := .agg (bv D).toArray) ?_ rfl ⟨rfl, HB6.out⟩
  exact results_cell_row rfl _ _ R 26 _ (0, 0) (.array 32 5) rfl HR6.out Tryd.underlying26 rfl (by rw [List.size_toArray]; exact HSZ.out)
end Go.Proofs.YtnbdpalbompjlaaDoor

/-
  What board.draw answers: the lots of a slot, one for each validator.
-/
namespace Go.Proofs.YtnbdpalbompjlaaDoor
open Go.RowKit
set_option maxRecDepth 10000

/-- A lot's cells; a row of lots. -/
def encL (x : Lot) : List Value := bv x.d ++ [.int .i64 x.n]
def lc (l : List Lot) : List Value := l.flatMap encL
theorem encL_length (x : Lot) : (encL x).length = 33 := by simp [encL, bv_length, x.h]
theorem encL_one (x : Lot) : ∀ v ∈ encL x, v.oneCell' = true := by
  intro v hv
  rcases List.mem_append.1 hv with h | h
  · exact bv_one _ v h
  · simp at h; subst h; rfl
theorem lc_length (l : List Lot) : (lc l).length = l.length * 33 := by
  induction l with
  | nil => rfl
  | cons v r ih => simp only [lc, List.flatMap_cons, List.length_append, List.length_cons, encL_length] at ih ⊢; omega
theorem lc_append (a b : List Lot) : lc (a ++ b) = lc a ++ lc b := by simp [lc]
theorem lc_at (l : List Lot) : ∀ (i j : Nat) (x : Lot), l[i]? = some x → j < 33 → (lc l)[i * 33 + j]? = (encL x)[j]? := by
  induction l with
  | nil => intro i j x h; simp at h
  | cons u r ih =>
    intro i j x h hj
    have e : lc (u :: r) = encL u ++ lc r := rfl
    rw [e]
    cases i with
    | zero => simp at h; subst h; rw [Nat.zero_mul, Nat.zero_add, List.getElem?_append_left (by rw [encL_length]; exact hj)]
    | succ i =>
      simp at h
      rw [List.getElem?_append_right (by rw [encL_length]; omega), encL_length, show (i + 1) * 33 + j - 33 = i * 33 + j by omega]
      exact ih i j x h hj

/-- The lots of the first i validators. -/
def lotsTo (slot i : Nat) : List Lot := (List.range i).map (lotAt slot)
theorem lotsTo_length (slot i : Nat) : (lotsTo slot i).length = i := by simp [lotsTo]
theorem lotsTo_succ (slot i : Nat) : lotsTo slot (i + 1) = lotsTo slot i ++ [lotAt slot i] := by simp [lotsTo, List.range_succ]
theorem lotsTo_at (slot n i : Nat) (h : i < n) : (lotsTo slot n)[i]? = some (lotAt slot i) := by simp [lotsTo, h]

theorem splice_next (A zs cs : List Value) (k : Nat) (h : A.length = k) : splice (A ++ zs) k cs = (A ++ cs) ++ zs.drop cs.length := by
  subst h
  simp [splice, List.drop_append]

/-- Thirty-two of them. -/
theorem len32 {α : Type} : ∀ (l : List α), l.length = 32 → ∃ a0 a1 a2 a3 a4 a5 a6 a7 a8 a9 a10 a11 a12 a13 a14 a15 a16 a17 a18 a19 a20 a21 a22 a23 a24 a25 a26 a27 a28 a29 a30 a31, l = [a0, a1, a2, a3, a4, a5, a6, a7, a8, a9, a10, a11, a12, a13, a14, a15, a16, a17, a18, a19, a20, a21, a22, a23, a24, a25, a26, a27, a28, a29, a30, a31] := by
  intro l h
  match l, h with
  | [a0, a1, a2, a3, a4, a5, a6, a7, a8, a9, a10, a11, a12, a13, a14, a15, a16, a17, a18, a19, a20, a21, a22, a23, a24, a25, a26, a27, a28, a29, a30, a31], _ => exact ⟨a0, a1, a2, a3, a4, a5, a6, a7, a8, a9, a10, a11, a12, a13, a14, a15, a16, a17, a18, a19, a20, a21, a22, a23, a24, a25, a26, a27, a28, a29, a30, a31, rfl⟩

def zlot : List Value := List.replicate 32 (.int .u8 0) ++ [.int .i64 0]
theorem Tryd.info104 : (Tryd.prog.info? 104).map (fun i => (i.zero, i.size, i.bytes)) = some (some (.agg zlot.toArray), 33, 40) := by kernel_rfl
theorem Tryd.size104 : (Tryd.prog.info? 104).map (·.size) = some 33 := by kernel_rfl

theorem lot_built32 (a0 a1 a2 a3 a4 a5 a6 a7 a8 a9 a10 a11 a12 a13 a14 a15 a16 a17 a18 a19 a20 a21 a22 a23 a24 a25 a26 a27 a28 a29 a30 a31 : Value) (n : Int) : Tryd.prog.built 104 [(0, .agg #[a0, a1, a2, a3, a4, a5, a6, a7, a8, a9, a10, a11, a12, a13, a14, a15, a16, a17, a18, a19, a20, a21, a22, a23, a24, a25, a26, a27, a28, a29, a30, a31]), (1, .int .i64 n)] = some #[a0, a1, a2, a3, a4, a5, a6, a7, a8, a9, a10, a11, a12, a13, a14, a15, a16, a17, a18, a19, a20, a21, a22, a23, a24, a25, a26, a27, a28, a29, a30, a31, .int .i64 n] := by kernel_rfl
theorem lot_built (D : List UInt8) (h : D.length = 32) (n : Int) : Tryd.prog.built 104 [(0, .agg (bv D).toArray), (1, .int .i64 n)] = some (bv D ++ [Value.int .i64 n]).toArray := by
  obtain ⟨a0, a1, a2, a3, a4, a5, a6, a7, a8, a9, a10, a11, a12, a13, a14, a15, a16, a17, a18, a19, a20, a21, a22, a23, a24, a25, a26, a27, a28, a29, a30, a31, e⟩ := len32 (bv D) (by rw [bv_length, h])
  rw [e]
  exact lot_built32 a0 a1 a2 a3 a4 a5 a6 a7 a8 a9 a10 a11 a12 a13 a14 a15 a16 a17 a18 a19 a20 a21 a22 a23 a24 a25 a26 a27 a28 a29 a30 a31 n

set_option maxHeartbeats 4000000 in
theorem draw_any (w : World) (hT : Tabs w) (slot n : Nat) (h1 : slot ≤ 1073741824) (h2 : n ≤ 1000) :
    Calls Tryd.prog 62 #[.int .i64 slot, .int .i64 n] w fun e w' => e = .returned (.slice (some ⟨w.heap.size, 0, none⟩) n n) ∧ Blk w' w.heap.size 104 (lc (lotsTo slot n)) ∧ Below w.heap.size w w' := by
  obtain ⟨i0, hi, hz0, hz1, hz2⟩ := info_parts Tryd.info104
  have hmk := fun W => run_makeSlice (P := Tryd.prog) W 100 104 i0 (.agg zlot.toArray) Tryd.underlying100 hi hz0 .i64 .i64 (n : Int) (n : Int) (by omega) (by omega) (by rw [hz1]; simp; omega) (by rw [hz2]; omega) (by omega)
  simp only [Int.toNat_natCast, hz1] at hmk
  have hk := Blk.new w 104 (madeCells (Value.agg zlot.toArray).cells (n * 33))
  have hbel : Below w.heap.size w (w.alloc (.cells (madeCells (Value.agg zlot.toArray).cells (n * 33)) 104)) := (Below.refl _ _).alloc (Nat.le_refl _) _
  have hmk0 := hmk w
  have hzl : (madeCells (Value.agg zlot.toArray).cells (n * 33)).toList.length = n * 33 := by rw [Array.length_toList, size_madeCells]
  generalize (madeCells (Value.agg zlot.toArray).cells (n * 33)).toList = Z at hk hzl
  obtain ⟨w1, hw1⟩ : ∃ w1, w1 = w.alloc (.cells (madeCells (Value.agg zlot.toArray).cells (n * 33)) 104) := ⟨_, rfl⟩
  rw [← hw1] at hmk0 hk hbel
  obtain ⟨g, hg⟩ : ∃ g, g = w.heap.size := ⟨_, rfl⟩
  rw [← hg] at hmk0 hk ⊢
  have HG := Lib.hid hg
  have HK := Lib.hid hk
  have HB := Lib.hid hbel
  have HZ := Lib.hid hzl
  have HT := Lib.hid hT
  clear hmk hw1 hk hbel hg hzl hz0 hz1 hz2 hi hT
  go_enter Tryd.func62, Tryd.ntmps62
  go_wp2_with fail
  go_loopw [11] (fun i wr => ∃ (j : Nat) (zs : List Value), j ≤ n ∧ i = .int .i64 j ∧ Hid (zs.length = (n - j) * 33) ∧ Hid (Blk wr g 104 (lc (lotsTo slot j) ++ zs)) ∧ Hid (Below w.heap.size w wr)) (fun i _ => n - (intOf i).toNat)
  case atStart => exact ⟨0, Z, Nat.zero_le _, rfl, Lib.hid (by rw [HZ.out]; rfl), Lib.hid (by simpa [lotsTo, lc] using HK.out), HB⟩
  case round =>
    obtain ⟨j, zs, hj, rfl, HZS, HBK, HBel⟩ := hrel
    by_cases hlt : j < n
    · go_wp2_with fail
      refine (digestOf_any wr (HT.out.below HBel.out HT.out.size) slot j h1 (by omega)).mono ?_
      rintro e w2 ⟨rfl, hb2⟩
      have hk2 := HBK.out.below hb2 HBK.out.lt
      have HB2 := Lib.hid (HBel.out.trans (hb2.mono HBel.out.size))
      have HBD := Lib.hid (lot_built (lotD slot j) (lotD_length slot j) (j : Int))
      have hle : (encL (lotAt slot j)).length = 33 := encL_length _
      have hlA : (lc (lotsTo slot j)).length = j * 33 := by rw [lc_length, lotsTo_length]
      have HSZ := Lib.hid (show (Tryd.prog.info? 104).map (·.size) = some (encL (lotAt slot j)).length by rw [hle]; exact Tryd.size104)
      have HLE := Lib.hid (show j * 33 + (encL (lotAt slot j)).length ≤ (lc (lotsTo slot j) ++ zs).length by rw [List.length_append, hle, hlA, HZS.out]; omega)
      have hsp := splice_next (lc (lotsTo slot j)) zs (encL (lotAt slot j)) (j * 33) hlA
      have HSP := Lib.hid (show splice (lc (lotsTo slot j) ++ zs) (j * 33) (encL (lotAt slot j)) = lc (lotsTo slot (j + 1)) ++ zs.drop 33 by rw [hsp, hle, lotsTo_succ, lc_append]; simp [lc])
      have HR3 := Lib.hid (hk2.setRow (lc (lotsTo slot (j + 1)) ++ zs.drop 33))
      have HB3 := Lib.hid (below_setRow HB2.out (by rw [HG.out]; exact Nat.le_refl _ : w.heap.size ≤ g) (lc (lotsTo slot (j + 1)) ++ zs.drop 33).toArray)
      have HZ3 := Lib.hid (show (zs.drop 33).length = (n - (j + 1)) * 33 by rw [List.length_drop, HZS.out]; omega)
      have HO := Lib.hid (encL_one (lotAt slot j))
      obtain ⟨E, hE⟩ : ∃ E, E = encL (lotAt slot j) := ⟨_, rfl⟩
      rw [show bv (lotD slot j) ++ [Value.int .i64 (j : Int)] = encL (lotAt slot j) from rfl, ← hE] at HBD
      rw [← hE] at HSZ HLE HSP HO
      have HK2 := Lib.hid hk2
      clear hb2 hk2 hE hle hlA hsp HBK HBel
      generalize lotD slot j = D at HBD ⊢
      go_wp2_with (first
        | ((with_reducible refine wpList_build_eq ?_ 104 #[(0, .tmp 18), (1, .tmp 19)] ?_ E.toArray ?_ ?_); rfl; rfl; (simp only [List.map_toArray, List.map_cons, List.map_nil]; exact HBD.out))
        | ((with_reducible refine wpList_store_part ?_ 104 (.tmp 21) (.tmp 20) ?_ g (j * 33) E ?_ ?_ 104 _ HK2.out HSZ.out HLE.out HO.out ?_); rfl; rfl; rfl; rfl; rw [HSP.out]))
      go_roundw
      case rel => exact ⟨j + 1, zs.drop 33, by omega, by go_num, HZ3, HR3, HB3⟩
      case measure => simp [intOf]; omega
    · have hjn : j = n := by omega
      have HF := Lib.hid (show Blk wr g 104 (lc (lotsTo slot n)) by
        have hz := HZS.out
        have hb := HBK.out
        rw [hjn, Nat.sub_self, Nat.zero_mul] at hz
        rw [List.eq_nil_of_length_eq_zero hz, List.append_nil, hjn] at hb
        exact hb)
      clear hjn
      go_wp2_with fail
      go_ret
      exact ⟨rfl, HF.out, by rw [HG.out]; exact HBel.out⟩
end Go.Proofs.YtnbdpalbompjlaaDoor
