/-
  The texts Vote2, Keys8, one behind the other.
-/
import Derived.Test.YtnbdpalbompjlaaDoorM13
import Derived.Test.YtnbdpalbompjlaaDoorM21
import Derived.Test.YtnbdpalbompjlaaDoorM19
/-
  Votes in blocks of their own; votes that one of a sum's would have alone: plain mathematics and stores.
-/
namespace Go.Proofs.YtnbdpalbompjlaaDoor
open Go.RowKit
set_option maxRecDepth 10000

/-- An empty vote's cells, written out. -/
def vzcells : Array Value := #[.int .i64 0, .int .i64 0, .int .u8 0, .int .u8 0, .int .u8 0, .int .u8 0, .int .u8 0, .int .u8 0, .int .u8 0, .int .u8 0, .int .u8 0, .int .u8 0, .int .u8 0, .int .u8 0, .int .u8 0, .int .u8 0, .int .u8 0, .int .u8 0, .int .u8 0, .int .u8 0, .int .u8 0, .int .u8 0, .int .u8 0, .int .u8 0, .int .u8 0, .int .u8 0, .int .u8 0, .int .u8 0, .int .u8 0, .int .u8 0, .int .u8 0, .int .u8 0, .int .u8 0, .int .u8 0]
theorem vz_lit : (#[.int .i64 0, .int .i64 0, .int .u8 0, .int .u8 0, .int .u8 0, .int .u8 0, .int .u8 0, .int .u8 0, .int .u8 0, .int .u8 0, .int .u8 0, .int .u8 0, .int .u8 0, .int .u8 0, .int .u8 0, .int .u8 0, .int .u8 0, .int .u8 0, .int .u8 0, .int .u8 0, .int .u8 0, .int .u8 0, .int .u8 0, .int .u8 0, .int .u8 0, .int .u8 0, .int .u8 0, .int .u8 0, .int .u8 0, .int .u8 0, .int .u8 0, .int .u8 0, .int .u8 0, .int .u8 0] : Array Value) = vzcells := rfl
theorem vz_blk (w : World) : Blk (w.alloc (.cells vzcells 51)) w.heap.size 51 vzero := by
  have := Blk.new w 51 vzcells
  rwa [show vzcells.toList = vzero from rfl] at this
theorem vzero_length : vzero.length = 34 := by decide
/-- A vote into a block that holds an empty one. -/
theorem wpList_store_vote {ops : Array Oper} {rest : List Oper} {o : Oper} {a : Act} {w : World} {Q : Exit → Act → World → Prop} (x y : Operand) (ho : o.op = .store 51 x y) (hgd : o.guard = none)
    (g : Nat) (v : Nat × Int × List UInt8) (hx : a.eval x = .pointer (some ⟨g, 0, none⟩)) (hy : a.eval y = .agg (vcell v).toArray) (hg : Blk w g 51 vzero) (hv : v.2.2.length = 32)
    (h : wpList Tryd.prog ops Q rest (a.put o.dst undef) (w.setRow g (vcell v).toArray)) : wpList Tryd.prog ops Q (o :: rest) a w := by
  refine wpList_store_part hgd 51 x y ho g 0 (vcell v) hx hy 51 vzero hg (vote_size hv) (by rw [vcell_length hv, vzero_length]; omega) (vcell_one _) ?_
  rw [splice_all _ _ (by rw [vcell_length hv, vzero_length])]
  exact h

theorem placeFrom_in {who : Nat} : ∀ (K : List Nat) (i : Nat), who ∈ K → 0 ≤ placeFrom (who : Int) i K
  | [], _, h => by cases h
  | x :: r, i, h => by
    rw [placeFrom]
    split
    · omega
    · rename_i e
      rcases List.mem_cons.1 h with rfl | h
      · exact absurd rfl e
      · exact placeFrom_in r (i + 1) h
theorem vote_spk {K : List Nat} {M : Msg} (hg : msgGood M = true) {who : Nat} (hk : who ∈ K) (hw : who ≤ 65535) : spk K (voteM M who) = some [who] := by
  rw [spk_two (voteM_good hg hw) rfl, if_pos (show 0 ≤ placeFrom (voteM M who).m 0 K from placeFrom_in K 0 hk)]
  rfl
theorem vote_tag {vs : List (Int × ByteArray)} {K : List Nat} {M : Msg} (hg : msgGood M = true) (h3 : M.k = 3) {who : Nat} (hk : who ∈ K) (hw : who ≤ 65535) : sealT vs K (voteM M who) = tagOne vs M who := by
  rw [sealT_sole (vote_spk hg hk hw) (by simp [voteM]), tagOne, partM_sum h3]
  rfl
theorem vote_votes {K : List Nat} {M : Msg} (hg : msgGood M = true) {who : Nat} (hk : who ∈ K) (hw : who ≤ 65535) : votesM K (voteM M who) = [(who, M.s, M.T)] := by
  rw [votesM, if_neg (by simp [voteM]), vote_spk hg hk hw]
  rfl

/-- A list, turned round. -/
theorem turned_list {α : Type} (l : List α) (d : α) (q : Nat) (hq : q < l.length) : (List.range l.length).map (fun i => l.getD ((i + q) % l.length) d) = l.drop q ++ l.take q := by
  apply List.ext_getElem?
  intro i
  rw [List.getElem?_append, List.length_drop]
  by_cases hi : i < l.length
  · rw [List.getElem?_map, List.getElem?_range hi, Option.map_some, List.getD_eq_getElem?_getD]
    by_cases h : i < l.length - q
    · rw [if_pos h, List.getElem?_drop, Nat.mod_eq_of_lt (by omega), List.getElem?_eq_getElem (show i + q < l.length by omega), List.getElem?_eq_getElem (show q + i < l.length by omega)]
      simp [Nat.add_comm]
    · rw [if_neg h, List.getElem?_take, if_pos (by omega), show (i + q) % l.length = i - (l.length - q) by
        rw [show i + q = (i - (l.length - q)) + l.length by omega, Nat.add_mod_right, Nat.mod_eq_of_lt (by omega)], List.getElem?_eq_getElem (show i - (l.length - q) < l.length by omega)]
      rfl
  · rw [List.getElem?_eq_none (by simp; omega), if_neg (by omega), List.getElem?_take]
    split
    · omega
    · rfl
theorem joined_turn (ts : List (List UInt8)) (i : Nat) : joined (ts.drop i ++ ts.take i) = joined ts := tagF_ext fun p _ => by
  have h : col ts p = col (ts.take i) p ^^^ col (ts.drop i) p := by rw [← col_append, List.take_append_drop]
  rw [col_append, h, UInt8.xor_comm]
end Go.Proofs.YtnbdpalbompjlaaDoor

/-
  Keys of others: plain mathematics; stores into a slice of the call's own; configurations in blocks of their own.
-/
namespace Go.Proofs.YtnbdpalbompjlaaDoor
open Go.RowKit
set_option maxRecDepth 10000

/-- With another key of the first j that are none of L. -/
def others (vs : List (Int × ByteArray)) (L : List Nat) (key : ByteArray) (j : Nat) : List (Int × ByteArray) := vs.mapIdx fun i v => if i < j ∧ ¬ i ∈ L then (v.1, key) else v
theorem others_length (vs : List (Int × ByteArray)) (L : List Nat) (key : ByteArray) (j : Nat) : (others vs L key j).length = vs.length := by simp [others]
theorem others_at (vs : List (Int × ByteArray)) (L : List Nat) (key : ByteArray) (j i : Nat) : (others vs L key j)[i]? = (vs[i]?).map fun v => if i < j ∧ ¬ i ∈ L then (v.1, key) else v := by
  rw [others, List.getElem?_mapIdx]
theorem others_zero (vs : List (Int × ByteArray)) (L : List Nat) (key : ByteArray) : others vs L key 0 = vs := by
  apply List.ext_getElem?
  intro i
  rw [others_at]
  cases vs[i]? <;> simp
theorem others_in {vs : List (Int × ByteArray)} {L : List Nat} {key : ByteArray} {j : Nat} (h : j ∈ L) : others vs L key (j + 1) = others vs L key j := by
  apply List.ext_getElem?
  intro i
  rw [others_at, others_at]
  congr 1
  funext v
  by_cases e : i = j
  · subst e; simp [h]
  · have : (i < j + 1 ∧ ¬ i ∈ L) ↔ (i < j ∧ ¬ i ∈ L) := ⟨fun ⟨h1, h2⟩ => ⟨by omega, h2⟩, fun ⟨h1, h2⟩ => ⟨by omega, h2⟩⟩
    simp only [this]
theorem others_out {vs : List (Int × ByteArray)} {L : List Nat} {key : ByteArray} {j : Nat} {v : Int × ByteArray} (h : ¬ j ∈ L) (hv : vs[j]? = some v) : (others vs L key j).set j (v.1, key) = others vs L key (j + 1) := by
  apply List.ext_getElem?
  intro i
  have hj := (List.getElem?_eq_some_iff.1 hv).1
  by_cases e : j = i
  · subst e
    rw [List.getElem?_set_self (by rw [others_length]; exact hj), others_at, hv]
    simp [h]
  · rw [List.getElem?_set_ne e, others_at, others_at]
    congr 1
    funext v
    have : (i < j + 1 ∧ ¬ i ∈ L) ↔ (i < j ∧ ¬ i ∈ L) := ⟨fun ⟨h1, h2⟩ => ⟨by omega, h2⟩, fun ⟨h1, h2⟩ => ⟨by omega, h2⟩⟩
    simp only [this]
theorem others_own {vs : List (Int × ByteArray)} {L : List Nat} {key : ByteArray} {j : Nat} {v : Int × ByteArray} (hv : vs[j]? = some v) : (others vs L key j)[j]? = some v := by
  rw [others_at, hv]; simp
theorem others_key {vs : List (Int × ByteArray)} {L : List Nat} {key : ByteArray} (j : Nat) {i : Nat} (h : i ∈ L) : keyAt (others vs L key j) i = keyAt vs i := by
  unfold keyAt
  rw [others_at]
  cases vs[i]? <;> simp [h]
theorem others_sizes {vs : List (Int × ByteArray)} {L : List Nat} {key : ByteArray} {j : Nat} (h : ∀ v ∈ vs, v.2.size ≤ 500) (hk : key.size ≤ 500) : ∀ v ∈ others vs L key j, v.2.size ≤ 500 := by
  intro v hv
  obtain ⟨i, hi⟩ := List.getElem?_of_mem hv
  rw [others_at] at hi
  cases hx : vs[i]? with
  | none => rw [hx] at hi; cases hi
  | some u =>
    rw [hx] at hi
    simp only [Option.map_some, Option.some.injEq] at hi
    subst hi
    split
    · exact hk
    · exact h u (List.mem_of_getElem? hx)
theorem tags_others {vs : List (Int × ByteArray)} {key : ByteArray} {j : Nat} {M : Msg} (L : List Nat) : tagsM (others vs L key j) M L = tagsM vs M L := by
  unfold tagsM
  refine List.map_congr_left fun i hi => ?_
  rw [tagOne, tagOne, others_key j hi]
theorem sealT_others {vs : List (Int × ByteArray)} {K : List Nat} {key : ByteArray} {j : Nat} {M : Msg} : sealT (others vs ((spk K M).getD []) key j) K M = sealT vs K M := by
  unfold sealT
  cases h : spk K M with
  | none => rfl
  | some l =>
    simp only [Option.getD_some]
    rw [tags_others]
theorem vc_set : ∀ (us : List (Int × ByteArray)) (j : Nat) (u : Int × ByteArray) (key : ByteArray), us[j]? = some u → (vc us).set (j * 2 + 1) (.string key) = vc (us.set j (u.1, key))
  | [], j, u, key, h => by simp at h
  | x :: r, 0, u, key, h => by
    simp at h; subst h; rfl
  | x :: r, j + 1, u, key, h => by
    have ih := vc_set r j u key (by simpa using h)
    have e : ∀ (y : Int × ByteArray) (l : List (Int × ByteArray)), vc (y :: l) = Value.int .i64 y.1 :: Value.string y.2 :: vc l := fun _ _ => rfl
    rw [List.set_cons_succ, e, e, ← ih, show (j + 1) * 2 + 1 = j * 2 + 1 + 1 + 1 by omega, List.set_cons_succ, List.set_cons_succ]

theorem setCell_size (w : World) (a : Addr) (v : Value) : (w.setCell a v).heap.size = w.heap.size := by simp [World.setCell]
theorem WideAt.set {k : Nat} {w : World} {base n cap g off : Nat} {ao : Option Addr} {xs : List Value} (h : WideAt k w base n cap g off ao xs) (j : Nat) (hj : j < xs.length) (u : Value) : WideAt k (w.setCell ⟨g, off + j, none⟩ u) base n cap g off ao (xs.set j u) := by
  refine ⟨by rw [List.length_set]; exact h.len, h.le, h.max, h.addr, h.own, fun hc => by rw [setCell_size]; exact h.lt hc, fun i v hi => ?_, fun i hi => ?_, fun i hi => by rw [World.frozen?_setCell]; exact h.free i hi⟩
  · by_cases e : j = i
    · subst e
      rw [List.getElem?_set_self hj] at hi
      cases hi
      exact World.cell?_setCell_same w ⟨g, off + j, none⟩ u (h.cells j _ (List.getElem?_eq_getElem hj))
    · rw [List.getElem?_set_ne e] at hi
      rw [World.cell?_setCell_other w ⟨g, off + j, none⟩ ⟨g, off + i, none⟩ u (by intro q; injection q with _ q2 _; omega)]
      exact h.cells i v hi
  · by_cases e : j = i
    · subst e
      obtain ⟨x, hx⟩ := Option.isSome_iff_exists.1 (h.room j hi)
      rw [World.cell?_setCell_same w ⟨g, off + j, none⟩ u hx]; rfl
    · rw [World.cell?_setCell_other w ⟨g, off + j, none⟩ ⟨g, off + i, none⟩ u (by intro q; injection q with _ q2 _; omega)]
      exact h.room i hi

/-- An empty configuration's cells, written out. -/
def czcells : Array Value := #[.slice none 0 0, .int .i64 0, .int .i64 0, .int .i64 0, .int .i64 0, .int .i64 0, .int .i64 0, .int .i64 0, .int .i64 0, .int .i64 0, .int .i64 0, .int .i64 0]
theorem cz_lit : (#[.slice none 0 0, .int .i64 0, .int .i64 0, .int .i64 0, .int .i64 0, .int .i64 0, .int .i64 0, .int .i64 0, .int .i64 0, .int .i64 0, .int .i64 0, .int .i64 0] : Array Value) = czcells := rfl
/-- A configuration into a block that holds an empty one. -/
theorem wpList_store_cfg {ops : Array Oper} {rest : List Oper} {o : Oper} {a : Act} {w : World} {Q : Exit → Act → World → Prop} (x y : Operand) (ho : o.op = .store 24 x y) (hgd : o.guard = none)
    (g : Nat) (cs : List Value) (hx : a.eval x = .pointer (some ⟨g, 0, none⟩)) (hy : a.eval y = .agg cs.toArray) (hg : Blk w g 24 czcells.toList) (hl : cs.length = 12) (h1 : ∀ v ∈ cs, v.oneCell' = true)
    (h : wpList Tryd.prog ops Q rest (a.put o.dst undef) (w.setRow g cs.toArray)) : wpList Tryd.prog ops Q (o :: rest) a w := by
  refine wpList_store_part hgd 24 x y ho g 0 cs hx hy 24 czcells.toList hg (by rw [hl]; exact Tryd.sizeCfg) (by rw [hl]; exact Nat.le_refl 12) h1 ?_
  rw [splice_all _ _ (by rw [hl]; rfl)]
  exact h
theorem CfgIn.one {w : World} {cs : List Value} {vs : List (Int × ByteArray)} (h : CfgIn w cs vs) : ∀ v ∈ cs, v.oneCell' = true := by
  obtain ⟨nao, ncap, b, off, n1, n2, n3, n4, n5, n6, n7, n8, n9, n10, n11, e, h1, h2⟩ := h
  rw [e]
  intro v hv
  simp only [List.mem_cons, List.not_mem_nil, or_false] at hv
  rcases hv with rfl | rfl | rfl | rfl | rfl | rfl | rfl | rfl | rfl | rfl | rfl | rfl <;> rfl
/-- With other validators, as many, that lie elsewhere. -/
theorem CfgOk.turn {w w' : World} {cs : List Value} {C : Nat} {vs us : List (Int × ByteArray)} (h : CfgOk w cs C vs) {ao : Option Addr} {n cap b off : Nat} (hn : n = vs.length) (hu : us.length = vs.length) (hk : ∀ v ∈ us, v.2.size ≤ 500) (hl : Lies w' w'.heap.size ao b off (vc us)) :
    CfgOk w' (cs.set 0 (.slice ao n cap)) C us := by
  obtain ⟨nao, ncap, b', off', n1, n3, n4, n5, n6, n7, n8, n9, n10, n11, e, h1, h2, h3, h4, h5, h6, h7⟩ := h
  subst hn
  refine ⟨ao, cap, b, off, n1, n3, n4, n5, n6, n7, n8, n9, n10, n11, ?_, by omega, by omega, h3, by omega, h5, hk, hl⟩
  rw [e, hu]
  rfl
theorem CfgOk.lies {w : World} {cs : List Value} {C : Nat} {vs : List (Int × ByteArray)} (h : CfgOk w cs C vs) : ∃ (nao : Option Addr) (ncap b off : Nat), cs[0]? = some (.slice nao vs.length ncap) ∧ Lies w w.heap.size nao b off (vc vs) := by
  obtain ⟨nao, ncap, b, off, n1, n3, n4, n5, n6, n7, n8, n9, n10, n11, e, h1, h2, h3, h4, h5, h6, h7⟩ := h
  exact ⟨nao, ncap, b, off, by rw [e]; rfl, h7⟩
theorem Tryd.infoVal : (Tryd.prog.info? 59).map (fun i => (i.zero, i.size, i.bytes)) = some (some (.agg #[.int .i64 0, .string ⟨#[]⟩]), 2, 24) := by kernel_rfl
end Go.Proofs.YtnbdpalbompjlaaDoor
