/-
  Votes in blocks of their own; votes that one of a sum's would have alone: plain mathematics and stores.
-/
import Derived.Test.YtnbdpalbompjlaaDoorM15
import Derived.Test.YtnbdpalbompjlaaDoorSeal1
namespace Go.Proofs.YtnbdpalbompjlaaDoor
open Go.RowKit
set_option maxRecDepth 10000

/-- An empty vote's cells, written out. -/
def vzcells : Array Value := #[.int .i64 0, .int .i64 0, .int .u8 0, .int .u8 0, .int .u8 0, .int .u8 0, .int .u8 0, .int .u8 0, .int .u8 0, .int .u8 0, .int .u8 0, .int .u8 0, .int .u8 0, .int .u8 0, .int .u8 0, .int .u8 0, .int .u8 0, .int .u8 0, .int .u8 0, .int .u8 0, .int .u8 0, .int .u8 0, .int .u8 0, .int .u8 0, .int .u8 0, .int .u8 0, .int .u8 0, .int .u8 0, .int .u8 0, .int .u8 0, .int .u8 0, .int .u8 0, .int .u8 0, .int .u8 0]
theorem vz_lit : (#[.int .i64 0, .int .i64 0, .int .u8 0, .int .u8 0, .int .u8 0, .int .u8 0, .int .u8 0, .int .u8 0, .int .u8 0, .int .u8 0, .int .u8 0, .int .u8 0, .int .u8 0, .int .u8 0, .int .u8 0, .int .u8 0, .int .u8 0, .int .u8 0, .int .u8 0, .int .u8 0, .int .u8 0, .int .u8 0, .int .u8 0, .int .u8 0, .int .u8 0, .int .u8 0, .int .u8 0, .int .u8 0, .int .u8 0, .int .u8 0, .int .u8 0, .int .u8 0, .int .u8 0, .int .u8 0] : Array Value) = vzcells := rfl
theorem vz_blk (w : World) : Blk (w.alloc (.cells vzcells 51)) w.heap.size 51 vzero := by
  have := Blk.new w 51 vzcells
  rwa [show vzcells.toList = vzero from rfl] at this
theorem vzero_length : vzero.length = 34 := by decide
/-- A vote into a block that holds an empty one. -/
theorem wpList_store_vote {ops : Array Oper} {rest : List Oper} {o : Oper} {a : Act} {w : World} {Q : Exit → Act → World → Prop} (x y : Operand) (ho : o.op = .store 51 x y) (hgd : o.guard = none)
    (g : Nat) (v : Nat × Int × List UInt8) (hx : a.eval x = .pointer (some ⟨g, 0, none⟩)) (hy : a.eval y = .agg (vcell v).toArray) (hg : Blk w g 51 vzero) (hv : v.2.2.length = 32)
    (h : wpList Tryd.prog ops Q rest (a.put o.dst undef) (w.setRow g (vcell v).toArray)) : wpList Tryd.prog ops Q (o :: rest) a w := by
  refine wpList_store_part hgd 51 x y ho g 0 (vcell v) hx hy 51 vzero hg (vote_size hv) (by rw [vcell_length hv, vzero_length]; omega) (vcell_one _) ?_
  rw [splice_all _ _ (by rw [vcell_length hv, vzero_length])]
  exact h

theorem placeFrom_in {who : Nat} : ∀ (K : List Nat) (i : Nat), who ∈ K → 0 ≤ placeFrom (who : Int) i K
  | [], _, h => by cases h
  | x :: r, i, h => by
    rw [placeFrom]
    split
    · omega
    · rename_i e
      rcases List.mem_cons.1 h with rfl | h
      · exact absurd rfl e
      · exact placeFrom_in r (i + 1) h
theorem vote_spk {K : List Nat} {M : Msg} (hg : msgGood M = true) {who : Nat} (hk : who ∈ K) (hw : who ≤ 65535) : spk K (voteM M who) = some [who] := by
  rw [spk_two (voteM_good hg hw) rfl, if_pos (show 0 ≤ placeFrom (voteM M who).m 0 K from placeFrom_in K 0 hk)]
  rfl
theorem vote_tag {vs : List (Int × ByteArray)} {K : List Nat} {M : Msg} (hg : msgGood M = true) (h3 : M.k = 3) {who : Nat} (hk : who ∈ K) (hw : who ≤ 65535) : sealT vs K (voteM M who) = tagOne vs M who := by
  rw [sealT_sole (vote_spk hg hk hw) (by simp [voteM]), tagOne, partM_sum h3]
  rfl
theorem vote_votes {K : List Nat} {M : Msg} (hg : msgGood M = true) {who : Nat} (hk : who ∈ K) (hw : who ≤ 65535) : votesM K (voteM M who) = [(who, M.s, M.T)] := by
  rw [votesM, if_neg (by simp [voteM]), vote_spk hg hk hw]
  rfl

/-- A list, turned round. -/
theorem turned_list {α : Type} (l : List α) (d : α) (q : Nat) (hq : q < l.length) : (List.range l.length).map (fun i => l.getD ((i + q) % l.length) d) = l.drop q ++ l.take q := by
  apply List.ext_getElem?
  intro i
  rw [List.getElem?_append, List.length_drop]
  by_cases hi : i < l.length
  · rw [List.getElem?_map, List.getElem?_range hi, Option.map_some, List.getD_eq_getElem?_getD]
    by_cases h : i < l.length - q
    · rw [if_pos h, List.getElem?_drop, Nat.mod_eq_of_lt (by omega), List.getElem?_eq_getElem (show i + q < l.length by omega), List.getElem?_eq_getElem (show q + i < l.length by omega)]
      simp [Nat.add_comm]
    · rw [if_neg h, List.getElem?_take, if_pos (by omega), show (i + q) % l.length = i - (l.length - q) by
        rw [show i + q = (i - (l.length - q)) + l.length by omega, Nat.add_mod_right, Nat.mod_eq_of_lt (by omega)], List.getElem?_eq_getElem (show i - (l.length - q) < l.length by omega)]
      rfl
  · rw [List.getElem?_eq_none (by simp; omega), if_neg (by omega), List.getElem?_take]
    split
    · omega
    · rfl
theorem joined_turn (ts : List (List UInt8)) (i : Nat) : joined (ts.drop i ++ ts.take i) = joined ts := tagF_ext fun p _ => by
  have h : col ts p = col (ts.take i) p ^^^ col (ts.drop i) p := by rw [← col_append, List.take_append_drop]
  rw [col_append, h, UInt8.xor_comm]
end Go.Proofs.YtnbdpalbompjlaaDoor
