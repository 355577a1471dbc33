/-
  The texts Base, one behind the other.
-/
import Derived.Deep.AppendSrc
import Derived.Laws.IdiomStrings
import Derived.Below
import Derived.Laws.BytesArg
import Derived.Deep.Upon
import Derived.Deep.MidRow
import Derived.RegionTactic
/-
  Slices that a call has made itself: 'Held w base v xs' says that the slice v holds the one-cell values xs, in a block from base on, with room that may be written; what append, []byte(s) and string(b) make of such a slice. It holds of every program.
-/
namespace Go.Proofs.Ytoinigcfcjllcaa
open Go.RowKit
set_option maxRecDepth 10000

structure HeldAt (w : World) (base : Nat) (n cap g off : Nat) (ao : Option Addr) (xs : List Value) : Prop where
  len : n = xs.length
  le : n ≤ cap
  max : cap ≤ maxLen
  addr : 0 < cap → ao = some ⟨g, off, none⟩
  own : ∀ a, ao = some a → base ≤ a.block
  lt : 0 < cap → g < w.heap.size
  cells : ∀ j u, xs[j]? = some u → w.cell? ⟨g, off + j, none⟩ = some u
  room : ∀ j, j < cap → (w.cell? ⟨g, off + j, none⟩).isSome = true
  free : ∀ j, j < cap → w.frozen? ⟨g, off + j, none⟩ = false

def Held (w : World) (base : Nat) (v : Value) (xs : List Value) : Prop := ∃ n cap g off ao, v = .slice ao n cap ∧ HeldAt w base n cap g off ao xs

theorem Held.nil (w : World) (base : Nat) : Held w base (.slice none 0 0) [] :=
  ⟨0, 0, 0, 0, none, rfl, rfl, Nat.le_refl _, Nat.zero_le _, fun h => absurd h (by omega), fun a h => by simp at h, fun h => absurd h (by omega), fun j u h => by simp at h, fun j h => absurd h (by omega), fun j h => absurd h (by omega)⟩

theorem Held.mono {w : World} {base base' : Nat} {v : Value} {xs : List Value} (h : Held w base v xs) (hb : base' ≤ base) : Held w base' v xs := by
  obtain ⟨n, cap, g, off, ao, rfl, h⟩ := h
  exact ⟨n, cap, g, off, ao, rfl, h.len, h.le, h.max, h.addr, fun a ha => Nat.le_trans hb (h.own a ha), h.lt, h.cells, h.room, h.free⟩

theorem HeldAt.carry {w w' : World} {base n cap g off : Nat} {ao : Option Addr} {xs : List Value} (h : HeldAt w base n cap g off ao xs) (hs : w.heap.size ≤ w'.heap.size)
    (hb : 0 < cap → w'.heap[g]? = w.heap[g]?) : HeldAt w' base n cap g off ao xs :=
  ⟨h.len, h.le, h.max, h.addr, h.own, fun hc => Nat.lt_of_lt_of_le (h.lt hc) hs,
    fun j u hj => by
      have hjl : j < xs.length := (List.getElem?_eq_some_iff.1 hj).1
      have hc : 0 < cap := by have := h.len; have := h.le; omega
      exact (World.cell?_of_block (a := ⟨g, off + j, none⟩) (hb hc)).trans (h.cells j u hj),
    fun j hj => by rw [World.cell?_of_block (a := ⟨g, off + j, none⟩) (hb (by omega))]; exact h.room j hj,
    fun j hj => by rw [World.frozen?_of_block (a := ⟨g, off + j, none⟩) (hb (by omega))]; exact h.free j hj⟩

theorem Held.grown {w w' : World} {base : Nat} {v : Value} {xs : List Value} {row : Option Nat} (h : Held w base v xs) (hg : w.grownBy w' row) (hne : ∀ k, v.ownBlock = some k → row ≠ some k) : Held w' base v xs := by
  obtain ⟨n, cap, g, off, ao, rfl, h⟩ := h
  refine ⟨n, cap, g, off, ao, rfl, h.carry hg.size fun hc => ?_⟩
  refine hg.block g (h.lt hc) fun e => ?_
  exact hne g (by rw [h.addr hc]; rfl) e.symm

theorem Held.below {w w' : World} {base : Nat} {v : Value} {xs : List Value} (h : Held w base v xs) (hb : Below w.heap.size w w') : Held w' base v xs := by
  obtain ⟨n, cap, g, off, ao, rfl, h⟩ := h
  exact ⟨n, cap, g, off, ao, rfl, h.carry hb.size fun hc => hb.block g (h.lt hc)⟩

theorem Held.alloc {w : World} {base : Nat} {v : Value} {xs : List Value} (h : Held w base v xs) (o : Obj) : Held (w.alloc o) base v xs :=
  h.below ((Below.refl _ _).alloc (Nat.le_refl _) o)

theorem Held.drew {w : World} {base : Nat} {v : Value} {xs : List Value} (h : Held w base v xs) : Held w.drew base v xs :=
  h.below (Below.refl _ _).drew

/-- What one or more appends have made of v: its own block alone has turned, and it lies there still or in a new one. -/
structure Grew (w : World) (v : Value) (w' : World) (v' : Value) : Prop where
  grown : w.grownBy w' v.ownBlock
  own : v'.ownBlock = v.ownBlock ∨ ∃ k, v'.ownBlock = some k ∧ w.heap.size ≤ k

theorem Grew.refl (w : World) (v : Value) : Grew w v w v := ⟨⟨rfl, rfl, rfl, Nat.le_refl _, fun _ _ _ => rfl⟩, .inl rfl⟩

theorem Grew.trans {w w1 w2 : World} {v v1 v2 : Value} (a : Grew w v w1 v1) (b : Grew w1 v1 w2 v2) : Grew w v w2 v2 := by
  refine ⟨⟨b.grown.os.trans a.grown.os, b.grown.tape.trans a.grown.tape, b.grown.output.trans a.grown.output, Nat.le_trans a.grown.size b.grown.size, fun k hk hne => ?_⟩, ?_⟩
  · refine (b.grown.block k (Nat.lt_of_lt_of_le hk a.grown.size) fun e => ?_).trans (a.grown.block k hk hne)
    rcases a.own with h | ⟨j, h, hj⟩
    · exact hne (by rw [e, h])
    · rw [h] at e; cases e; omega
  · rcases b.own with h | ⟨j, h, hj⟩
    · rcases a.own with h' | ⟨j', h', hj'⟩
      · exact .inl (h.trans h')
      · exact .inr ⟨j', h.trans h', hj'⟩
    · exact .inr ⟨j, h, Nat.le_trans a.grown.size hj⟩

theorem Grew.before {w w1 w2 : World} {v v2 : Value} (b : Grew w1 v w2 v2) (a : Below w.heap.size w w1) : Grew w v w2 v2 := by
  refine ⟨⟨b.grown.os.trans a.os, b.grown.tape.trans a.tape, b.grown.output.trans a.output, Nat.le_trans a.size b.grown.size, fun k hk hne => ?_⟩, ?_⟩
  · exact (b.grown.block k (Nat.lt_of_lt_of_le hk a.size) hne).trans (a.block k hk)
  · rcases b.own with h | ⟨j, h, hj⟩
    · exact .inl h
    · exact .inr ⟨j, h, Nat.le_trans a.size hj⟩

theorem Grew.after {w w1 w2 : World} {v v1 : Value} (a : Grew w v w1 v1) (b : Below w1.heap.size w1 w2) : Grew w v w2 v1 :=
  ⟨⟨b.os.trans a.grown.os, b.tape.trans a.grown.tape, b.output.trans a.grown.output, Nat.le_trans a.grown.size b.size, fun k hk hne => (b.block k (Nat.lt_of_lt_of_le hk a.grown.size)).trans (a.grown.block k hk hne)⟩, a.own⟩

theorem Held.own {w : World} {base : Nat} {v : Value} {xs : List Value} (h : Held w base v xs) : ∀ k, v.ownBlock = some k → base ≤ k := by
  obtain ⟨n, cap, g, off, ao, rfl, h⟩ := h
  intro k hk
  cases ao with
  | none => simp [Value.ownBlock] at hk
  | some a =>
    simp [Value.ownBlock] at hk
    subst hk
    exact h.own a rfl

/-- What stands below 'base' is as it was. -/
theorem Grew.below {w w' : World} {base : Nat} {v v' : Value} {xs : List Value} (g : Grew w v w' v') (h : Held w base v xs) (hb : base ≤ w.heap.size) : Below base w w' :=
  (Below.refl _ _).grown g.grown hb h.own

theorem setCells_tape (b : Nat) : ∀ (vs : List Value) (o : Nat) (w : World), (w.setCells b o vs).tape = w.tape
  | [], _, _ => rfl
  | v :: r, o, w => by rw [World.setCells, setCells_tape b r]; rfl

theorem setCells_size (b : Nat) : ∀ (vs : List Value) (o : Nat) (w : World), (w.setCells b o vs).heap.size = w.heap.size
  | [], _, _ => rfl
  | v :: r, o, w => by rw [World.setCells, setCells_size b r]; simp [World.setCell]

theorem setCells_grown (w : World) (g o : Nat) (vs : List Value) : w.grownBy (w.setCells g o vs) (some g) :=
  ⟨World.os_setCells w g o vs, setCells_tape g vs o w, World.output_setCells w g o vs, Nat.le_of_eq (setCells_size g vs o w).symm, fun k hk hne => World.heap_setCells_other w g o vs hk fun e => hne (by rw [e])⟩

/-- append, whatever is appended. -/
theorem Held.append {P : Program} {w : World} {base : Nat} {v : Value} {xs : List Value} (h : Held w base v xs) (t tx ty e : TypeId) (i : TypeInfo) (z : Value) (bytes : Nat)
    (ht : P.underlying t = some (.slice e)) (hi : P.info? e = some i) (hz : i.zero = some z) (hsize : i.size = 1) (hby : i.bytes = bytes) (hzs : z.cells.size = 1)
    (x : Value) (n : Nat) (news : List Value) (hs : Src P 1 tx x n news w) (hfit : xs.length + n ≤ maxLen) (hbytes : (xs.length + n) * bytes ≤ 140737488355328) (hbase : base ≤ w.heap.size) :
    ∃ v' w', (Builtin.append_ #[t, tx] ty #[v, x]).run P w = .ok v' w' ∧ Held w' base v' (xs ++ news) ∧ Grew w v w' v' := by
  obtain ⟨len, cap, g, off, ao, rfl, h⟩ := h
  have hlen := h.len
  have hle := h.le
  have hmax := h.max
  have hn : news.length = n := by simpa using hs.newsLen
  by_cases hroom : len + n ≤ cap
  · by_cases hc : 0 < cap
    · have hrun := run_append_room_src (P := P) w t tx ty e i ht hi g off len cap x n news (by rw [hsize]; exact hs) hroom
        (fun j hj => by rw [hsize, Nat.mul_one, Nat.add_assoc]; exact h.room _ (by omega)) (fun j hj => by rw [hsize, Nat.mul_one, Nat.add_assoc]; exact h.free _ (by omega))
      rw [hsize, Nat.mul_one] at hrun
      have hao := h.addr hc
      subst hao
      refine ⟨_, _, hrun, ⟨len + n, cap, g, off, _, rfl, by simp; omega, hroom, hmax, fun _ => rfl, h.own, fun hc => by rw [setCells_size]; exact h.lt hc, fun j u hj => ?_, fun j hj => ?_, fun j hj => ?_⟩, setCells_grown w g _ news, .inl rfl⟩
      · by_cases hjl : j < xs.length
        · rw [List.getElem?_append_left hjl] at hj
          rw [World.cell?_setCells_out g news _ w _ fun _ _ => .inl (by simp; omega)]
          exact h.cells j u hj
        · rw [List.getElem?_append_right (by omega)] at hj
          have hjn : j - xs.length < news.length := (List.getElem?_eq_some_iff.1 hj).1
          have hin := World.cell?_setCells_in g news (off + len) w (fun j' hj' => by rw [Nat.add_assoc]; exact h.room _ (by omega)) (j - xs.length) hjn
          rw [show off + len + (j - xs.length) = off + j by omega] at hin
          rw [hin, ← hj, List.getElem?_eq_getElem hjn]
      · exact World.isSome_setCells g news _ w _ (h.room j hj)
      · rw [World.frozen?_setCells]
        exact h.free j hj
    · obtain rfl : n = 0 := by omega
      obtain rfl : news = [] := List.eq_nil_of_length_eq_zero hn
      have hrun := run_append_nothing (P := P) w t tx ty e i ht hi ao len cap hle x (by rw [hsize]; exact hs)
      exact ⟨_, _, hrun, by rw [List.append_nil]; exact ⟨len, cap, g, off, ao, rfl, h⟩, Grew.refl _ _⟩
  · have hold : (Builtin.firstCells i.size len (.slice ao len cap)).run P w.drew = .ok xs.toArray w.drew := by
      rw [hsize]
      rcases Nat.eq_zero_or_pos cap with h0 | h0
      · obtain rfl : len = 0 := by omega
        obtain rfl : xs = [] := List.eq_nil_of_length_eq_zero hlen.symm
        cases ao with
        | none => exact run_firstCells_none w.drew 1 0 0 cap
        | some a => exact run_firstCells_some w.drew 1 0 a 0 cap [] (by simp) (fun j u hj => by simp at hj)
      · rw [h.addr h0]
        exact run_firstCells_some w.drew 1 len ⟨g, off, none⟩ len cap xs (by omega) (fun j u hj => by
          rw [Addr.add_lit]
          exact h.cells j u hj)
    have h63 : ((len + n : Nat) : Int) ≤ 9223372036854775807 := by unfold maxLen at hfit; omega
    have hrun := run_append_grow_src (P := P) w t tx ty e i z ht hi hz ao len cap xs hold x n news (by rw [hsize]; exact hs) (by omega) h63
      (growslice_fits (by omega) (by rw [hby, hlen]; exact hbytes))
    have hge := grownCap_ge w (len + n) cap e
    have hcm : grownCap w (len + n) cap e ≤ maxLen := grownCap_le_maxLen w (len + n) cap e (by rw [hlen]; exact hfit)
    generalize hC : (xs ++ news).toArray ++ Builtin.zeroCells z.cells (grownCap w (len + n) cap e - (len + n)) = C at hrun
    have hCs : C.size = grownCap w (len + n) cap e := by
      rw [← hC]
      simp only [Array.size_append, List.size_toArray, size_zeroCells, hzs, List.length_append]
      omega
    have hcell : ∀ j, (w.drew.alloc (.cells C e)).cell? ⟨w.heap.size, 0 + j, none⟩ = C[j]? := fun j => by
      rw [Nat.zero_add]; exact World.cell?_alloc_mark w.drew C e (0, 0) j
    refine ⟨_, _, hrun, ⟨len + n, _, w.heap.size, 0, _, rfl, by simp; omega, hge, hcm, fun _ => rfl, fun a ha => by cases ha; exact hbase, fun _ => by simp, fun j u hj => ?_, fun j hj => ?_, fun j hj => ?_⟩,
      ⟨rfl, rfl, rfl, by simp, fun k hk _ => by first | exact heap_alloc_old w.drew _ k hk | exact heap_alloc_old w.drew _ hk⟩, .inr ⟨w.heap.size, rfl, Nat.le_refl _⟩⟩
    · rw [hcell, ← hC]
      have hjl : j < (xs ++ news).length := (List.getElem?_eq_some_iff.1 hj).1
      rw [Array.getElem?_append_left (by simpa using hjl)]
      simpa using hj
    · rw [hcell, Array.getElem?_eq_getElem (by omega)]
      rfl
    · rw [Nat.zero_add]
      have := World.frozen?_alloc_mark w.drew C e 0 0 j
      simpa using this

/-- .. for the walk, at one operation: 'go_wp2_with (at_builtin; refine wpList_append_held ..)'. -/
theorem wpList_append_held {P : Program} {w : World} {ops : Array Oper} {rest : List Oper} {o : Oper} {a : Act} {Q : Exit → Act → World → Prop} (hgd : o.guard = none) (s x : Operand) (t tx : TypeId)
    (ho : o.op = .call { callee := .builtin .append, args := #[s, x], argTypes := #[t, tx] })
    {base : Nat} {v : Value} {xs : List Value} (hs : a.eval s = v) (h : Held w base v xs) (e : TypeId) (i : TypeInfo) (z : Value) (bytes : Nat)
    (ht : P.underlying t = some (.slice e)) (hi : P.info? e = some i) (hz : i.zero = some z) (hsize : i.size = 1) (hby : i.bytes = bytes) (hzs : z.cells.size = 1)
    (u : Value) (hx : a.eval x = u) (n : Nat) (news : List Value) (hsrc : Src P 1 tx u n news w) (hfit : xs.length + n ≤ maxLen) (hbytes : (xs.length + n) * bytes ≤ 140737488355328) (hbase : base ≤ w.heap.size)
    (hK : ∀ v' w', Held w' base v' (xs ++ news) → Grew w v w' v' → wpList P ops Q rest (a.put o.dst v') w') : wpList P ops Q (o :: rest) a w := by
  refine wpList_plain hgd fun K hK' => ?_
  obtain ⟨v', w', hrun, r1, r2⟩ := h.append (P := P) t tx o.type e i z bytes ht hi hz hsize hby hzs u n news hsrc hfit hbytes hbase
  unfold Oper.wp
  simp [execOp, ho, resolve, invoke, builtin, hs, hx, hrun, Result.andThen]
  exact hK' _ _ (hK v' w' r1 r2)

/-- .. for one step of a region that draws its order. -/
theorem step_append_held {P : Program} {w : World} {ops : Array Oper} {o : Oper} {a : Act} {K : Act → World → Prop} {Q : Exit → Act → World → Prop} {E : Prop} (hgd : o.guard = none) (s x : Operand) (t tx : TypeId)
    (ho : o.op = .call { callee := .builtin .append, args := #[s, x], argTypes := #[t, tx] })
    {base : Nat} {v : Value} {xs : List Value} (hs : a.eval s = v) (h : Held w base v xs) (e : TypeId) (i : TypeInfo) (z : Value) (bytes : Nat)
    (ht : P.underlying t = some (.slice e)) (hi : P.info? e = some i) (hz : i.zero = some z) (hsize : i.size = 1) (hby : i.bytes = bytes) (hzs : z.cells.size = 1)
    (u : Value) (hx : a.eval x = u) (n : Nat) (news : List Value) (hsrc : Src P 1 tx u n news w) (hfit : xs.length + n ≤ maxLen) (hbytes : (xs.length + n) * bytes ≤ 140737488355328) (hbase : base ≤ w.heap.size)
    (hK : ∀ v' w', Held w' base v' (xs ++ news) → Grew w v w' v' → K (a.put o.dst v') w') : if Region.wanted o (yielded ops a.tmps) = true then Oper.wp P o a w K Q else E := by
  have hw : Region.wanted o (yielded ops a.tmps) = true := by simp [Region.wanted, hgd]
  rw [if_pos hw]
  obtain ⟨v', w', hrun, r1, r2⟩ := h.append (P := P) t tx o.type e i z bytes ht hi hz hsize hby hzs u n news hsrc hfit hbytes hbase
  unfold Oper.wp
  simp [execOp, ho, resolve, invoke, builtin, hs, hx, hrun, Result.andThen]
  exact hK v' w' r1 r2

/-- Bytes as cells. -/
def bv (l : List UInt8) : List Value := l.map fun b => Value.int .u8 b.toNat

theorem bv_length (l : List UInt8) : (bv l).length = l.length := by simp [bv]
theorem bv_append (l r : List UInt8) : bv (l ++ r) = bv l ++ bv r := by simp [bv]
theorem bv_at {l : List UInt8} {j : Nat} (h : j < l.length) : (bv l)[j]? = some (.int .u8 (l[j].toNat : Int)) := by simp [bv, h]

/-- '[]byte(s)'. -/
theorem held_bytes {P : Program} (w : World) (src dst e : TypeId) (s : ByteArray) (hs : P.underlying src = some .string) (hd : P.underlying dst = some (.slice e)) (he : P.underlying e = some (.int .u8)) (hm : s.size ≤ maxLen) :
    ∃ v w', (convert src dst (.string s)).run P w = .ok v w' ∧ Held w' w.heap.size v (bv s.data.toList) ∧ Below w.heap.size w w' := by
  have hrun := run_bytes_of_string (P := P) w src dst e s hs hd he
  have hge := grownCap_ge w s.size 0 e
  have hcm := grownCap_le_maxLen w s.size 0 e hm
  have hsz : s.data.toList.length = s.size := Array.length_toList
  have hds : s.data.size = s.size := rfl
  have hC : (bytesRow s (grownCap w s.size 0 e)).size = grownCap w s.size 0 e := by
    unfold bytesRow
    rw [Array.size_append, Array.size_map, Array.size_replicate, hds]
    omega
  refine ⟨_, _, hrun, ⟨s.size, _, w.heap.size, 0, _, rfl, by rw [bv_length, hsz], hge, hcm, fun _ => rfl, fun a ha => by cases ha; exact Nat.le_refl _, fun _ => by simp, fun j u hj => ?_, fun j hj => ?_, fun j hj => ?_⟩,
    (Below.refl _ _).drew.alloc (Nat.le_refl _) _⟩
  · rw [Nat.zero_add, show w.heap.size = w.drew.heap.size from rfl, World.cell?_alloc_mark w.drew]
    have hjl : j < s.data.toList.length := by
      have := (List.getElem?_eq_some_iff.1 hj).1
      rwa [bv_length] at this
    rw [bytesRow_at s _ j (by simpa using hjl), ← hj, bv_at hjl]
    simp
  · rw [Nat.zero_add, show w.heap.size = w.drew.heap.size from rfl, World.cell?_alloc_mark w.drew, Array.getElem?_eq_getElem (by omega)]
    rfl
  · rw [Nat.zero_add, show w.heap.size = w.drew.heap.size from rfl, World.frozen?_alloc_mark w.drew, hC]
    simp
    omega

/-- 'string(b)'. -/
theorem Held.string {P : Program} {w : World} {base : Nat} {v : Value} {l : List UInt8} (h : Held w base v (bv l)) (src dst e : TypeId) (hs : P.underlying src = some (.slice e)) (he : P.underlying e = some (.int .u8)) (hd : P.underlying dst = some .string) :
    (convert src dst v).run P w = .ok (.string ⟨l.toArray⟩) w := by
  obtain ⟨n, cap, g, off, ao, rfl, h⟩ := h
  have hlen := h.len
  rw [bv_length] at hlen
  subst hlen
  have hle := h.le
  cases ao with
  | none =>
    rcases Nat.eq_zero_or_pos cap with h0 | h0
    · obtain rfl : l = [] := List.eq_nil_of_length_eq_zero (by omega)
      exact run_convert_bytes_nil w src e hs he _ _ dst hd
    · exact absurd (h.addr h0) (by simp)
  | some a =>
    refine run_convert_bytes_back w src dst e a cap l hs he hd fun j hj => ?_
    have h0 : 0 < cap := by omega
    have ha := h.addr h0
    cases ha
    rw [Addr.add_lit]
    exact h.cells j _ (bv_at hj)

/-- The slice's shape and length. -/
theorem Held.shape {w : World} {base : Nat} {v : Value} {xs : List Value} (h : Held w base v xs) : ∃ ao cap, v = .slice ao xs.length cap := by
  obtain ⟨n, cap, g, off, ao, rfl, h⟩ := h
  exact ⟨ao, cap, by rw [h.len]⟩

end Go.Proofs.Ytoinigcfcjllcaa
