/-
  Slices whose elements take k cells each: 'Wide k w base v xs' says that the slice v, made by the call itself, holds the cells xs (k to an element), in a block from base on, with room that may be written; 'Lies' says of any slice, made or handed in, which cells it reads. What append makes of them. It holds of every program.
-/
import Derived.Test.YtmchjmcdlapegaaBase
import Derived.Test.YtmchjmcdlapegaaFreeLaws
namespace Go.Proofs.Ytmchjmcdlapegaa
open Go.RowKit
set_option maxRecDepth 10000

structure WideAt (k : Nat) (w : World) (base : Nat) (n cap g off : Nat) (ao : Option Addr) (xs : List Value) : Prop where
  len : xs.length = n * k
  le : n ≤ cap
  max : cap ≤ maxLen
  addr : 0 < cap → ao = some ⟨g, off, none⟩
  own : ∀ a, ao = some a → base ≤ a.block
  lt : 0 < cap → g < w.heap.size
  cells : ∀ j u, xs[j]? = some u → w.cell? ⟨g, off + j, none⟩ = some u
  room : ∀ j, j < cap * k → (w.cell? ⟨g, off + j, none⟩).isSome = true
  free : ∀ j, j < cap * k → w.frozen? ⟨g, off + j, none⟩ = false

def Wide (k : Nat) (w : World) (base : Nat) (v : Value) (xs : List Value) : Prop := ∃ n cap g off ao, v = .slice ao n cap ∧ WideAt k w base n cap g off ao xs

/-- The slice ao reads as these cells, in block b, which is below B. -/
structure Lies (w : World) (B : Nat) (ao : Option Addr) (b off : Nat) (xs : List Value) : Prop where
  addr : 0 < xs.length → ao = some ⟨b, off, none⟩
  lt : 0 < xs.length → b < B
  cells : ∀ j u, xs[j]? = some u → w.cell? ⟨b, off + j, none⟩ = some u

theorem Lies.keep {w w' : World} {B b off : Nat} {ao : Option Addr} {xs : List Value} (h : Lies w B ao b off xs) (hb : Below B w w') : Lies w' B ao b off xs :=
  ⟨h.addr, h.lt, fun j x hj => by
    have hl : 0 < xs.length := by have := (List.getElem?_eq_some_iff.1 hj).1; omega
    exact (hb.cell (p := ⟨b, off + j, none⟩) (h.lt hl)).trans (h.cells j x hj)⟩
theorem Lies.more {w : World} {B B' b off : Nat} {ao : Option Addr} {xs : List Value} (h : Lies w B ao b off xs) (hB : B ≤ B') : Lies w B' ao b off xs :=
  ⟨h.addr, fun h0 => Nat.lt_of_lt_of_le (h.lt h0) hB, h.cells⟩
theorem Lies.below {w w' : World} {b off : Nat} {ao : Option Addr} {xs : List Value} (h : Lies w w.heap.size ao b off xs) (hb : Below w.heap.size w w') : Lies w' w'.heap.size ao b off xs :=
  (h.keep hb).more hb.size
theorem Lies.src {P : Program} {w : World} {B b off k n : Nat} {ao : Option Addr} {xs : List Value} (h : Lies w B ao b off xs) (cap : Nat) (t e : TypeId) (ht : P.underlying t = some (.slice e)) (hn : xs.length = n * k) (h1 : ∀ u ∈ xs, u.oneCell' = true) (hk : 0 < k) : Src P k t (.slice ao n cap) n xs w := by
  by_cases h0 : xs.length = 0
  · obtain rfl : xs = [] := List.eq_nil_of_length_eq_zero h0
    obtain rfl : n = 0 := by
      rcases Nat.eq_zero_or_pos n with h | h
      · exact h
      · have := Nat.mul_pos h hk; simp at hn; omega
    cases ao with
    | none => exact Src.ofNil w ht cap
    | some a => exact Src.ofSlice w ht a 0 cap [] (by simp) (fun j u hj => by simp at hj) (fun u hu => by simp at hu)
  · have ha := h.addr (by omega)
    subst ha
    exact Src.ofSlice w ht ⟨b, off, none⟩ _ cap xs hn (fun j u hj => by rw [Addr.add_lit]; exact h.cells j u hj) h1
/-- A part of it, behind the first j cells. -/
theorem Lies.drop {w : World} {B b off : Nat} {ao : Option Addr} {xs : List Value} (h : Lies w B ao b off xs) (j : Nat) (ao' : Option Addr) (ha : 0 < (xs.drop j).length → ao' = some ⟨b, off + j, none⟩) : Lies w B ao' b (off + j) (xs.drop j) :=
  ⟨ha, fun h0 => h.lt (by rw [List.length_drop] at h0; omega), fun i u hi => by rw [List.getElem?_drop] at hi; rw [Nat.add_assoc]; exact h.cells _ u hi⟩
theorem Lies.take {w : World} {B b off : Nat} {ao : Option Addr} {xs : List Value} (h : Lies w B ao b off xs) (j : Nat) : Lies w B ao b off (xs.take j) :=
  ⟨fun h0 => h.addr (by rw [List.length_take] at h0; omega), fun h0 => h.lt (by rw [List.length_take] at h0; omega), fun i u hi => by
    rw [List.getElem?_take] at hi
    split at hi
    · exact h.cells i u hi
    · cases hi⟩

theorem Wide.lies {k : Nat} {w : World} {base : Nat} {v : Value} {xs : List Value} (h : Wide k w base v xs) : ∃ ao n cap b off, v = .slice ao n cap ∧ xs.length = n * k ∧ Lies w w.heap.size ao b off xs := by
  obtain ⟨n, cap, g, off, ao, rfl, h⟩ := h
  have hp : 0 < xs.length → 0 < cap := fun h0 => by
    have h1 := h.len
    have h2 := h.le
    rcases Nat.eq_zero_or_pos n with hn | hn
    · rw [hn, Nat.zero_mul] at h1; omega
    · omega
  exact ⟨ao, n, cap, g, off, rfl, h.len, fun h0 => h.addr (hp h0), fun h0 => h.lt (hp h0), h.cells⟩

theorem WideAt.carry {k : Nat} {w w' : World} {base n cap g off : Nat} {ao : Option Addr} {xs : List Value} (h : WideAt k w base n cap g off ao xs) (hs : w.heap.size ≤ w'.heap.size)
    (hb : 0 < cap → w'.heap[g]? = w.heap[g]?) : WideAt k w' base n cap g off ao xs :=
  ⟨h.len, h.le, h.max, h.addr, h.own, fun hc => Nat.lt_of_lt_of_le (h.lt hc) hs,
    fun j u hj => by
      have hjl : j < xs.length := (List.getElem?_eq_some_iff.1 hj).1
      have hc : 0 < cap := by
        have h1 := h.len
        have h2 := h.le
        rcases Nat.eq_zero_or_pos n with hn | hn
        · rw [hn, Nat.zero_mul] at h1; omega
        · omega
      exact (World.cell?_of_block (a := ⟨g, off + j, none⟩) (hb hc)).trans (h.cells j u hj),
    fun j hj => by rw [World.cell?_of_block (a := ⟨g, off + j, none⟩) (hb (Nat.pos_of_ne_zero fun e => by subst e; simp at hj))]; exact h.room j hj,
    fun j hj => by rw [World.frozen?_of_block (a := ⟨g, off + j, none⟩) (hb (Nat.pos_of_ne_zero fun e => by subst e; simp at hj))]; exact h.free j hj⟩

theorem Wide.below {k : Nat} {w w' : World} {base : Nat} {v : Value} {xs : List Value} (h : Wide k w base v xs) (hb : Below w.heap.size w w') : Wide k w' base v xs := by
  obtain ⟨n, cap, g, off, ao, rfl, h⟩ := h
  exact ⟨n, cap, g, off, ao, rfl, h.carry hb.size fun hc => hb.block g (h.lt hc)⟩
theorem Wide.alloc {k : Nat} {w : World} {base : Nat} {v : Value} {xs : List Value} (h : Wide k w base v xs) (o : Obj) : Wide k (w.alloc o) base v xs :=
  h.below ((Below.refl _ _).alloc (Nat.le_refl _) o)
theorem Wide.grown {k : Nat} {w w' : World} {base : Nat} {v : Value} {xs : List Value} {row : Option Nat} (h : Wide k w base v xs) (hg : w.grownBy w' row) (hne : ∀ j, v.ownBlock = some j → row ≠ some j) : Wide k w' base v xs := by
  obtain ⟨n, cap, g, off, ao, rfl, h⟩ := h
  refine ⟨n, cap, g, off, ao, rfl, h.carry hg.size fun hc => ?_⟩
  refine hg.block g (h.lt hc) fun e => ?_
  exact hne g (by rw [h.addr hc]; rfl) e.symm
theorem Wide.own {k : Nat} {w : World} {base : Nat} {v : Value} {xs : List Value} (h : Wide k w base v xs) : ∀ j, v.ownBlock = some j → base ≤ j := by
  obtain ⟨n, cap, g, off, ao, rfl, h⟩ := h
  intro j hj
  cases ao with
  | none => simp [Value.ownBlock] at hj
  | some a =>
    simp [Value.ownBlock] at hj
    subst hj
    exact h.own a rfl
theorem Wide.mono {k : Nat} {w : World} {base base' : Nat} {v : Value} {xs : List Value} (h : Wide k w base v xs) (hb : base' ≤ base) : Wide k w base' v xs := by
  obtain ⟨n, cap, g, off, ao, rfl, h⟩ := h
  exact ⟨n, cap, g, off, ao, rfl, h.len, h.le, h.max, h.addr, fun a ha => Nat.le_trans hb (h.own a ha), h.lt, h.cells, h.room, h.free⟩
/-- What stands below 'base' is as it was. -/
theorem Grew.belowW {k : Nat} {w w' : World} {base : Nat} {v v' : Value} {xs : List Value} (g : Grew w v w' v') (h : Wide k w base v xs) (hb : base ≤ w.heap.size) : Below base w w' :=
  (Below.refl _ _).grown g.grown hb h.own

theorem wide_empty (k : Nat) (w : World) (e : TypeId) (a : Nat) (h : w.heap.size ≤ a) : Wide k (w.alloc (.cells #[] e)) w.heap.size (.slice (some ⟨a, 0, none⟩) 0 0) [] :=
  ⟨0, 0, 0, 0, _, rfl, by simp, Nat.le_refl _, Nat.zero_le _, fun h => absurd h (by omega), fun a' ha => by cases ha; exact h, fun h => absurd h (by omega), fun j u h => by simp at h, fun j h => absurd h (by omega), fun j h => absurd h (by omega)⟩
/-- A slice that was just written out. -/
theorem wide_new (k n : Nat) (w : World) (e : TypeId) (xs : List Value) (hl : xs.length = n * k) (hn : n ≤ maxLen) : Wide k (w.alloc (.cells xs.toArray e)) w.heap.size (.slice (some ⟨w.heap.size, 0, none⟩) n n) xs := by
  have hc : ∀ j, (w.alloc (.cells xs.toArray e)).cell? ⟨w.heap.size, 0 + j, none⟩ = xs[j]? := fun j => by
    rw [Nat.zero_add, World.cell?_alloc_mark w xs.toArray e (0, 0) j]; simp
  refine ⟨n, n, w.heap.size, 0, _, rfl, hl, Nat.le_refl _, hn, fun _ => rfl, fun a ha => by cases ha; exact Nat.le_refl _, fun _ => by simp, fun j u hj => by rw [hc]; exact hj, fun j hj => ?_, fun j hj => ?_⟩
  · rw [hc, List.getElem?_eq_getElem (by omega)]; rfl
  · rw [Nat.zero_add]
    simp [World.frozen?_alloc_mark w xs.toArray e 0 0 j]

/-- append, whatever is appended. Where there is no room at all (the slice is full), nothing that was there turns. -/
theorem Wide.append {P : Program} {k : Nat} {w : World} {base : Nat} {v : Value} {xs : List Value} (h : Wide k w base v xs) (hk : 0 < k) (t tx ty e : TypeId) (i : TypeInfo) (z : Value) (bytes : Nat)
    (ht : P.underlying t = some (.slice e)) (hi : P.info? e = some i) (hz : i.zero = some z) (hsize : i.size = k) (hby : i.bytes = bytes) (hzs : z.cells.size = k)
    (x : Value) (n : Nat) (news : List Value) (hs : Src P k tx x n news w) (hfit : xs.length + n ≤ maxLen) (hbytes : (xs.length + n) * bytes ≤ 140737488355328) (hbase : base ≤ w.heap.size) :
    ∃ v' w', (Builtin.append_ #[t, tx] ty #[v, x]).run P w = .ok v' w' ∧ Wide k w' base v' (xs ++ news) ∧ Grew w v w' v' ∧ ((∃ ao m, v = .slice ao m m) → Below w.heap.size w w') := by
  obtain ⟨len, cap, g, off, ao, rfl, h⟩ := h
  have hlen := h.len
  have hle := h.le
  have hmax := h.max
  have hn : news.length = n * k := by simpa using hs.newsLen
  have hlk : len ≤ xs.length := by rw [hlen]; exact Nat.le_mul_of_pos_right _ hk
  by_cases hroom : len + n ≤ cap
  · by_cases hc : 0 < cap
    · have hrk : (len + n) * k ≤ cap * k := Nat.mul_le_mul_right k hroom
      have hlnk : (len + n) * k = len * k + n * k := Nat.add_mul _ _ _
      have hrun := run_append_room_src (P := P) w t tx ty e i ht hi g off len cap x n news (by rw [hsize]; exact hs) hroom
        (fun j hj => by rw [hsize, Nat.add_assoc]; exact h.room _ (by omega)) (fun j hj => by rw [hsize, Nat.add_assoc]; exact h.free _ (by omega))
      rw [hsize] at hrun
      have hao := h.addr hc
      subst hao
      refine ⟨_, _, hrun, ⟨len + n, cap, g, off, _, rfl, by rw [List.length_append]; omega, hroom, hmax, fun _ => rfl, h.own, fun hc => by rw [setCells_size]; exact h.lt hc, fun j u hj => ?_, fun j hj => ?_, fun j hj => ?_⟩, ⟨setCells_grown w g _ news, .inl rfl⟩, ?_⟩
      · by_cases hjl : j < xs.length
        · rw [List.getElem?_append_left hjl] at hj
          rw [World.cell?_setCells_out g news _ w _ fun _ _ => .inl (by simp; omega)]
          exact h.cells j u hj
        · rw [List.getElem?_append_right (by omega)] at hj
          have hjn : j - xs.length < news.length := (List.getElem?_eq_some_iff.1 hj).1
          have hin := World.cell?_setCells_in g news (off + len * k) w (fun j' hj' => by rw [Nat.add_assoc]; exact h.room _ (by omega)) (j - xs.length) hjn
          rw [show off + len * k + (j - xs.length) = off + j by omega] at hin
          rw [hin, ← hj, List.getElem?_eq_getElem hjn]
      · exact World.isSome_setCells g news _ w _ (h.room j hj)
      · rw [World.frozen?_setCells]
        exact h.free j hj
      · rintro ⟨ao', m, e⟩
        cases e
        obtain rfl : n = 0 := by omega
        obtain rfl : news = [] := List.eq_nil_of_length_eq_zero (by omega)
        exact Below.refl _ _
    · obtain rfl : n = 0 := by omega
      obtain rfl : news = [] := List.eq_nil_of_length_eq_zero (by omega)
      have hrun := run_append_nothing (P := P) w t tx ty e i ht hi ao len cap hle x (by rw [hsize]; exact hs)
      exact ⟨_, _, hrun, by rw [List.append_nil]; exact ⟨len, cap, g, off, ao, rfl, h⟩, Grew.refl _ _, fun _ => Below.refl _ _⟩
  · have hold : (Builtin.firstCells i.size len (.slice ao len cap)).run P w.drew = .ok xs.toArray w.drew := by
      rw [hsize]
      rcases Nat.eq_zero_or_pos cap with h0 | h0
      · obtain rfl : len = 0 := by omega
        obtain rfl : xs = [] := List.eq_nil_of_length_eq_zero (by omega)
        cases ao with
        | none => exact run_firstCells_none w.drew k 0 0 cap
        | some a => exact run_firstCells_some w.drew k 0 a 0 cap [] (by simp) (fun j u hj => by simp at hj)
      · rw [h.addr h0]
        exact run_firstCells_some w.drew k len ⟨g, off, none⟩ len cap xs hlen (fun j u hj => by
          rw [Addr.add_lit]
          exact h.cells j u hj)
    have h63 : ((len + n : Nat) : Int) ≤ 9223372036854775807 := by unfold maxLen at hfit; omega
    have hrun := run_append_grow_src (P := P) w t tx ty e i z ht hi hz ao len cap xs hold x n news (by rw [hsize]; exact hs) (by omega) h63
      (growslice_fits (by omega) (by rw [hby]; exact Nat.le_trans (Nat.mul_le_mul_right _ (by omega)) hbytes))
    have hge := grownCap_ge w (len + n) cap e
    have hcm : grownCap w (len + n) cap e ≤ maxLen := grownCap_le_maxLen w (len + n) cap e (by omega)
    generalize hcp : grownCap w (len + n) cap e = cp at hrun hge hcm
    have hcpk : (len + n) * k ≤ cp * k := Nat.mul_le_mul_right k hge
    have hlnk : (len + n) * k = len * k + n * k := Nat.add_mul _ _ _
    generalize hC : (xs ++ news).toArray ++ Builtin.zeroCells z.cells (cp - (len + n)) = C at hrun
    have hCs : C.size = cp * k := by
      rw [← hC]
      simp only [Array.size_append, List.size_toArray, size_zeroCells, hzs, List.length_append, Nat.sub_mul]
      omega
    have hcell : ∀ j, (w.drew.alloc (.cells C e)).cell? ⟨w.heap.size, 0 + j, none⟩ = C[j]? := fun j => by
      rw [Nat.zero_add]; exact World.cell?_alloc_mark w.drew C e (0, 0) j
    refine ⟨_, _, hrun, ⟨len + n, _, w.heap.size, 0, _, rfl, by rw [List.length_append]; omega, hge, hcm, fun _ => rfl, fun a ha => by cases ha; exact hbase, fun _ => by simp, fun j u hj => ?_, fun j hj => ?_, fun j hj => ?_⟩,
      ⟨⟨rfl, rfl, rfl, by simp, fun k hk _ => heap_alloc_old w.drew _ (h := hk)⟩, .inr ⟨w.heap.size, rfl, Nat.le_refl _⟩⟩, fun _ => (Below.refl _ _).drew.alloc (Nat.le_refl _) _⟩
    · rw [hcell, ← hC]
      have hjl : j < (xs ++ news).length := (List.getElem?_eq_some_iff.1 hj).1
      rw [Array.getElem?_append_left (by simpa using hjl)]
      simpa using hj
    · rw [hcell, Array.getElem?_eq_getElem (by omega)]
      rfl
    · rw [Nat.zero_add]
      have := World.frozen?_alloc_mark w.drew C e 0 0 j
      simpa using this

theorem wpList_append_wide {P : Program} {k : Nat} {w : World} {ops : Array Oper} {rest : List Oper} {o : Oper} {a : Act} {Q : Exit → Act → World → Prop} (hgd : o.guard = none) (s x : Operand) (t tx : TypeId)
    (ho : o.op = .call { callee := .builtin .append, args := #[s, x], argTypes := #[t, tx] })
    {base : Nat} {v : Value} {xs : List Value} (hs : a.eval s = v) (h : Wide k w base v xs) (hk : 0 < k) (e : TypeId) (i : TypeInfo) (z : Value) (bytes : Nat)
    (ht : P.underlying t = some (.slice e)) (hi : P.info? e = some i) (hz : i.zero = some z) (hsize : i.size = k) (hby : i.bytes = bytes) (hzs : z.cells.size = k)
    (u : Value) (hx : a.eval x = u) (n : Nat) (news : List Value) (hsrc : Src P k tx u n news w) (hfit : xs.length + n ≤ maxLen) (hbytes : (xs.length + n) * bytes ≤ 140737488355328) (hbase : base ≤ w.heap.size)
    (hK : ∀ v' w', Wide k w' base v' (xs ++ news) → Grew w v w' v' → wpList P ops Q rest (a.put o.dst v') w') : wpList P ops Q (o :: rest) a w := by
  refine wpList_plain hgd fun K hK' => ?_
  obtain ⟨v', w', hrun, r1, r2, _⟩ := h.append (P := P) hk t tx o.type e i z bytes ht hi hz hsize hby hzs u n news hsrc hfit hbytes hbase
  unfold Oper.wp
  simp [execOp, ho, resolve, invoke, builtin, hs, hx, hrun, Result.andThen]
  exact hK' _ _ (hK v' w' r1 r2)

theorem stepAt_append_wide {P : Program} {k : Nat} {ops : Array Oper} {o : Oper} {a : Act} {w : World} {R : Value → World → Prop} {d : Tmp} (hd : o.dst = some d) (hw : Region.wanted o (yielded ops a.tmps) = true) (hz' : decide (d < a.tmps.size) = true) (s x : Operand) (t tx : TypeId)
    (ho : o.op = .call { callee := .builtin .append, args := #[s, x], argTypes := #[t, tx] })
    {base : Nat} {v : Value} {xs : List Value} (hs : a.eval s = v) (h : Wide k w base v xs) (hk : 0 < k) (e : TypeId) (i : TypeInfo) (z : Value) (bytes : Nat)
    (ht : P.underlying t = some (.slice e)) (hi : P.info? e = some i) (hz : i.zero = some z) (hsize : i.size = k) (hby : i.bytes = bytes) (hzs : z.cells.size = k)
    (u : Value) (hx : a.eval x = u) (n : Nat) (news : List Value) (hsrc : Src P k tx u n news w) (hfit : xs.length + n ≤ maxLen) (hbytes : (xs.length + n) * bytes ≤ 140737488355328) (hbase : base ≤ w.heap.size)
    (hK : ∀ v' w', Wide k w' base v' (xs ++ news) → Grew w v w' v' → ((∃ ao m, v = .slice ao m m) → Below w.heap.size w w') → R v' w') : stepAt P ops o a w R := by
  obtain ⟨v', w', hrun, r1, r2, r3⟩ := h.append (P := P) hk t tx o.type e i z bytes ht hi hz hsize hby hzs u n news hsrc hfit hbytes hbase
  refine stepAt_value hd hw hz' v' w' ?_ (hK v' w' r1 r2 r3)
  simp [execOp, ho, resolve, invoke, builtin, hs, hx, hrun, Result.andThen]
end Go.Proofs.Ytmchjmcdlapegaa
