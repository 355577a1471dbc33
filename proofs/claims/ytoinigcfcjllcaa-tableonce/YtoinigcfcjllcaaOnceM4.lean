/-
  The texts BuildRows, WideKeep, Sls, Slp, one behind the other.
-/
import Derived.Test.YtoinigcfcjllcaaOnceM3
import Derived.Great.BuildSlice
import Derived.Test.YtoinigcfcjllcaaOnceM2
/-
  A slice written out, of elements that take s cells each: its cells are the elements', one behind the other. It holds of every program.
-/
namespace Go.Proofs.Ytoinigcfcjllcaa
open Go Go.RowKit

theorem rows_at {α : Type} {s : Nat} (hs : 0 < s) : ∀ (rows : List (List α)) (k : Nat), (∀ r ∈ rows, r.length = s) → rows.flatten[k]? = (rows[k / s]?).bind (·[k % s]?)
  | [], k, _ => by simp
  | r :: rows, k, h => by
    have hr := h r List.mem_cons_self
    rw [List.flatten_cons]
    by_cases hk : k < s
    · rw [List.getElem?_append_left (by omega), Nat.div_eq_of_lt hk, Nat.mod_eq_of_lt hk]; rfl
    · rw [List.getElem?_append_right (by omega), hr, rows_at hs rows (k - s) (fun x hx => h x (List.mem_cons_of_mem _ hx))]
      have e1 : k / s = (k - s) / s + 1 := by
        rw [← Nat.add_div_right _ hs, Nat.sub_add_cancel (by omega)]
      have e2 : k % s = (k - s) % s := by
        conv => lhs; rw [← Nat.sub_add_cancel (show s ≤ k by omega)]
        rw [Nat.add_mod_right]
      rw [e1, e2, List.getElem?_cons_succ]
theorem rows_length {α : Type} {s : Nat} : ∀ (rows : List (List α)), (∀ r ∈ rows, r.length = s) → rows.flatten.length = rows.length * s
  | [], _ => by simp
  | r :: rows, h => by
    rw [List.flatten_cons, List.length_append, h r List.mem_cons_self, rows_length rows (fun x hx => h x (List.mem_cons_of_mem _ hx)), List.length_cons, Nat.succ_mul, Nat.add_comm]

/-- Elements as values. -/
def aggs (rows : List (List Value)) : List Value := rows.map fun r => Value.agg r.toArray

theorem fill_rows {s : Nat} (hs : 0 < s) (rows : List (List Value)) (hr : ∀ r ∈ rows, r.length = s) (cells : Array Value) (hc : cells.size = rows.length * s) :
    Instr.fill (fun i => some (i * s, s)) cells (((aggs rows).zipIdx 0).map fun x => (x.2, x.1)) = some rows.flatten.toArray := by
  obtain ⟨r, h1, h2, h3⟩ := Great.fill_dense hs (aggs rows) 0 cells (fun v hv => by
    obtain ⟨x, hx, rfl⟩ := List.mem_map.1 hv
    simp [Value.cells, hr x hx]) (by simp [aggs, hc])
  rw [h1]
  congr 1
  apply Array.ext_getElem?
  intro k
  have hf : rows.flatten.toArray[k]? = (rows[k / s]?).bind (·[k % s]?) := by rw [List.getElem?_toArray, rows_at hs rows k hr]
  rw [h3 k, hf]
  have e : (0 + (aggs rows).length) * s = rows.length * s := by simp [aggs]
  rw [e, Nat.zero_mul, Nat.sub_zero]
  by_cases hk : k < rows.length * s
  · rw [if_pos ⟨Nat.zero_le _, hk⟩]
    simp only [aggs, List.getElem?_map]
    cases rows[k / s]? with
    | none => rfl
    | some x => simp [Value.cells]
  · rw [if_neg (by omega), Array.getElem?_eq_none (by omega), List.getElem?_eq_none (by rw [Nat.le_div_iff_mul_le hs]; omega)]
    rfl

theorem run_build_rows {P : Program} (w : World) (t e : TypeId) (len : Nat) (parts : Array (Nat × Value)) (ie : TypeInfo) (z : Value) {s : Nat} (hs : 0 < s) (rows : List (List Value)) (hr : ∀ r ∈ rows, r.length = s)
    (hu : P.underlying t = some (.slice e)) (hie : P.info? e = some ie) (hz : ie.zero = some z) (hsz : ie.size = s) (hlen : len = rows.length) (hpos : 0 < len) (hsmall : len * s ≤ 2 ^ 24)
    (hp : parts.toList = ((aggs rows).zipIdx 0).map fun x => (x.2, x.1)) :
    (Instr.buildSlice t len parts).run P w = .ok (.slice (some ⟨w.heap.size, 0, none⟩) len len) (w.alloc (.cells rows.flatten.toArray e)) := by
  have hls : 0 < len * s := Nat.mul_pos hpos hs
  refine run_buildSlice w t e len parts _ ie z hu hie hz (by rw [hsz]; omega) (by rw [hsz]; omega) ?_
  rw [hp, hsz]
  exact fill_rows hs rows hr _ (by simp [hlen])

theorem stepAt_build_rows {P : Program} {ops : Array Oper} {o : Oper} {a : Act} {w : World} {R : Value → World → Prop} {d : Tmp} (hd : o.dst = some d) (hw : Region.wanted o (yielded ops a.tmps) = true) (hz' : decide (d < a.tmps.size) = true) (t e : TypeId) (len : Nat) (parts : Array (Nat × Operand)) (ho : o.op = .buildSlice t len parts)
    (ie : TypeInfo) (z : Value) {s : Nat} (hs : 0 < s) (rows : List (List Value)) (hr : ∀ r ∈ rows, r.length = s)
    (hu : P.underlying t = some (.slice e)) (hie : P.info? e = some ie) (hz : ie.zero = some z) (hsz : ie.size = s) (hlen : len = rows.length) (hpos : 0 < len) (hsmall : len * s ≤ 2 ^ 24)
    (hp : (parts.toList.map fun x => (x.1, a.eval x.2)) = ((aggs rows).zipIdx 0).map fun x => (x.2, x.1))
    (h : R (.slice (some ⟨w.heap.size, 0, none⟩) len len) (w.alloc (.cells rows.flatten.toArray e))) : stepAt P ops o a w R := by
  refine stepAt_value hd hw hz' _ _ ?_ h
  unfold execOp
  simp only [ho, Sem.run_bind, run_build_rows w t e len _ ie z hs rows hr hu hie hz hsz hlen hpos hsmall (show (parts.map fun (i, x) => (i, a.eval x)).toList = _ by rw [Array.toList_map]; exact hp), Result.andThen_ok]
  rfl
end Go.Proofs.Ytoinigcfcjllcaa

/-
  As Wide's append, but it says of the old slice that it still reads what it read: so an append to a slice that lies in a field may come up in any order with what reads that field. It holds of every program.
-/
namespace Go.Proofs.Ytoinigcfcjllcaa
open Go.RowKit
set_option maxRecDepth 10000

/-- append, whatever is appended. Where there is no room at all (the slice is full), nothing that was there turns. -/
theorem Wide.append2 {P : Program} {k : Nat} {w : World} {base : Nat} {v : Value} {xs : List Value} (h : Wide k w base v xs) (hk : 0 < k) (t tx ty e : TypeId) (i : TypeInfo) (z : Value) (bytes : Nat)
    (ht : P.underlying t = some (.slice e)) (hi : P.info? e = some i) (hz : i.zero = some z) (hsize : i.size = k) (hby : i.bytes = bytes) (hzs : z.cells.size = k)
    (x : Value) (n : Nat) (news : List Value) (hs : Src P k tx x n news w) (hfit : xs.length + n ≤ maxLen) (hbytes : (xs.length + n) * bytes ≤ 140737488355328) (hbase : base ≤ w.heap.size) :
    ∃ v' w', (Builtin.append_ #[t, tx] ty #[v, x]).run P w = .ok v' w' ∧ Wide k w' base v' (xs ++ news) ∧ Grew w v w' v' ∧ Wide k w' base v xs := by
  obtain ⟨len, cap, g, off, ao, rfl, h⟩ := h
  have hlen := h.len
  have hle := h.le
  have hmax := h.max
  have hn : news.length = n * k := by simpa using hs.newsLen
  have hlk : len ≤ xs.length := by rw [hlen]; exact Nat.le_mul_of_pos_right _ hk
  by_cases hroom : len + n ≤ cap
  · by_cases hc : 0 < cap
    · have hrk : (len + n) * k ≤ cap * k := Nat.mul_le_mul_right k hroom
      have hlnk : (len + n) * k = len * k + n * k := Nat.add_mul _ _ _
      have hrun := run_append_room_src (P := P) w t tx ty e i ht hi g off len cap x n news (by rw [hsize]; exact hs) hroom
        (fun j hj => by rw [hsize, Nat.add_assoc]; exact h.room _ (by omega)) (fun j hj => by rw [hsize, Nat.add_assoc]; exact h.free _ (by omega))
      rw [hsize] at hrun
      have hao := h.addr hc
      subst hao
      refine ⟨_, _, hrun, ⟨len + n, cap, g, off, _, rfl, by rw [List.length_append]; omega, hroom, hmax, fun _ => rfl, h.own, fun hc => by rw [setCells_size]; exact h.lt hc, fun j u hj => ?_, fun j hj => ?_, fun j hj => ?_⟩, ⟨setCells_grown w g _ news, .inl rfl⟩, ?_⟩
      · by_cases hjl : j < xs.length
        · rw [List.getElem?_append_left hjl] at hj
          rw [World.cell?_setCells_out g news _ w _ fun _ _ => .inl (by simp; omega)]
          exact h.cells j u hj
        · rw [List.getElem?_append_right (by omega)] at hj
          have hjn : j - xs.length < news.length := (List.getElem?_eq_some_iff.1 hj).1
          have hin := World.cell?_setCells_in g news (off + len * k) w (fun j' hj' => by rw [Nat.add_assoc]; exact h.room _ (by omega)) (j - xs.length) hjn
          rw [show off + len * k + (j - xs.length) = off + j by omega] at hin
          rw [hin, ← hj, List.getElem?_eq_getElem hjn]
      · exact World.isSome_setCells g news _ w _ (h.room j hj)
      · rw [World.frozen?_setCells]
        exact h.free j hj
      · refine ⟨len, cap, g, off, _, rfl, h.len, h.le, h.max, h.addr, h.own, fun hc => by rw [setCells_size]; exact h.lt hc, fun j u hj => ?_, fun j hj => ?_, fun j hj => ?_⟩
        · have hjl := (List.getElem?_eq_some_iff.1 hj).1
          rw [World.cell?_setCells_out g news _ w _ fun _ _ => .inl (by simp; omega)]
          exact h.cells j u hj
        · exact World.isSome_setCells g news _ w _ (h.room j hj)
        · rw [World.frozen?_setCells]
          exact h.free j hj
    · obtain rfl : n = 0 := by omega
      obtain rfl : news = [] := List.eq_nil_of_length_eq_zero (by omega)
      have hrun := run_append_nothing (P := P) w t tx ty e i ht hi ao len cap hle x (by rw [hsize]; exact hs)
      exact ⟨_, _, hrun, by rw [List.append_nil]; exact ⟨len, cap, g, off, ao, rfl, h⟩, Grew.refl _ _, ⟨len, cap, g, off, ao, rfl, h⟩⟩
  · have hold : (Builtin.firstCells i.size len (.slice ao len cap)).run P w.drew = .ok xs.toArray w.drew := by
      rw [hsize]
      rcases Nat.eq_zero_or_pos cap with h0 | h0
      · obtain rfl : len = 0 := by omega
        obtain rfl : xs = [] := List.eq_nil_of_length_eq_zero (by omega)
        cases ao with
        | none => exact run_firstCells_none w.drew k 0 0 cap
        | some a => exact run_firstCells_some w.drew k 0 a 0 cap [] (by simp) (fun j u hj => by simp at hj)
      · rw [h.addr h0]
        exact run_firstCells_some w.drew k len ⟨g, off, none⟩ len cap xs hlen (fun j u hj => by
          rw [Addr.add_lit]
          exact h.cells j u hj)
    have h63 : ((len + n : Nat) : Int) ≤ 9223372036854775807 := by unfold maxLen at hfit; omega
    have hrun := run_append_grow_src (P := P) w t tx ty e i z ht hi hz ao len cap xs hold x n news (by rw [hsize]; exact hs) (by omega) h63
      (growslice_fits (by omega) (by rw [hby]; exact Nat.le_trans (Nat.mul_le_mul_right _ (by omega)) hbytes))
    have hge := grownCap_ge w (len + n) cap e
    have hcm : grownCap w (len + n) cap e ≤ maxLen := grownCap_le_maxLen w (len + n) cap e (by omega)
    generalize hcp : grownCap w (len + n) cap e = cp at hrun hge hcm
    have hcpk : (len + n) * k ≤ cp * k := Nat.mul_le_mul_right k hge
    have hlnk : (len + n) * k = len * k + n * k := Nat.add_mul _ _ _
    generalize hC : (xs ++ news).toArray ++ Builtin.zeroCells z.cells (cp - (len + n)) = C at hrun
    have hCs : C.size = cp * k := by
      rw [← hC]
      simp only [Array.size_append, List.size_toArray, size_zeroCells, hzs, List.length_append, Nat.sub_mul]
      omega
    have hcell : ∀ j, (w.drew.alloc (.cells C e)).cell? ⟨w.heap.size, 0 + j, none⟩ = C[j]? := fun j => by
      rw [Nat.zero_add]; exact World.cell?_alloc_mark w.drew C e (0, 0) j
    refine ⟨_, _, hrun, ⟨len + n, _, w.heap.size, 0, _, rfl, by rw [List.length_append]; omega, hge, hcm, fun _ => rfl, fun a ha => by cases ha; exact hbase, fun _ => by simp, fun j u hj => ?_, fun j hj => ?_, fun j hj => ?_⟩,
      ⟨⟨rfl, rfl, rfl, by simp, fun k hk _ => heap_alloc_old w.drew _ (h := hk)⟩, .inr ⟨w.heap.size, rfl, Nat.le_refl _⟩⟩, Wide.below ⟨len, cap, g, off, ao, rfl, h⟩ ((Below.refl _ _).drew.alloc (Nat.le_refl _) _)⟩
    · rw [hcell, ← hC]
      have hjl : j < (xs ++ news).length := (List.getElem?_eq_some_iff.1 hj).1
      rw [Array.getElem?_append_left (by simpa using hjl)]
      simpa using hj
    · rw [hcell, Array.getElem?_eq_getElem (by omega)]
      rfl
    · rw [Nat.zero_add]
      have := World.frozen?_alloc_mark w.drew C e 0 0 j
      simpa using this

theorem stepAt_append_wide2 {P : Program} {k : Nat} {ops : Array Oper} {o : Oper} {a : Act} {w : World} {R : Value → World → Prop} {d : Tmp} (hd : o.dst = some d) (hw : Region.wanted o (yielded ops a.tmps) = true) (hz' : decide (d < a.tmps.size) = true) (s x : Operand) (t tx : TypeId)
    (ho : o.op = .call { callee := .builtin .append, args := #[s, x], argTypes := #[t, tx] })
    {base : Nat} {v : Value} {xs : List Value} (hs : a.eval s = v) (h : Wide k w base v xs) (hk : 0 < k) (e : TypeId) (i : TypeInfo) (z : Value) (bytes : Nat)
    (ht : P.underlying t = some (.slice e)) (hi : P.info? e = some i) (hz : i.zero = some z) (hsize : i.size = k) (hby : i.bytes = bytes) (hzs : z.cells.size = k)
    (u : Value) (hx : a.eval x = u) (n : Nat) (news : List Value) (hsrc : Src P k tx u n news w) (hfit : xs.length + n ≤ maxLen) (hbytes : (xs.length + n) * bytes ≤ 140737488355328) (hbase : base ≤ w.heap.size)
    (hK : ∀ v' w', Wide k w' base v' (xs ++ news) → Grew w v w' v' → Wide k w' base v xs → R v' w') : stepAt P ops o a w R := by
  obtain ⟨v', w', hrun, r1, r2, r3⟩ := h.append2 (P := P) hk t tx o.type e i z bytes ht hi hz hsize hby hzs u n news hsrc hfit hbytes hbase
  refine stepAt_value hd hw hz' v' w' ?_ (hK v' w' r1 r2 r3)
  simp [execOp, ho, resolve, invoke, builtin, hs, hx, hrun, Result.andThen]

theorem stepAt_load_run {P : Program} {ops : Array Oper} {o : Oper} {a : Act} {w : World} {R : Value → World → Prop} {d : Tmp} (hd : o.dst = some d) (hw : Region.wanted o (yielded ops a.tmps) = true) (hz : decide (d < a.tmps.size) = true) (ty : TypeId) (y : Operand) (ho : o.op = .load ty y)
    (p v : Value) (hx : a.eval y = p) (hr : (Instr.loadAt ty p).run P w = .ok v w) (h : R v w) : stepAt P ops o a w R := by
  refine stepAt_value hd hw hz _ w ?_ h
  unfold execOp
  simp only [ho, hx, Sem.run_bind, hr, Result.andThen_ok]
  rfl
end Go.Proofs.Ytoinigcfcjllcaa

/-
  A struct in memory whose first fields are slices that it owns, one after the other: what an append to one of them leaves of all. It holds of every program.
-/
namespace Go.Proofs.Ytoinigcfcjllcaa
open Go Go.RowKit
set_option maxRecDepth 10000

/-- The struct at b: its slices (cells an element, the slice, the cells that it holds), and what stands behind them. -/
structure Sls (w : World) (F : List Nat) (b : Nat) (ty : TypeId) (items : List (Nat × Value × List Value)) (tail : List Value) : Prop where
  blk : Blk w b ty (items.map (·.2.1) ++ tail)
  wide : ∀ x ∈ items, Wide x.1 w 0 x.2.1 x.2.2
  nb : ∀ x ∈ items, x.2.1.ownBlock ≠ some b
  apart : ∀ (i j : Nat) x y, i ≠ j → items[i]? = some x → items[j]? = some y → ∀ k, x.2.1.ownBlock = some k → y.2.1.ownBlock ≠ some k
  inb : b ∈ F
  inv : ∀ x ∈ items, ∀ k, x.2.1.ownBlock = some k → k ∈ F
  low : Low w F

theorem Sls.keep {w w' : World} {F G : List Nat} {b : Nat} {ty : TypeId} {items : List (Nat × Value × List Value)} {tail : List Value} (h : Sls w F b ty items tail) (hk : Kept G w w') (hF : Away F G) : Sls w' F b ty items tail :=
  ⟨h.blk.kept hk (hF b h.inb), fun x hx => (h.wide x hx).kept hk (fun j hj => hF j (h.inv x hx j hj)), h.nb, h.apart, h.inb, h.inv, h.low.keep hk.size⟩
theorem Sls.below {w w' : World} {F : List Nat} {b : Nat} {ty : TypeId} {items : List (Nat × Value × List Value)} {tail : List Value} (h : Sls w F b ty items tail) (hb : Below w.heap.size w w') : Sls w' F b ty items tail := h.keep (Kept.of_below [] hb) (fun _ _ hx => by cases hx)
theorem Sls.cell {w : World} {F : List Nat} {b : Nat} {ty : TypeId} {items : List (Nat × Value × List Value)} {tail : List Value} (h : Sls w F b ty items tail) {i : Nat} {x : Nat × Value × List Value} (hx : items[i]? = some x) : w.cell? ⟨b, i, none⟩ = some x.2.1 := by
  have hl := (List.getElem?_eq_some_iff.1 hx).1
  rw [h.blk.cell i, List.getElem?_append_left (by simpa using hl)]
  simp [hx]

theorem mem_set_or {α : Type} {l : List α} {i : Nat} {a x : α} (h : x ∈ l.set i a) : x = a ∨ ∃ j : Nat, j ≠ i ∧ l[j]? = some x := by
  obtain ⟨j, hj⟩ := List.getElem?_of_mem h
  rw [List.getElem?_set] at hj
  split at hj
  · split at hj
    · exact .inl (Option.some.inj hj).symm
    · cases hj
  · rename_i hne
    exact .inr ⟨j, fun e => hne e.symm, hj⟩

/-- One slice has grown, and is stored back. -/
theorem Sls.stored {w w' : World} {F : List Nat} {b i k : Nat} {ty : TypeId} {items : List (Nat × Value × List Value)} {tail : List Value} {v v' : Value} {xs xs' : List Value} (h : Sls w F b ty items tail) (hi : items[i]? = some (k, v, xs)) (hk : Kept (ownL v) w w')
    (hw : Wide k w' 0 v' xs') (hx0 : 0 < xs'.length) (ho : v'.ownBlock = v.ownBlock ∨ ∃ j, v'.ownBlock = some j ∧ w.heap.size ≤ j) :
    Sls (w'.setCell ⟨b, i, none⟩ v') (ownL v' ++ F) b ty (items.set i (k, v', xs')) tail ∧ Kept F w (w'.setCell ⟨b, i, none⟩ v') ∧ NewF w F (ownL v' ++ F) := by
  have hmi : (k, v, xs) ∈ items := List.mem_of_getElem? hi
  have hil := (List.getElem?_eq_some_iff.1 hi).1
  have hbl := h.low b h.inb
  have hF : ∀ x ∈ ownL v, x ∈ F := fun x hx => h.inv _ hmi x (mem_ownL.1 hx)
  have hbv : b ∉ ownL v := fun hx => h.nb _ hmi (mem_ownL.1 hx)
  have hb' : v'.ownBlock ≠ some b := fun e => by
    rcases ho with h1 | ⟨j, h1, h2⟩
    · exact h.nb _ hmi (h1.symm.trans e)
    · rw [h1] at e; cases e; omega
  have hk2 : Kept [b] w' (w'.setCell ⟨b, i, none⟩ v') := (Kept.refl _ _).setCell _ _ (.inl (by simp))
  have hap : ∀ (j : Nat) (x : Nat × Value × List Value), j ≠ i → items[j]? = some x → ∀ q, x.2.1.ownBlock = some q → v'.ownBlock ≠ some q := fun j x hj hx q hq e => by
    rcases ho with h1 | ⟨z, h1, h2⟩
    · exact h.apart j i x _ hj hx hi q hq (h1.symm.trans e)
    · rw [h1] at e; cases e
      have := h.low q (h.inv x (List.mem_of_getElem? hx) q hq)
      omega
  refine ⟨⟨?_, fun x hx => ?_, fun x hx => ?_, ?_, List.mem_append_right _ h.inb, fun x hx q hq => ?_, fun x hx => ?_⟩, (hk.mono hF).setCell _ _ (.inl h.inb), fun x hx => ?_⟩
  · have := (h.blk.kept hk hbv).set i v'
    rw [List.set_append_left _ _ (by simpa using hil)] at this
    rw [List.map_set]
    exact this
  · rcases mem_set_or hx with rfl | ⟨j, hj, hx⟩
    · exact hw.kept hk2 (fun q hq hm => by simp at hm; subst hm; exact hb' hq)
    · refine ((h.wide x (List.mem_of_getElem? hx)).kept hk (fun q hq hm => ?_)).kept hk2 (fun q hq hm => by simp at hm; subst hm; exact h.nb x (List.mem_of_getElem? hx) hq)
      exact h.apart j i x _ hj hx hi q hq (mem_ownL.1 hm)
  · rcases mem_set_or hx with rfl | ⟨j, hj, hx⟩
    · exact hb'
    · exact h.nb x (List.mem_of_getElem? hx)
  · intro p q x y hpq hx hy z hz
    rw [List.getElem?_set] at hx hy
    by_cases hp : i = p
    · subst hp
      rw [if_pos rfl, if_pos hil] at hx
      rw [if_neg hpq] at hy
      cases hx
      exact fun e => hap q y (Ne.symm hpq) hy z e hz
    · rw [if_neg hp] at hx
      by_cases hq : i = q
      · subst hq
        rw [if_pos rfl, if_pos hil] at hy
        cases hy
        exact hap p x hpq hx z hz
      · rw [if_neg hq] at hy
        exact h.apart p q x y hpq hx hy z hz
  · rcases mem_set_or hx with rfl | ⟨j, hj, hx⟩
    · exact List.mem_append_left _ (mem_ownL.2 hq)
    · exact List.mem_append_right _ (h.inv x (List.mem_of_getElem? hx) q hq)
  · rcases List.mem_append.1 hx with hx | hx
    · have := hw.ownLt hx0 x (mem_ownL.1 hx)
      simp [World.setCell]; exact this
    · have := h.low x hx
      have := hk.size
      simp [World.setCell]; omega
  · rcases List.mem_append.1 hx with hx | hx
    · rcases ho with h1 | ⟨j, h1, h2⟩
      · exact .inl (h.inv _ hmi x (h1 ▸ mem_ownL.1 hx))
      · rw [mem_ownL, h1] at hx; cases hx; exact .inr h2
    · exact .inl hx
end Go.Proofs.Ytoinigcfcjllcaa

/-
  A struct in memory: some cells, then slices that it owns, one after the other, then some cells more: what is left of it when a slice has grown or another one is stored in its place, when an element is set, when a cell behind the slices is. It holds of every program.
-/
namespace Go.Proofs.Ytoinigcfcjllcaa
open Go Go.RowKit
set_option maxRecDepth 10000

structure Slp (w : World) (F : List Nat) (b : Nat) (ty : TypeId) (pre : List Value) (items : List (Nat × Value × List Value)) (tail : List Value) : Prop where
  blk : Blk w b ty (pre ++ (items.map (·.2.1) ++ tail))
  wide : ∀ x ∈ items, Wide x.1 w 0 x.2.1 x.2.2
  nb : ∀ x ∈ items, x.2.1.ownBlock ≠ some b
  apart : ∀ (i j : Nat) x y, i ≠ j → items[i]? = some x → items[j]? = some y → ∀ k, x.2.1.ownBlock = some k → y.2.1.ownBlock ≠ some k
  inb : b ∈ F
  inv : ∀ x ∈ items, ∀ k, x.2.1.ownBlock = some k → k ∈ F
  low : Low w F

section
variable {w w' : World} {F G : List Nat} {b i k : Nat} {ty : TypeId} {pre tail : List Value} {items : List (Nat × Value × List Value)} {v v' : Value} {xs xs' : List Value}
theorem Slp.keep (h : Slp w F b ty pre items tail) (hk : Kept G w w') (hF : Away F G) : Slp w' F b ty pre items tail :=
  ⟨h.blk.kept hk (hF b h.inb), fun x hx => (h.wide x hx).kept hk (fun j hj => hF j (h.inv x hx j hj)), h.nb, h.apart, h.inb, h.inv, h.low.keep hk.size⟩
theorem Slp.below (h : Slp w F b ty pre items tail) (hb : Below w.heap.size w w') : Slp w' F b ty pre items tail := h.keep (Kept.of_below [] hb) (fun _ _ hx => by cases hx)
theorem Slp.cell (h : Slp w F b ty pre items tail) {x : Nat × Value × List Value} (hx : items[i]? = some x) : w.cell? ⟨b, pre.length + i, none⟩ = some x.2.1 := by
  have hl := (List.getElem?_eq_some_iff.1 hx).1
  rw [h.blk.cell, List.getElem?_append_right (Nat.le_add_right _ _), Nat.add_sub_cancel_left, List.getElem?_append_left (by simpa using hl)]
  simp [hx]
theorem Slp.pcell (h : Slp w F b ty pre items tail) {x : Value} (hx : pre[i]? = some x) : w.cell? ⟨b, i, none⟩ = some x := by
  rw [h.blk.cell, List.getElem?_append_left (List.getElem?_eq_some_iff.1 hx).1]; exact hx
theorem Slp.tcell (h : Slp w F b ty pre items tail) {x : Value} (hx : tail[i]? = some x) : w.cell? ⟨b, pre.length + (items.length + i), none⟩ = some x := by
  rw [h.blk.cell, List.getElem?_append_right (Nat.le_add_right _ _), Nat.add_sub_cancel_left, List.getElem?_append_right (by simp)]
  simp [hx]

/-- One slice has grown, or another one has been made, and is stored in its place. -/
theorem Slp.stored (h : Slp w F b ty pre items tail) (hi : items[i]? = some (k, v, xs)) (hk : Kept (ownL v) w w')
    (hw : Wide k w' 0 v' xs') (hx0 : 0 < xs'.length) (ho : v'.ownBlock = v.ownBlock ∨ ∃ j, v'.ownBlock = some j ∧ w.heap.size ≤ j) :
    Slp (w'.setCell ⟨b, pre.length + i, none⟩ v') (ownL v' ++ F) b ty pre (items.set i (k, v', xs')) tail ∧ Kept F w (w'.setCell ⟨b, pre.length + i, none⟩ v') ∧ NewF w F (ownL v' ++ F) := by
  have hmi : (k, v, xs) ∈ items := List.mem_of_getElem? hi
  have hil := (List.getElem?_eq_some_iff.1 hi).1
  have hbl := h.low b h.inb
  have hF : ∀ x ∈ ownL v, x ∈ F := fun x hx => h.inv _ hmi x (mem_ownL.1 hx)
  have hbv : b ∉ ownL v := fun hx => h.nb _ hmi (mem_ownL.1 hx)
  have hb' : v'.ownBlock ≠ some b := fun e => by
    rcases ho with h1 | ⟨j, h1, h2⟩
    · exact h.nb _ hmi (h1.symm.trans e)
    · rw [h1] at e; cases e; omega
  have hk2 : Kept [b] w' (w'.setCell ⟨b, pre.length + i, none⟩ v') := (Kept.refl _ _).setCell _ _ (.inl (by simp))
  have hap : ∀ (j : Nat) (x : Nat × Value × List Value), j ≠ i → items[j]? = some x → ∀ q, x.2.1.ownBlock = some q → v'.ownBlock ≠ some q := fun j x hj hx q hq e => by
    rcases ho with h1 | ⟨z, h1, h2⟩
    · exact h.apart j i x _ hj hx hi q hq (h1.symm.trans e)
    · rw [h1] at e; cases e
      have := h.low q (h.inv x (List.mem_of_getElem? hx) q hq)
      omega
  refine ⟨⟨?_, fun x hx => ?_, fun x hx => ?_, ?_, List.mem_append_right _ h.inb, fun x hx q hq => ?_, fun x hx => ?_⟩, (hk.mono hF).setCell _ _ (.inl h.inb), fun x hx => ?_⟩
  · have := (h.blk.kept hk hbv).set (pre.length + i) v'
    rw [List.set_append_right _ _ (Nat.le_add_right _ _), Nat.add_sub_cancel_left, List.set_append_left _ _ (by simpa using hil)] at this
    rw [List.map_set]
    exact this
  · rcases mem_set_or hx with rfl | ⟨j, hj, hx⟩
    · exact hw.kept hk2 (fun q hq hm => by simp at hm; subst hm; exact hb' hq)
    · refine ((h.wide x (List.mem_of_getElem? hx)).kept hk (fun q hq hm => ?_)).kept hk2 (fun q hq hm => by simp at hm; subst hm; exact h.nb x (List.mem_of_getElem? hx) hq)
      exact h.apart j i x _ hj hx hi q hq (mem_ownL.1 hm)
  · rcases mem_set_or hx with rfl | ⟨j, hj, hx⟩
    · exact hb'
    · exact h.nb x (List.mem_of_getElem? hx)
  · intro p q x y hpq hx hy z hz
    rw [List.getElem?_set] at hx hy
    by_cases hp : i = p
    · subst hp
      rw [if_pos rfl, if_pos hil] at hx
      rw [if_neg hpq] at hy
      cases hx
      exact fun e => hap q y (Ne.symm hpq) hy z e hz
    · rw [if_neg hp] at hx
      by_cases hq : i = q
      · subst hq
        rw [if_pos rfl, if_pos hil] at hy
        cases hy
        exact hap p x hpq hx z hz
      · rw [if_neg hq] at hy
        exact h.apart p q x y hpq hx hy z hz
  · rcases mem_set_or hx with rfl | ⟨j, hj, hx⟩
    · exact List.mem_append_left _ (mem_ownL.2 hq)
    · exact List.mem_append_right _ (h.inv x (List.mem_of_getElem? hx) q hq)
  · rcases List.mem_append.1 hx with hx | hx
    · have := hw.ownLt hx0 x (mem_ownL.1 hx)
      simp [World.setCell]; exact this
    · have := h.low x hx
      have := hk.size
      simp [World.setCell]; omega
  · rcases List.mem_append.1 hx with hx | hx
    · rcases ho with h1 | ⟨j, h1, h2⟩
      · exact .inl (h.inv _ hmi x (h1 ▸ mem_ownL.1 hx))
      · rw [mem_ownL, h1] at hx; cases hx; exact .inr h2
    · exact .inl hx

/-- An element of one of its slices is set. -/
theorem Slp.setAt (h : Slp w F b ty pre items tail) {g off n cap j : Nat} (hi : items[i]? = some (k, .slice (some ⟨g, off, none⟩) n cap, xs)) (hj : j < xs.length) (u : Value) :
    Slp (w.setCell ⟨g, off + j, none⟩ u) F b ty pre (items.set i (k, .slice (some ⟨g, off, none⟩) n cap, xs.set j u)) tail ∧ Kept F w (w.setCell ⟨g, off + j, none⟩ u) := by
  have hmi := List.mem_of_getElem? hi
  have hil := (List.getElem?_eq_some_iff.1 hi).1
  have hgF : g ∈ F := h.inv _ hmi g rfl
  have hgb : g ≠ b := fun e => h.nb _ hmi (by rw [← e]; rfl)
  have hkg : Kept [g] w (w.setCell ⟨g, off + j, none⟩ u) := (Kept.refl _ _).setCell _ _ (.inl (by simp))
  have hw : Wide k (w.setCell ⟨g, off + j, none⟩ u) 0 (.slice (some ⟨g, off, none⟩) n cap) (xs.set j u) := by
    obtain ⟨n', cap', g', off', ao', e, hw⟩ := h.wide _ hmi
    injection e with e1 e2 e3
    subst e1; subst e2; subst e3
    have hc : 0 < cap := by
      have h1 := hw.len
      have h2 := hw.le
      simp only at h1 hj
      rcases Nat.eq_zero_or_pos n with hn | hn
      · rw [hn, Nat.zero_mul] at h1; omega
      · omega
    have ha := hw.addr hc
    injection ha with ha
    injection ha with ha1 ha2
    subst ha1; subst ha2
    exact ⟨_, _, _, _, _, rfl, hw.set j hj u⟩
  refine ⟨⟨?_, fun x hx => ?_, fun x hx => ?_, ?_, h.inb, fun x hx q hq => ?_, h.low.keep hkg.size⟩, hkg.mono (fun x hx => by simp at hx; subst hx; exact hgF)⟩
  · have := h.blk.kept hkg (by simpa using fun e => hgb e.symm)
    have e : (items.set i (k, .slice (some ⟨g, off, none⟩) n cap, xs.set j u)).map (·.2.1) = items.map (·.2.1) := by
      rw [List.map_set]
      apply List.ext_getElem?
      intro z
      by_cases hz : i = z
      · subst hz
        rw [List.getElem?_set_self (by simpa using hil)]
        simp [hi]
      · rw [List.getElem?_set_ne hz]
    rw [e]
    exact this
  · rcases mem_set_or hx with rfl | ⟨z, hz, hx2⟩
    · exact hw
    · refine (h.wide x (List.mem_of_getElem? hx2)).kept hkg fun q hq hm => ?_
      simp at hm
      subst hm
      exact h.apart z i x _ hz hx2 hi q hq rfl
  · rcases mem_set_or hx with rfl | ⟨z, hz, hx⟩
    · have := h.nb _ hmi; exact this
    · exact h.nb x (List.mem_of_getElem? hx)
  · intro p q x y hpq hx hy z hz
    rw [List.getElem?_set] at hx hy
    by_cases hp : i = p
    · subst hp
      rw [if_pos rfl, if_pos hil] at hx
      rw [if_neg hpq] at hy
      cases hx
      exact h.apart i q _ y hpq hi hy z hz
    · rw [if_neg hp] at hx
      by_cases hq : i = q
      · subst hq
        rw [if_pos rfl, if_pos hil] at hy
        cases hy
        exact h.apart p i x _ hpq hx hi z hz
      · rw [if_neg hq] at hy
        exact h.apart p q x y hpq hx hy z hz
  · rcases mem_set_or hx with rfl | ⟨z, hz, hx⟩
    · have := h.inv _ hmi q hq; exact this
    · exact h.inv x (List.mem_of_getElem? hx) q hq

/-- A cell behind the slices is set. -/
theorem Slp.tailed (h : Slp w F b ty pre items tail) (j : Nat) (u : Value) :
    Slp (w.setCell ⟨b, pre.length + (items.length + j), none⟩ u) F b ty pre items (tail.set j u) ∧ Kept F w (w.setCell ⟨b, pre.length + (items.length + j), none⟩ u) := by
  have hkb : Kept [b] w (w.setCell ⟨b, pre.length + (items.length + j), none⟩ u) := (Kept.refl _ _).setCell _ _ (.inl (by simp))
  refine ⟨⟨?_, fun x hx => (h.wide x hx).kept hkb (fun q hq hm => by simp at hm; subst hm; exact h.nb x hx hq), h.nb, h.apart, h.inb, h.inv, h.low.keep hkb.size⟩, hkb.mono (fun x hx => by simp at hx; subst hx; exact h.inb)⟩
  have := h.blk.set (pre.length + (items.length + j)) u
  rw [List.set_append_right _ _ (Nat.le_add_right _ _), Nat.add_sub_cancel_left, List.set_append_right _ _ (by simp), List.length_map, Nat.add_sub_cancel_left] at this
  exact this
end
end Go.Proofs.Ytoinigcfcjllcaa
