/-
  As Wide's append, but it says of the old slice that it still reads what it read: so an append to a slice that lies in a field may come up in any order with what reads that field. It holds of every program.
-/
import Derived.Test.YtmchjmcdlapegaaKept
import Derived.Test.YtmchjmcdlapegaaFreeKill
import Derived.Test.YtmchjmcdlapegaaBuildRows
namespace Go.Proofs.Ytmchjmcdlapegaa
open Go.RowKit
set_option maxRecDepth 10000

/-- append, whatever is appended. Where there is no room at all (the slice is full), nothing that was there turns. -/
theorem Wide.append2 {P : Program} {k : Nat} {w : World} {base : Nat} {v : Value} {xs : List Value} (h : Wide k w base v xs) (hk : 0 < k) (t tx ty e : TypeId) (i : TypeInfo) (z : Value) (bytes : Nat)
    (ht : P.underlying t = some (.slice e)) (hi : P.info? e = some i) (hz : i.zero = some z) (hsize : i.size = k) (hby : i.bytes = bytes) (hzs : z.cells.size = k)
    (x : Value) (n : Nat) (news : List Value) (hs : Src P k tx x n news w) (hfit : xs.length + n ≤ maxLen) (hbytes : (xs.length + n) * bytes ≤ 140737488355328) (hbase : base ≤ w.heap.size) :
    ∃ v' w', (Builtin.append_ #[t, tx] ty #[v, x]).run P w = .ok v' w' ∧ Wide k w' base v' (xs ++ news) ∧ Grew w v w' v' ∧ Wide k w' base v xs := by
  obtain ⟨len, cap, g, off, ao, rfl, h⟩ := h
  have hlen := h.len
  have hle := h.le
  have hmax := h.max
  have hn : news.length = n * k := by simpa using hs.newsLen
  have hlk : len ≤ xs.length := by rw [hlen]; exact Nat.le_mul_of_pos_right _ hk
  by_cases hroom : len + n ≤ cap
  · by_cases hc : 0 < cap
    · have hrk : (len + n) * k ≤ cap * k := Nat.mul_le_mul_right k hroom
      have hlnk : (len + n) * k = len * k + n * k := Nat.add_mul _ _ _
      have hrun := run_append_room_src (P := P) w t tx ty e i ht hi g off len cap x n news (by rw [hsize]; exact hs) hroom
        (fun j hj => by rw [hsize, Nat.add_assoc]; exact h.room _ (by omega)) (fun j hj => by rw [hsize, Nat.add_assoc]; exact h.free _ (by omega))
      rw [hsize] at hrun
      have hao := h.addr hc
      subst hao
      refine ⟨_, _, hrun, ⟨len + n, cap, g, off, _, rfl, by rw [List.length_append]; omega, hroom, hmax, fun _ => rfl, h.own, fun hc => by rw [setCells_size]; exact h.lt hc, fun j u hj => ?_, fun j hj => ?_, fun j hj => ?_⟩, ⟨setCells_grown w g _ news, .inl rfl⟩, ?_⟩
      · by_cases hjl : j < xs.length
        · rw [List.getElem?_append_left hjl] at hj
          rw [World.cell?_setCells_out g news _ w _ fun _ _ => .inl (by simp; omega)]
          exact h.cells j u hj
        · rw [List.getElem?_append_right (by omega)] at hj
          have hjn : j - xs.length < news.length := (List.getElem?_eq_some_iff.1 hj).1
          have hin := World.cell?_setCells_in g news (off + len * k) w (fun j' hj' => by rw [Nat.add_assoc]; exact h.room _ (by omega)) (j - xs.length) hjn
          rw [show off + len * k + (j - xs.length) = off + j by omega] at hin
          rw [hin, ← hj, List.getElem?_eq_getElem hjn]
      · exact World.isSome_setCells g news _ w _ (h.room j hj)
      · rw [World.frozen?_setCells]
        exact h.free j hj
      · refine ⟨len, cap, g, off, _, rfl, h.len, h.le, h.max, h.addr, h.own, fun hc => by rw [setCells_size]; exact h.lt hc, fun j u hj => ?_, fun j hj => ?_, fun j hj => ?_⟩
        · have hjl := (List.getElem?_eq_some_iff.1 hj).1
          rw [World.cell?_setCells_out g news _ w _ fun _ _ => .inl (by simp; omega)]
          exact h.cells j u hj
        · exact World.isSome_setCells g news _ w _ (h.room j hj)
        · rw [World.frozen?_setCells]
          exact h.free j hj
    · obtain rfl : n = 0 := by omega
      obtain rfl : news = [] := List.eq_nil_of_length_eq_zero (by omega)
      have hrun := run_append_nothing (P := P) w t tx ty e i ht hi ao len cap hle x (by rw [hsize]; exact hs)
      exact ⟨_, _, hrun, by rw [List.append_nil]; exact ⟨len, cap, g, off, ao, rfl, h⟩, Grew.refl _ _, ⟨len, cap, g, off, ao, rfl, h⟩⟩
  · have hold : (Builtin.firstCells i.size len (.slice ao len cap)).run P w.drew = .ok xs.toArray w.drew := by
      rw [hsize]
      rcases Nat.eq_zero_or_pos cap with h0 | h0
      · obtain rfl : len = 0 := by omega
        obtain rfl : xs = [] := List.eq_nil_of_length_eq_zero (by omega)
        cases ao with
        | none => exact run_firstCells_none w.drew k 0 0 cap
        | some a => exact run_firstCells_some w.drew k 0 a 0 cap [] (by simp) (fun j u hj => by simp at hj)
      · rw [h.addr h0]
        exact run_firstCells_some w.drew k len ⟨g, off, none⟩ len cap xs hlen (fun j u hj => by
          rw [Addr.add_lit]
          exact h.cells j u hj)
    have h63 : ((len + n : Nat) : Int) ≤ 9223372036854775807 := by unfold maxLen at hfit; omega
    have hrun := run_append_grow_src (P := P) w t tx ty e i z ht hi hz ao len cap xs hold x n news (by rw [hsize]; exact hs) (by omega) h63
      (growslice_fits (by omega) (by rw [hby]; exact Nat.le_trans (Nat.mul_le_mul_right _ (by omega)) hbytes))
    have hge := grownCap_ge w (len + n) cap e
    have hcm : grownCap w (len + n) cap e ≤ maxLen := grownCap_le_maxLen w (len + n) cap e (by omega)
    generalize hcp : grownCap w (len + n) cap e = cp at hrun hge hcm
    have hcpk : (len + n) * k ≤ cp * k := Nat.mul_le_mul_right k hge
    have hlnk : (len + n) * k = len * k + n * k := Nat.add_mul _ _ _
    generalize hC : (xs ++ news).toArray ++ Builtin.zeroCells z.cells (cp - (len + n)) = C at hrun
    have hCs : C.size = cp * k := by
      rw [← hC]
      simp only [Array.size_append, List.size_toArray, size_zeroCells, hzs, List.length_append, Nat.sub_mul]
      omega
    have hcell : ∀ j, (w.drew.alloc (.cells C e)).cell? ⟨w.heap.size, 0 + j, none⟩ = C[j]? := fun j => by
      rw [Nat.zero_add]; exact World.cell?_alloc_mark w.drew C e (0, 0) j
    refine ⟨_, _, hrun, ⟨len + n, _, w.heap.size, 0, _, rfl, by rw [List.length_append]; omega, hge, hcm, fun _ => rfl, fun a ha => by cases ha; exact hbase, fun _ => by simp, fun j u hj => ?_, fun j hj => ?_, fun j hj => ?_⟩,
      ⟨⟨rfl, rfl, rfl, by simp, fun k hk _ => heap_alloc_old w.drew _ (h := hk)⟩, .inr ⟨w.heap.size, rfl, Nat.le_refl _⟩⟩, Wide.below ⟨len, cap, g, off, ao, rfl, h⟩ ((Below.refl _ _).drew.alloc (Nat.le_refl _) _)⟩
    · rw [hcell, ← hC]
      have hjl : j < (xs ++ news).length := (List.getElem?_eq_some_iff.1 hj).1
      rw [Array.getElem?_append_left (by simpa using hjl)]
      simpa using hj
    · rw [hcell, Array.getElem?_eq_getElem (by omega)]
      rfl
    · rw [Nat.zero_add]
      have := World.frozen?_alloc_mark w.drew C e 0 0 j
      simpa using this

theorem stepAt_append_wide2 {P : Program} {k : Nat} {ops : Array Oper} {o : Oper} {a : Act} {w : World} {R : Value → World → Prop} {d : Tmp} (hd : o.dst = some d) (hw : Region.wanted o (yielded ops a.tmps) = true) (hz' : decide (d < a.tmps.size) = true) (s x : Operand) (t tx : TypeId)
    (ho : o.op = .call { callee := .builtin .append, args := #[s, x], argTypes := #[t, tx] })
    {base : Nat} {v : Value} {xs : List Value} (hs : a.eval s = v) (h : Wide k w base v xs) (hk : 0 < k) (e : TypeId) (i : TypeInfo) (z : Value) (bytes : Nat)
    (ht : P.underlying t = some (.slice e)) (hi : P.info? e = some i) (hz : i.zero = some z) (hsize : i.size = k) (hby : i.bytes = bytes) (hzs : z.cells.size = k)
    (u : Value) (hx : a.eval x = u) (n : Nat) (news : List Value) (hsrc : Src P k tx u n news w) (hfit : xs.length + n ≤ maxLen) (hbytes : (xs.length + n) * bytes ≤ 140737488355328) (hbase : base ≤ w.heap.size)
    (hK : ∀ v' w', Wide k w' base v' (xs ++ news) → Grew w v w' v' → Wide k w' base v xs → R v' w') : stepAt P ops o a w R := by
  obtain ⟨v', w', hrun, r1, r2, r3⟩ := h.append2 (P := P) hk t tx o.type e i z bytes ht hi hz hsize hby hzs u n news hsrc hfit hbytes hbase
  refine stepAt_value hd hw hz' v' w' ?_ (hK v' w' r1 r2 r3)
  simp [execOp, ho, resolve, invoke, builtin, hs, hx, hrun, Result.andThen]

theorem stepAt_load_run {P : Program} {ops : Array Oper} {o : Oper} {a : Act} {w : World} {R : Value → World → Prop} {d : Tmp} (hd : o.dst = some d) (hw : Region.wanted o (yielded ops a.tmps) = true) (hz : decide (d < a.tmps.size) = true) (ty : TypeId) (y : Operand) (ho : o.op = .load ty y)
    (p v : Value) (hx : a.eval y = p) (hr : (Instr.loadAt ty p).run P w = .ok v w) (h : R v w) : stepAt P ops o a w R := by
  refine stepAt_value hd hw hz _ w ?_ h
  unfold execOp
  simp only [ho, hx, Sem.run_bind, hr, Result.andThen_ok]
  rfl
end Go.Proofs.Ytmchjmcdlapegaa
