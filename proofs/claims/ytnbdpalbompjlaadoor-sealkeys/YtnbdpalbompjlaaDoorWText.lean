/-
  Bytes as a text, and what is appended to nothing.
-/
import Derived.Test.YtnbdpalbompjlaaDoorM14
import Derived.Test.YtnbdpalbompjlaaDoorM6
namespace Go.Proofs.YtnbdpalbompjlaaDoor
open Go.RowKit
set_option maxRecDepth 10000

theorem append_empty {P : Program} (w : World) (ad : Addr) (t tx ty e : TypeId) (i : TypeInfo) (z : Value) (bytes : Nat)
    (ht : P.underlying t = some (.slice e)) (hi : P.info? e = some i) (hz : i.zero = some z) (hsize : i.size = 1) (hby : i.bytes = bytes) (hzs : z.cells.size = 1)
    (x : Value) (n : Nat) (news : List Value) (hs : Src P 1 tx x n news w) (h0 : 0 < n) (hfit : n ≤ maxLen) (hbytes : n * bytes ≤ 140737488355328) :
    ∃ v' w', (Builtin.append_ #[t, tx] ty #[.slice (some ad) 0 0, x]).run P w = .ok v' w' ∧ Held w' w.heap.size v' news ∧ Below w.heap.size w w' := by
  have hn : news.length = n := by simpa using hs.newsLen
  have hold : (Builtin.firstCells i.size 0 (.slice (some ad) 0 0)).run P w.drew = .ok ([] : List Value).toArray w.drew := by
    rw [hsize]
    exact run_firstCells_some w.drew 1 0 ad 0 0 [] (by simp) (fun j u hj => by simp at hj)
  have h63 : ((0 + n : Nat) : Int) ≤ 9223372036854775807 := by unfold maxLen at hfit; omega
  have hrun := run_append_grow_src (P := P) w t tx ty e i z ht hi hz (some ad) 0 0 [] hold x n news (by rw [hsize]; exact hs) (by omega) h63
    (growslice_fits (by omega) (by rw [hby, Nat.zero_add]; exact hbytes))
  have hge := grownCap_ge w (0 + n) 0 e
  have hcm : grownCap w (0 + n) 0 e ≤ maxLen := grownCap_le_maxLen w (0 + n) 0 e (by omega)
  generalize hC : (([] : List Value) ++ news).toArray ++ Builtin.zeroCells z.cells (grownCap w (0 + n) 0 e - (0 + n)) = C at hrun
  have hCs : C.size = grownCap w (0 + n) 0 e := by
    rw [← hC]
    simp only [Array.size_append, List.size_toArray, size_zeroCells, hzs, List.length_append, List.length_nil]
    omega
  have hcell : ∀ j, (w.drew.alloc (.cells C e)).cell? ⟨w.heap.size, 0 + j, none⟩ = C[j]? := fun j => by
    rw [Nat.zero_add]; exact World.cell?_alloc_mark w.drew C e (0, 0) j
  refine ⟨_, _, hrun, ⟨0 + n, _, w.heap.size, 0, _, rfl, by omega, hge, hcm, fun _ => rfl, fun a ha => by cases ha; exact Nat.le_refl _, fun _ => by simp, fun j u hj => ?_, fun j hj => ?_, fun j hj => ?_⟩,
    ((Below.refl w.heap.size w).drew).alloc (Nat.le_refl _) _⟩
  · rw [hcell, ← hC, List.nil_append]
    have hjl : j < news.length := (List.getElem?_eq_some_iff.1 hj).1
    rw [Array.getElem?_append_left (by simpa using hjl)]
    simpa using hj
  · rw [hcell, Array.getElem?_eq_getElem (by omega)]
    rfl
  · rw [Nat.zero_add]
    have := World.frozen?_alloc_mark w.drew C e 0 0 j
    simpa using this

theorem stepAt_append_empty {P : Program} {ops : Array Oper} {o : Oper} {a : Act} {w : World} {R : Value → World → Prop} {d : Tmp} (hd : o.dst = some d) (hw : Region.wanted o (yielded ops a.tmps) = true) (hz' : decide (d < a.tmps.size) = true) (s x : Operand) (t tx : TypeId)
    (ho : o.op = .call { callee := .builtin .append, args := #[s, x], argTypes := #[t, tx] }) {ad : Addr} (hs : a.eval s = .slice (some ad) 0 0) (e : TypeId) (i : TypeInfo) (z : Value) (bytes : Nat)
    (ht : P.underlying t = some (.slice e)) (hi : P.info? e = some i) (hz : i.zero = some z) (hsize : i.size = 1) (hby : i.bytes = bytes) (hzs : z.cells.size = 1)
    (u : Value) (hx : a.eval x = u) (n : Nat) (news : List Value) (hsrc : Src P 1 tx u n news w) (h0 : 0 < n) (hfit : n ≤ maxLen) (hbytes : n * bytes ≤ 140737488355328)
    (hK : ∀ v' w', Held w' w.heap.size v' news → Below w.heap.size w w' → R v' w') : stepAt P ops o a w R := by
  obtain ⟨v', w', hrun, r1, r2⟩ := append_empty (P := P) w ad t tx o.type e i z bytes ht hi hz hsize hby hzs u n news hsrc h0 hfit hbytes
  refine stepAt_value hd hw hz' v' w' ?_ (hK v' w' r1 r2)
  simp [execOp, ho, resolve, invoke, builtin, hs, hx, hrun, Result.andThen]

/-- A message's Tag, as append's source. -/
theorem src_tag {w : World} {g : Nat} {M : Msg} {sl : Value} (h : Blk w g 32 (mc M sl)) (hf : M.Fits) : Src Tryd.prog 1 86 (.slice (some ⟨g, 37, none⟩) 16 16) 16 (bv M.G) w := by
  refine Src.ofSlice _ Tryd.underlying86 _ 16 16 _ (by rw [bv_length, hf.G]) (fun j u hj => ?_) (bv_one _)
  rw [Addr.add_lit, h.cell]
  exact mc_G hf sl j u hj

theorem wtext_any (w : World) (B : Nat) (v : Value) (l : List UInt8) (h : Held w B v (bv l)) :
    Calls Tryd.prog 56 #[v] w fun e w' => e = .returned (.string ⟨l.toArray⟩) ∧ Below w.heap.size w w' := by
  have hs := hid_str h rfl
  clear h
  go_enter Tryd.func56, Tryd.ntmps56
  go_wp2_with fail
  go_ret
  exact ⟨rfl, Below.refl _ _⟩
end Go.Proofs.YtnbdpalbompjlaaDoor
