/-
  The texts TKey, one behind the other.
-/
import Derived.Test.YtjodhagjfjgbcaaCTNode
import Derived.Maps.OwnSet
import Derived.Maps.OwnOps
import Derived.DeepKeys4
import Derived.WideKeyArr
/-
  A map by names (map[api.Root]int), as what it says of each name: a name's key; what a look-up and a store make of it.
-/
namespace Go.Proofs.Ytjodhagjfjgbcaa
open Go.RowKit Go.WideMaps
set_option maxRecDepth 10000

theorem Try.laidOutB : laidOutB Try.prog = true := by kernel_rfl
theorem Try.rowRoot : (24 : TypeId) < Try.prog.types.size := of_decide_eq_true (by kernel_rfl)
theorem Try.wideRoot : (match Try.prog.underlying 24 with | some (.array _ _) | some (.struct _) => true | _ => false) = true := by rw [Try.underlying24]
theorem Try.lawRoot : KeyLaw Try.prog 24 := deep_law_laid Try.laidOutB (m := 2) (by omega) Try.rowRoot (by kernel_rfl) Try.wideRoot
theorem Try.keyed : Go.Maps.Keyed Try.prog 24 := .of_law Try.lawRoot
theorem Try.cellsRoot : Try.prog.cellsOf 24 = 32 := by kernel_rfl
theorem Try.cellsU8 : Try.prog.cellsOf 5 = 1 := by kernel_rfl
theorem Try.keyTypeRoot : Try.prog.keyType 24 = true := by kernel_rfl
theorem Try.someTypes : ∃ m, Try.prog.types.size = m + 1 := ⟨Try.prog.types.size - 1, by have h : (24 : Nat) < Try.prog.types.size := Try.rowRoot; omega⟩

def keyR (r : List UInt8) : Lit := .string (keyBytes (r.map fun (b : UInt8) => Lit.int .u8 (b.toNat : Int)))

theorem mapM_range {α : Type} {f : Nat → Option α} {g : Nat → α} : ∀ (l : List Nat), (∀ i ∈ l, f i = some (g i)) → l.mapM f = some (l.map g)
  | [], _ => rfl
  | i :: l, h => by
    rw [List.mapM_cons, h i List.mem_cons_self, mapM_range l (fun j hj => h j (List.mem_cons_of_mem _ hj))]
    rfl
theorem flat_ones {α : Type} : ∀ l : List α, (l.map fun x => [x]).flatten = l
  | [] => rfl
  | a :: r => by simp [flat_ones r]
theorem u8_wf (b : UInt8) : (Lit.int .u8 (b.toNat : Int)).wf = true := by
  have := b.toNat_lt
  simp [Lit.wf, IntKind.min, IntKind.max, IntKind.bits, IntKind.signed]
  omega

/-- What a name reads as. -/
theorem key_root {r : List UInt8} (hr : r.length = 32) : keyOf Try.prog 24 (.agg (bv r).toArray) = some (keyR r) := by
  obtain ⟨m, hm⟩ := Try.someTypes
  unfold keyOf
  simp only [Try.underlying24]
  rw [if_pos (by simp [Try.keyTypeRoot, Value.formed, Try.underlying24, Try.cellsRoot, bv_length, hr])]
  unfold Program.keyLits
  simp only [Try.underlying24, Value.cells]
  rw [if_pos (by rw [Try.cellsRoot]; simp [bv_length, hr]), hm]
  rw [mapM_range (g := fun i => [Lit.int .u8 ((r[i]?.getD 0).toNat : Int)]) (List.range 32) (fun i hi => by
    rw [List.mem_range] at hi
    rw [Try.cellsU8, Nat.mul_one]
    have hb : (bv r).drop i = Value.int .u8 ((r[i]'(by omega)).toNat : Int) :: (bv r).drop (i + 1) := by
      rw [List.drop_eq_getElem_cons (by rw [bv_length]; omega)]
      simp [bv]
    simp only [hb, List.take_succ_cons, List.take_zero]
    unfold Program.keyLits
    simp [Try.underlying5, u8_wf, List.getElem?_eq_getElem (show i < r.length by omega)])]
  simp only [Option.map_some, keyR]
  congr 3
  have e : (List.range 32).map (fun i => [Lit.int .u8 ((r[i]?.getD 0).toNat : Int)]) = (r.map fun (b : UInt8) => Lit.int .u8 (b.toNat : Int)).map fun x => [x] := by
    apply List.ext_getElem
    · simp [hr]
    · intro i h1 h2
      have hi : i < r.length := by simpa using h2
      simp [hi]
  rw [e, flat_ones]
theorem keyR_inj {r s : List UInt8} (hr : r.length = 32) (hs : s.length = 32) (h : keyR r = keyR s) : r = s := by
  have := Try.lawRoot.inj (key_root hr) (h ▸ key_root hs)
  simp only [Value.agg.injEq] at this
  have h2 := congrArg Array.toList this
  simp only at h2
  exact bv_inj h2

/-- The map D says where each name's block stands. -/
structure Says (D : DataW Unit) (t : List Nd) : Prop where
  has : ∀ r, r.length = 32 → Maps.has D (keyR r) = decide (r ∈ rs t)
  at' : ∀ r, r.length = 32 → r ∈ rs t → ∀ z, D.atKey (keyR r) z = .lit (.int .i64 (plc t r))
theorem says_none : Says (.map []) [] := ⟨fun r _ => by simp [Maps.has_eq, rs], fun r _ h => by simp [rs] at h⟩
theorem keyR_is (r : List UInt8) : WideAt.IsKeyLit (keyR r) := trivial
theorem Says.snoc {D : DataW Unit} {t : List Nd} (h : Says D t) (hD : Maps.IsMap D) {n : Nd} (hn : n.1 ∉ rs t) (hl : n.1.length = 32) : Says (D.put (keyR n.1) (.lit (.int .i64 (t.length : Int)))) (t ++ [n]) := by
  refine ⟨fun r hr => ?_, fun r hr hm z => ?_⟩
  · by_cases e : r = n.1
    · subst e
      rw [Maps.has_put_same hD (keyR_is _)]
      simp [rs]
    · rw [Maps.has_put_other (fun he => e (keyR_inj hr hl he)), h.has r hr]
      refine decide_eq_decide.2 ?_
      rw [rs_append, List.mem_append]
      simp [rs, e]
  · rw [plc_snoc hn]
    by_cases e : r = n.1
    · subst e
      rw [if_pos rfl, Maps.atKey_put_same hD (keyR_is _)]
    · rw [if_neg e, Maps.atKey_put_other (fun he => e (keyR_inj hr hl he))]
      rw [rs_append, List.mem_append] at hm
      rcases hm with hm | hm
      · exact h.at' r hr hm z
      · simp [rs] at hm; exact absurd hm e

theorem Try.zeroInt (w : World) : (zeroValue 3).run Try.prog w = .ok (.int .i64 0) w := by kernel_rfl
end Go.Proofs.Ytjodhagjfjgbcaa
