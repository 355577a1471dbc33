/-
  'copy' out of a text into a part of a block that is known whole. It holds of every program.
-/
import Derived.Test.YtickcajihaejkaaDoorBlk
import Derived.Deep.RegionWith
namespace Go.Proofs.YtickcajihaejkaaDoor
open Go.RowKit

theorem run_copy_str {P : Program} (w : World) (dT sT ty elem : TypeId) (g o dLen dCap : Nat) (l : List UInt8) (k : Nat) (hk : min l.length dLen = k) (vs : List Value) (t : TypeId) (hg : Blk w g t vs)
    (hu : P.underlying dT = some (.slice elem)) (hs : (P.info? elem).map (·.size) = some 1) (hfit : o + k ≤ vs.length) :
    (Builtin.copy_ #[dT, sT] ty #[.slice (some ⟨g, o, none⟩) dLen dCap, .string ⟨l.toArray⟩]).run P w = .ok (goInt (k : Int)) (w.setRow g (splice vs o (bv (l.take k))).toArray) := by
  have hlen : (bv (l.take k)).length = k := by rw [bv_length, List.length_take]; omega
  have hst := run_storeCells_at P g o t (bv (l.take k)) 0 vs.toArray w hg (by rw [hlen]; simpa using hfit) (bv_one _)
  have hsz : (ByteArray.mk l.toArray).size = l.length := by simp [ByteArray.size]
  have htk : List.take k (List.map (fun b : UInt8 => Value.int IntKind.u8 (b.toNat : Int)) l) = bv (l.take k) := by
    rw [bv, List.map_take]
  simp only [Nat.add_zero] at hst
  have hmin : Nat.min l.length dLen = k := hk
  cases hq : P.info? elem with
  | none => simp [hq] at hs
  | some i =>
    simp [Builtin.copy_, run_underlying hu, Builtin.lenOf, Builtin.firstCells, sizeOf, typeInfo, hq, hsz, hmin]
    rw [htk, hst]
    simp [Result.andThen, splice]

/-- .. for one step of a region that draws its order. -/
theorem step_copy_str {P : Program} {w : World} {ops : Array Oper} {o : Oper} {a : Act} {K : Act → World → Prop} {Q : Exit → Act → World → Prop} {E : Prop} (hgd : o.guard = none) (d s : Operand) (dT sT : TypeId)
    (ho : o.op = .call { callee := .builtin .copy, args := #[d, s], argTypes := #[dT, sT] }) (elem : TypeId) (hu : P.underlying dT = some (.slice elem)) (hsz : (P.info? elem).map (·.size) = some 1)
    (g off dLen dCap : Nat) (l : ByteArray) (hl : l.data.toList.length ≤ dLen) (hd : a.eval d = .slice (some ⟨g, off, none⟩) dLen dCap) (hs : a.eval s = .string l) (vs : List Value) (t : TypeId) (hg : Blk w g t vs) (hfit : off + l.data.toList.length ≤ vs.length)
    (hK : K (a.put o.dst (goInt (l.data.toList.length : Int))) (w.setRow g (splice vs off (bv l.data.toList)).toArray)) : if Region.wanted o (yielded ops a.tmps) = true then Oper.wp P o a w K Q else E := by
  have hw : Region.wanted o (yielded ops a.tmps) = true := by simp [Region.wanted, hgd]
  rw [if_pos hw]
  have hrun := run_copy_str (P := P) w dT sT o.type elem g off dLen dCap l.data.toList l.data.toList.length (by omega) vs t hg hu hsz hfit
  rw [List.take_length] at hrun
  have hll : (⟨l.data.toList.toArray⟩ : ByteArray) = l := by apply ByteArray.ext; simp
  rw [hll] at hrun
  unfold Oper.wp
  simp only [execOp, ho, resolve, invoke, builtin, Sem.run_bind]
  simp [hd, hs, hrun, Result.andThen]
  simp only [Oper.upon]
  simpa using hK
end Go.Proofs.YtickcajihaejkaaDoor
