/-
  What Less answers.
-/
import Derived.Test.YtginfmbcljlneaaDoorStrs
import Derived.Lib.BytesEntry
import Derived.Laws.Externs
namespace Go.Proofs.YtginfmbcljlneaaDoor
open Go.RowKit

/-- A digest comes ahead of another one. -/
def lessB (r s : List UInt8) : Bool := decide (Lib.compareBytes r s < 0)

theorem bytesOf_ints (l : List UInt8) : Lib.bytesOf (l.map fun b => (b.toNat : Int)) = l := by
  rw [Lib.bytesOf, List.map_map]
  conv => rhs; rw [← List.map_id l]
  congr 1
  funext b
  simp

theorem load_bytes {w : World} {g : Nat} {t : TypeId} {l : List UInt8} (h : Blk w g t (bv l)) (n c : Nat) (hn : l.length = n) : (Extern.Bytes.bytesOf (.slice (some ⟨g, 0, none⟩) n c)).run Tryd.prog w = .ok ⟨l.toArray⟩ w := by
  have hl := Lib.run_loadBytesX (P := Tryd.prog) w (l.map fun b => (b.toNat : Int)) ⟨g, 0, none⟩ .empty (fun j x hj => by
    rw [Addr.add_lit, Nat.zero_add, h.cell]
    rw [List.getElem?_map] at hj
    cases hx : l[j]? with
    | none => rw [hx] at hj; cases hj
    | some y => rw [hx] at hj; cases hj; simp [bv, hx])
  rw [bytesOf_ints, List.length_map, hn] at hl
  simpa [Extern.Bytes.bytesOf] using hl

theorem cmp_run {w : World} {g1 g2 : Nat} {t1 t2 : TypeId} {r s : List UInt8} (h1 : Blk w g1 t1 (bv r)) (h2 : Blk w g2 t2 (bv s)) (hr : r.length = 32) (hs : s.length = 32) :
    (callFunc 62 #[.slice (some ⟨g1, 0, none⟩) 32 32, .slice (some ⟨g2, 0, none⟩) 32 32]).run Tryd.prog w = .ok (.value (.int .i64 (Lib.compareBytes r s))) w := by
  rw [run_callFunc_extern Tryd.func62 (by kernel_rfl) (by kernel_rfl) (by kernel_rfl) (e := Extern.BytealgCompare.compare) (by kernel_rfl)]
  have hc : (Extern.BytealgCompare.compare #[.slice (some ⟨g1, 0, none⟩) 32 32, .slice (some ⟨g2, 0, none⟩) 32 32]).run Tryd.prog w = .ok (.int .i64 (Lib.compareBytes r s)) w := by
    change Sem.run Tryd.prog (do pure (goInt (Extern.BytealgCompare.cmp (← Extern.Bytes.bytesOf (.slice (some ⟨g1, 0, none⟩) 32 32)) (← Extern.Bytes.bytesOf (.slice (some ⟨g2, 0, none⟩) 32 32))))) w = _
    simp only [Sem.run_bind, load_bytes h1 32 32 hr, load_bytes h2 32 32 hs, Result.andThen, Sem.run_pure]
    rw [Lib.cmp_eq]
    rfl
  rw [hc]
  rfl

theorem compare_any (w : World) (g1 g2 : Nat) (t1 t2 : TypeId) (r s : List UInt8) (h1 : Blk w g1 t1 (bv r)) (h2 : Blk w g2 t2 (bv s)) (hr : r.length = 32) (hs : s.length = 32) :
    Calls Tryd.prog 50 #[.slice (some ⟨g1, 0, none⟩) 32 32, .slice (some ⟨g2, 0, none⟩) 32 32] w fun e w' => e = .returned (.int .i64 (Lib.compareBytes r s)) ∧ w' = w := by
  have hc := cmp_run h1 h2 hr hs
  clear h1 h2
  go_enter Tryd.func50, Tryd.ntmps50
  go_wp2_with fail
  go_ret
  exact ⟨rfl, rfl⟩

set_option maxHeartbeats 1000000 in
theorem less_any (w : World) (r s : List UInt8) (hr : r.length = 32) (hs : s.length = 32) :
    Calls Tryd.prog 34 #[.agg (bv r).toArray, .agg (bv s).toArray] w fun e w' => e = .returned (.bool (lessB r s)) ∧ Below w.heap.size w w' := by
  have h1 := (Blk.new w 47 (bv r).toArray).alloc (.cells (bv s).toArray 47)
  have h2 := Blk.new (w.alloc (.cells (bv r).toArray 47)) 47 (bv s).toArray
  have hb : Below w.heap.size w ((w.alloc (.cells (bv r).toArray 47)).alloc (.cells (bv s).toArray 47)) := ((Below.refl _ _).alloc (Nat.le_refl _) _).alloc (by simp) _
  simp only [World.size_alloc] at h2
  have H1 := Lib.hid h1
  have H2 := Lib.hid h2
  have HB := Lib.hid hb
  clear h1 h2 hb
  go_enter Tryd.func34, Tryd.ntmps34
  go_wp2_with fail
  generalize (w.alloc (.cells (bv r).toArray 47)).alloc (.cells (bv s).toArray 47) = w1 at H1 H2 HB ⊢
  go_quiet ((go_at_call 50; refine Calls.quiet_of_same (compare_any _ _ _ 47 47 r s (H1.out.drewN _) (H2.out.drewN _) hr hs)))
  go_wp2_with fail
  go_ret
  exact ⟨rfl, below_drewN' HB.out nq⟩
end Go.Proofs.YtginfmbcljlneaaDoor
