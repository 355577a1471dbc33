/-
  What Of answers: the digest of all bytes, one text behind the other.
-/
import Derived.Test.YtickcajihaejkaaDoorDigest
namespace Go.Proofs.YtickcajihaejkaaDoor
open Go.RowKit

/-- The slice (ao, n) reads as these texts, in block b from off on. -/
structure StrAt (w : World) (B : Nat) (ao : Option Addr) (b off : Nat) (ss : List (List UInt8)) : Prop where
  addr : 0 < ss.length → ao = some ⟨b, off, none⟩
  lt : 0 < ss.length → b < B
  cells : ∀ j s, ss[j]? = some s → w.cell? ⟨b, off + j, none⟩ = some (.string ⟨s.toArray⟩)

theorem StrAt.keep {w w' : World} {B b off : Nat} {ao : Option Addr} {ss : List (List UInt8)} (h : StrAt w B ao b off ss) (hb : Below B w w') : StrAt w' B ao b off ss :=
  ⟨h.addr, h.lt, fun j x hj => by
    have hl : 0 < ss.length := by have := (List.getElem?_eq_some_iff.1 hj).1; omega
    exact (hb.cell (p := ⟨b, off + j, none⟩) (h.lt hl)).trans (h.cells j x hj)⟩
theorem StrAt.more {w : World} {B B' b off : Nat} {ao : Option Addr} {ss : List (List UInt8)} (h : StrAt w B ao b off ss) (hB : B ≤ B') : StrAt w B' ao b off ss :=
  ⟨h.addr, fun h0 => Nat.lt_of_lt_of_le (h.lt h0) hB, h.cells⟩

def zst : List Value := stc (List.replicate 8 0) (List.replicate 64 0) 0 0
def fst_ : List Value := stc firstL (List.replicate 64 0) 0 0

theorem Tryd.zero62 : (Tryd.prog.info? 62).map (fun i => (i.zero, i.size)) = some (some (.agg zst.toArray), 74) := by kernel_rfl
theorem Tryd.built62 : Tryd.prog.built 62 [(0, .agg (uv firstL).toArray)] = some fst_.toArray := by kernel_rfl

theorem wpList_build_eq {P : Program} {ops : Array Oper} {rest : List Oper} {o : Oper} {a : Act} {w : World} {Q : Exit → Act → World → Prop} (hgd : o.guard = none) (t : TypeId) (parts : Array (Nat × Operand)) (ho : o.op = .build t parts)
    (cells : Array Value) (hb : P.built t (parts.map fun (i, x) => (i, a.eval x)).toList = some cells) (h : wpList P ops Q rest (a.put o.dst (.agg cells)) w) : wpList P ops Q (o :: rest) a w :=
  wpList_build hgd t parts ho (by rw [hb]; rfl) (by rw [hb]; exact h)

def OfRel (w : World) (ss : List (List UInt8)) (x : Value) (wr : World) : Prop :=
  ∃ i : Nat, x = .int .i64 (i : Int) ∧ i ≤ ss.length ∧ St wr (w.heap.size + 1) (ss.take i).flatten ∧ (∃ z, z.length = 32 ∧ Blk wr w.heap.size 23 z) ∧ Below w.heap.size w wr

set_option maxHeartbeats 4000000 in
theorem of_any (w : World) (ao : Option Addr) (n cap b off : Nat) (ss : List (List UInt8)) (hT : Tabs w) (hn : ss.length = n) (hnn : n ≤ 100000) (hs : StrAt w w.heap.size ao b off ss) (hl : ∀ s ∈ ss, s.length ≤ 100000) :
    Calls Tryd.prog 22 #[.slice ao n cap] w fun e w' => e = .returned (.agg (bv (digest ss.flatten)).toArray) ∧ Below w.heap.size w w' := by
  have hz := (zero_of_info Tryd.zero62).1
  have HSF := Lib.hid (show (Tryd.prog.info? 59).map (·.size) = some (uv firstL).length from Tryd.size59)
  have hT1 : Tabs (w.alloc (.cells (Array.replicate 32 (.int .u8 0)) 23)) := hT.below ((Below.refl _ _).alloc hT.size _) (Nat.le_refl _)
  have HC1 := Lib.hid (show ∀ j v, (uv firstL)[j]? = some v → (w.alloc (.cells (Array.replicate 32 (.int .u8 0)) 23)).cell? ⟨0, 0 + j, none⟩ = some v from fun j v hj => by
    rw [uv, List.getElem?_map] at hj
    cases hx : firstL[j]? with
    | none => rw [hx] at hj; cases hj
    | some x => rw [hx] at hj; cases hj; rw [Nat.zero_add]; exact hT1.first j x hx)
  have hzb := Blk.new (w.alloc (.cells (Array.replicate 32 (.int .u8 0)) 23)) 62 zst.toArray
  simp only [World.size_alloc] at hzb
  have hrow := hzb.setRow fst_
  have hres := ((Blk.new w 23 (Array.replicate 32 (.int .u8 0))).alloc (.cells zst.toArray 62)).setRow_other fst_.toArray (show w.heap.size ≠ w.heap.size + 1 by omega)
  have hbel := below_setRow (((Below.refl w.heap.size w).alloc (Nat.le_refl _) (.cells (Array.replicate 32 (.int .u8 0)) 23)).alloc (by simp) (.cells zst.toArray 62)) (show w.heap.size ≤ w.heap.size + 1 by omega) fst_.toArray
  have HZB := Lib.hid hzb
  have HST := Lib.hid (show OfRel w ss (.int .i64 0) (((w.alloc (.cells (Array.replicate 32 (.int .u8 0)) 23)).alloc (.cells zst.toArray 62)).setRow (w.heap.size + 1) fst_.toArray) from
    ⟨0, rfl, Nat.zero_le _, ⟨firstL, List.replicate 64 0, hrow, StP.start _ rfl⟩, ⟨_, rfl, hres⟩, hbel⟩)
  have HS40 := Lib.hid (show (Tryd.prog.info? 62).map (·.size) = some fst_.length from (zero_of_info Tryd.zero62).2)
  have HL40 := Lib.hid (show 0 + fst_.length ≤ zst.length from Nat.le_refl _)
  have HO40 := Lib.hid (show ∀ v ∈ fst_, v.oneCell' = true from by decide +kernel)
  have HSP := Lib.hid (splice_all zst fst_ rfl)
  clear hzb hrow hres hbel
  have HT := Lib.hid hT
  have HN := Lib.hid hn
  have HS := Lib.hid hs
  have HL := Lib.hid hl
  clear hT hT1 hn hs hl
  go_enter Tryd.func22, Tryd.ntmps22
  go_wp2_with (first
    | ((with_reducible refine wpList_load_cells ?_ 59 (.global 0) ?_ 0 0 (uv firstL) ?_ 8 58 ?_ Tryd.underlying59 HSF.out ?_); rfl; rfl; rfl; exact HC1.out)
    | ((with_reducible refine wpList_build_eq ?_ 62 #[(0, .tmp 6)] ?_ fst_.toArray ?_ ?_); rfl; rfl; (simp only [List.map_toArray, List.map_cons, List.map_nil]; exact Tryd.built62))
    | ((with_reducible refine wpList_store_part ?_ 62 (.tmp 3) (.tmp 7) ?_ (w.heap.size + 1) 0 fst_ ?_ ?_ 62 zst ?_ HS40.out HL40.out HO40.out ?_); rfl; rfl; rfl; rfl; exact HZB.out; rw [HSP.out]; simp only [Act.put]))
  clear hz
  go_loopw [10] (fun x wr => OfRel w ss x wr) (fun x _ => n - intN x)
  case atStart => exact HST.out
  case round =>
    clear HST HZB HC1 HS40 HL40 HO40 HSP HSF
    obtain ⟨i, rfl, hi, hst, hres, hB⟩ := hrel
    by_cases hlt : i < n
    · have d0 : (i : Int) < (n : Int) := by omega
      have hsl : i < ss.length := by rw [HN.out]; exact hlt
      obtain ⟨s, hs⟩ : ∃ s, ss[i]? = some s := ⟨_, List.getElem?_eq_getElem hsl⟩
      obtain rfl := HS.out.addr (by omega)
      have q := (HS.out.keep hB).cells i s hs
      have hsm : s ∈ ss := List.mem_of_getElem? hs
      have HTK := Lib.hid (show (ss.take (i + 1)).flatten = (ss.take i).flatten ++ s by rw [List.take_add_one, hs]; simp)
      have HR := Lib.hid hres
      have HB := Lib.hid hB
      have HST := Lib.hid hst
      clear hres hB hst hs
      go_wp2_with fail
      refine (take_any wr (w.heap.size + 1) _ s (HT.out.below HB.out HT.out.size) (by have := HT.out.size; omega) HST.out (HL.out s hsm)).mono ?_
      rintro e w2 ⟨rfl, hs2, hk2⟩
      have HR2 := Lib.hid (show OfRel w ss (.int .i64 ((i : Int) + 1)) w2 from ⟨i + 1, by simp, hsl, by rw [HTK.out]; exact hs2, by
        obtain ⟨z, hz, hr⟩ := HR.out
        exact ⟨z, hz, hk2.blk hr (by omega)⟩, HB.out.trans (hk2.lower (by omega) HB.out.size)⟩)
      clear hs2 hk2
      go_wp2_with fail
      refine ⟨HR2.out, ?_⟩
      simp only [intN]
      omega
    · obtain rfl : i = n := by have := HN.out; omega
      have hfl : (ss.take i).flatten = ss.flatten := by rw [← HN.out, List.take_length]
      rw [hfl] at hst
      have HR := Lib.hid hres
      have HB := Lib.hid hB
      have HST := Lib.hid hst
      clear hres hB hst hfl
      go_wp2_with fail
      refine (finish_any wr (w.heap.size + 1) ss.flatten (HT.out.below HB.out HT.out.size) (by have := HT.out.size; omega) HST.out).mono ?_
      rintro e w2 ⟨rfl, hs2, hk2⟩
      obtain ⟨hh, blk, hs2⟩ := hs2
      have HS2 := Lib.hid hs2
      have HB2 := Lib.hid (HB.out.trans (hk2.lower (B := w.heap.size) (by omega) HB.out.size))
      have HR2 := Lib.hid (show ∃ z, z.length = 32 ∧ Blk w2 w.heap.size 23 z by
        obtain ⟨z, hz, hr⟩ := HR.out
        exact ⟨z, hz, hk2.blk hr (by omega)⟩)
      clear hs2 hk2 HR HB HST
      go_wp2_with fail
      refine (digest_any w2 (w.heap.size + 1) _ _ hh blk HS2.out.row HS2.out.ok.wlen).mono ?_
      rintro e w3 ⟨rfl, hb3⟩
      obtain ⟨z, hz, hr⟩ := HR2.out
      have hdg : hh.flatMap be4 = digest ss.flatten := by rw [digest, ← HS2.out.ok.words]
      rw [hdg]
      have hdl : (digest ss.flatten).length = 32 := by rw [← hdg, flat_length, HS2.out.ok.wlen]
      have hr3 := hr.below hb3 hr.lt
      have HR3 := Lib.hid hr3
      have HSZ := Lib.hid (show (Tryd.prog.info? 23).map (·.size) = some (bv (digest ss.flatten)).length by rw [bv_length, hdl]; exact Tryd.size23)
      have HL3 := Lib.hid (show 0 + (bv (digest ss.flatten)).length ≤ z.length by rw [bv_length]; omega)
      have HSP := Lib.hid (splice_all z (bv (digest ss.flatten)) (by rw [bv_length]; omega))
      have HR' := Lib.hid (hr3.setRow (bv (digest ss.flatten)))
      have HB' := Lib.hid (below_setRow (HB2.out.trans (hb3.mono HB2.out.size)) (Nat.le_refl w.heap.size) (bv (digest ss.flatten)).toArray)
      clear hr hr3 hz hb3 HR2 HS2 HB2 hdg hdl
      obtain ⟨D, hD⟩ : ∃ D, D = digest ss.flatten := ⟨_, rfl⟩
      rw [← hD] at HSZ HL3 HSP HR' HB' ⊢
      have HD := Lib.hid hD
      clear hD
      go_wp2_with ((with_reducible refine wpList_store_part ?_ 23 (.tmp 2) (.tmp 18) ?_ w.heap.size 0 (bv D) ?_ ?_ 23 z HR3.out HSZ.out HL3.out (bv_one _) ?_); rfl; rfl; rfl; rfl; rw [HSP.out])
      rw [← HD.out]
      refine bodyPost_ret (v := .agg (bv D).toArray) ?_ rfl ⟨rfl, HB'.out⟩
      exact results_cell_row rfl _ _ w.heap.size 23 _ (0, 0) (.array 32 5) rfl HR'.out Tryd.underlying23 rfl (by rw [List.size_toArray]; exact HSZ.out)
end Go.Proofs.YtickcajihaejkaaDoor
