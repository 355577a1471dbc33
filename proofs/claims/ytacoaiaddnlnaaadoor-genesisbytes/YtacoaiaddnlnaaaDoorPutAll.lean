/-
  What genesis.putAll answers.
-/
import Derived.Test.YtacoaiaddnlnaaaDoorGood
import Derived.Test.YtacoaiaddnlnaaaDoorPut
namespace Go.Proofs.YtacoaiaddnlnaaaDoor
open Go.RowKit

/-- A validator's bytes; those of a row. -/
def valB (v : (Int × ByteArray)) : List UInt8 := leB v.1.toNat 8 ++ (leB v.2.size 1 ++ v.2.data.toList)
def valsB (vs : List (Int × ByteArray)) : List UInt8 := vs.flatMap valB

theorem valsB_snoc (vs : List (Int × ByteArray)) (j : Nat) (v : (Int × ByteArray)) (h : vs[j]? = some v) : valsB (vs.take (j + 1)) = valsB (vs.take j) ++ valB v := by
  rw [List.take_add_one, h]
  simp [valsB]
theorem valB_length (v : (Int × ByteArray)) : (valB v).length = 9 + v.2.size := by
  simp only [valB, List.length_append, leB_length]
  have : v.2.data.toList.length = v.2.size := Array.length_toList
  omega
theorem valsB_length (vs : List (Int × ByteArray)) (h : ∀ v ∈ vs, can v = true) : (valsB vs).length ≤ vs.length * 41 := by
  induction vs with
  | nil => simp [valsB]
  | cons v r ih =>
    have h1 := h v List.mem_cons_self
    have h2 := ih fun x hx => h x (List.mem_cons_of_mem _ hx)
    have h3 := valB_length v
    simp only [can, Bool.and_eq_true, decide_eq_true_eq] at h1
    simp only [valsB, List.flatMap_cons, List.length_append, List.length_cons] at h2 ⊢
    omega

theorem Held.apart {w : World} {base : Nat} {v : Value} {xs : List Value} (h : Held w base v xs) (h0 : 0 < xs.length ∨ v = .slice none 0 0) : ∀ k, v.ownBlock = some k → k < w.heap.size := by
  obtain ⟨n, cap, g, off, ao, rfl, h⟩ := h
  intro k hk
  rcases h0 with h0 | h0
  · have hc : 0 < cap := by have := h.len; have := h.le; omega
    have := h.addr hc
    subst this
    simp [Value.ownBlock] at hk
    subst hk
    exact h.lt hc
  · cases h0
    simp [Value.ownBlock] at hk
theorem Blk.grew {w w' : World} {g : Nat} {t : TypeId} {vs : List Value} {v v' : Value} (h : Blk w g t vs) (hg : Grew w v w' v') (hne : v.ownBlock ≠ some g) : Blk w' g t vs :=
  (hg.grown.block g h.lt fun e => hne e.symm).trans h
theorem Grew.ne {w w' : World} {g : Nat} {v v' : Value} (hg : Grew w v w' v') (hne : v.ownBlock ≠ some g) (hlt : g < w.heap.size) : v'.ownBlock ≠ some g := by
  rcases hg.own with h | ⟨k, h, hk⟩
  · rw [h]; exact hne
  · rw [h]; intro e; cases e; omega
theorem byteCells_bv (k : ByteArray) : byteCells k = bv k.data.toList := rfl

theorem putU (x : Int) (h : 0 ≤ x) (h2 : x ≤ 9223372036854775807) : IntKind.u64.wrap x = ((x.toNat : Nat) : Int) := by rw [IntKind.wrap_u64]; omega

set_option maxHeartbeats 2000000 in
theorem putAll_any (w : World) (base : Nat) (v : Value) (bs : List UInt8) (ao : Option Addr) (len cap b off : Nat) (vs : List (Int × ByteArray)) (hl : vs.length = len) (hL : len ≤ 1000) (hst : Stakes vs) (hcan : ∀ v ∈ vs, can v = true)
    (hv : Held w base v (bv bs)) (h0 : 0 < bs.length) (hbs : bs.length ≤ 1000) (hbase : base ≤ w.heap.size) (hs : Lies w base ao b off (vc vs)) :
    Calls Tryd.prog 18 #[v, .slice ao len cap] w fun e w' => ∃ v', e = .returned v' ∧ Held w' base v' (bv (bs ++ valsB vs)) ∧ Below base w w' := by
  obtain ⟨i0, hi, hz0, hz1, hz2⟩ := info_parts Tryd.info5
  have HS := Lib.hid hs
  have HL := Lib.hid hl
  have HST := Lib.hid hst
  have HC := Lib.hid hcan
  have HV := Lib.hid hv
  clear hs hl hst hcan hv
  go_enter Tryd.func18, Tryd.ntmps18
  go_wp2_with fail
  go_loopw [0, 9] (fun u i wr => ∃ (j : Nat), j ≤ len ∧ i = .int .i64 j ∧ Hid (Held wr base u (bv (bs ++ valsB (vs.take j)))) ∧ Hid (Below base w wr)) (fun _ i _ => len - (intOf i).toNat)
  case atStart => exact ⟨0, Nat.zero_le _, rfl, Lib.hid (by simpa [valsB] using HV.out), Lib.hid (Below.refl _ _)⟩
  case round =>
    obtain ⟨j, hj, rfl, HH, HBel⟩ := hrel
    by_cases hlt : j < len
    · obtain ⟨y, hy⟩ : ∃ y, vs[j]? = some y := ⟨_, List.getElem?_eq_getElem (by rw [HL.out]; exact hlt)⟩
      have hr := HST.out y (List.mem_of_getElem? hy)
      have hcy := HC.out y (List.mem_of_getElem? hy)
      obtain ⟨d0, d1⟩ := vc_at vs j y hy
      have hp : 0 < (vc vs).length := by rw [vc_length, HL.out]; omega
      have ha := HS.out.addr hp
      have c0 := (HBel.out.cell (p := ⟨b, off + j * 2, none⟩) (HS.out.lt hp)).trans (HS.out.cells _ _ d0)
      have c1 := (HBel.out.cell (p := ⟨b, off + j * 2 + 1, none⟩) (HS.out.lt hp)).trans (HS.out.cells _ _ d1)
      have HSn := Lib.hid (valsB_snoc vs j y hy)
      have HTL := Lib.hid (Nat.le_trans (valsB_length (vs.take j) fun x hx => HC.out x (List.mem_of_mem_take hx)) (Nat.mul_le_mul_right 41 (show (vs.take j).length ≤ 1000 by rw [List.length_take]; omega)))
      obtain ⟨x, k⟩ := y
      simp only [can, Bool.and_eq_true, decide_eq_true_eq] at c0 c1 hr hcy
      obtain ⟨hx0, hk1, hk2⟩ := hcy
      subst ha
      clear hy d0 d1 hp
      obtain ⟨X, rfl⟩ : ∃ X : Nat, x = X := ⟨x.toNat, by omega⟩
      have hu1 : IntKind.u64.wrap (X : Int) = (X : Int) := by rw [IntKind.wrap_u64]; omega
      have hu2 : IntKind.u64.wrap (k.size : Int) = (k.size : Int) := by rw [IntKind.wrap_u64]; omega
      have HVB := Lib.hid (show valB ((X : Int), k) = leB X 8 ++ (leB k.size 1 ++ k.data.toList) by simp [valB])
      have zr := HBel.out.size
      have HL1 := Lib.hid (show (bs ++ valsB (vs.take j)).length ≤ 50000 by rw [List.length_append]; have := HTL.out; omega)
      have HH0 := Lib.hid (HH.out.alloc (.cells #[.int .i64 (X : Int), .string k] 34))
      have HK0 := Lib.hid (Blk.new wr 34 #[.int .i64 (X : Int), .string k])
      have HN0 := Lib.hid (show u0.ownBlock ≠ some wr.heap.size from fun e => Nat.lt_irrefl _ (HH.out.apart (.inl (by rw [bv_length, List.length_append]; omega)) _ e))
      have HB0 := Lib.hid (HBel.out.alloc (by omega) (.cells #[.int .i64 (X : Int), .string k] 34))
      obtain ⟨B, hBB⟩ : ∃ B, B = bs ++ valsB (vs.take j) := ⟨_, rfl⟩
      rw [← hBB] at HL1 HH0
      have HBB := Lib.hid hBB.symm
      clear hBB
      go_wp2_with fail
      refine (put_mid _ base u0 B X 8 (by omega) (by omega) HH0.out (by simp; omega) (by have := HL1.out; omega)).mono ?_
      rintro e w1 ⟨v1, rfl, hh1, hg1⟩
      have HK1 := Lib.hid (HK0.out.grew hg1 HN0.out)
      have HB1 := Lib.hid (HB0.out.trans (hg1.below HH0.out (Nat.le_trans hbase HB0.out.size)))
      have HH1 := Lib.hid hh1
      have HL2 := Lib.hid (show (B ++ leB X 8).length ≤ 50008 by rw [List.length_append, leB_length]; have := HL1.out; omega)
      have c2 := HK1.out.cell 1
      simp only [List.getElem?_cons_zero, List.getElem?_cons_succ] at c2
      have HN1 := Lib.hid (hg1.ne HN0.out (show wr.heap.size < _ by simp))
      generalize wr.heap.size = A at HK1 HN1 c2 ⊢
      clear hh1 hg1 HH0 HK0 HN0 HB0 c0 c1
      go_wp2_with fail
      refine (put_mid _ base v1 (B ++ leB X 8) k.size 1 (by omega) (by omega) HH1.out (Nat.le_trans hbase HB1.out.size) (by have := HL2.out; omega)).mono ?_
      rintro e w2 ⟨v2, rfl, hh2, hg2⟩
      have HK2 := Lib.hid (HK1.out.grew hg2 HN1.out)
      have HB2 := Lib.hid (HB1.out.trans (hg2.below HH1.out (Nat.le_trans hbase HB1.out.size)))
      have HH2 := Lib.hid hh2
      have c3 := HK2.out.cell 1
      simp only [List.getElem?_cons_zero, List.getElem?_cons_succ] at c3
      have HL3 := Lib.hid (show (bv (B ++ leB X 8 ++ leB k.size 1)).length ≤ 50009 by rw [bv_length, List.length_append, leB_length]; have := HL2.out; omega)
      clear hh2 hg2 HH1 HK1 HN1 c2
      go_wp2_with (at_builtin; refine wpList_append_held rfl _ _ 40 9 rfl rfl HH2.out 5 i0 (.int .u8 0) 1 Tryd.underlying40 hi hz0 hz1 hz2 rfl _ rfl k.size (byteCells k) (Src.ofString _ Tryd.underlying9 k) ?c2 ?c3 (Nat.le_trans hbase HB2.out.size) ?_)
      case c2 => unfold maxLen; have := HL3.out; omega
      case c3 => have := HL3.out; omega
      · intro v3 w3 hh3 hg3
        have HB3 := Lib.hid (HB2.out.trans (hg3.below HH2.out (Nat.le_trans hbase HB2.out.size)))
        rw [byteCells_bv, ← bv_append] at hh3
        have HH3 := Lib.hid hh3
        clear hh3 hg3 HH2 c3
        go_wp2_with fail
        go_roundw
        case rel => exact ⟨j + 1, by omega, by go_num, Lib.hid (by rw [HSn.out, HVB.out, ← List.append_assoc, HBB.out]; simpa [List.append_assoc] using HH3.out), HB3⟩
        case measure => simp [intOf]; omega
    · have hjl : j = len := by omega
      have HR := Lib.hid (show vs.take j = vs by rw [hjl, ← HL.out, List.take_length])
      clear hjl
      go_wp2_with fail
      go_ret
      rw [HR.out] at HH
      exact ⟨_, rfl, HH.out, HBel.out⟩
end Go.Proofs.YtacoaiaddnlnaaaDoor
