/-
  What mix answers.
-/
import Derived.Test.YtnbdpalbompjlaaDoorSpread
namespace Go.Proofs.YtnbdpalbompjlaaDoor
open Go.RowKit
set_option maxRecDepth 10000

def firstL : List Nat := [1779033703, 3144134277, 1013904242, 2773480762, 1359893119, 2600822924, 528734635, 1541459225]
def addedL : List Nat := [1116352408, 1899447441, 3049323471, 3921009573, 961987163, 1508970993, 2453635748, 2870763221, 3624381080, 310598401, 607225278, 1426881987, 1925078388, 2162078206, 2614888103, 3248222580, 3835390401, 4022224774, 264347078, 604807628, 770255983, 1249150122, 1555081692, 1996064986, 2554220882, 2821834349, 2952996808, 3210313671, 3336571891, 3584528711, 113926993, 338241895, 666307205, 773529912, 1294757372, 1396182291, 1695183700, 1986661051, 2177026350, 2456956037, 2730485921, 2820302411, 3259730800, 3345764771, 3516065817, 3600352804, 4094571909, 275423344, 430227734, 506948616, 659060556, 883997877, 958139571, 1322822218, 1537002063, 1747873779, 1955562222, 2024104815, 2227730452, 2361852424, 2428436474, 2756734187, 3204031479, 3329325298]

/-- What the two tables of the program hold. -/
structure Tabs (w : World) : Prop where
  size : 2 ≤ w.heap.size
  first : ∀ (i x : Nat), firstL[i]? = some x → w.cell? ⟨0, i, none⟩ = some (.int .u32 (x : Int))
  added : ∀ (i x : Nat), addedL[i]? = some x → w.cell? ⟨1, i, none⟩ = some (.int .u32 (x : Int))

theorem Tabs.below {w w' : World} {B : Nat} (h : Tabs w) (hb : Below B w w') (hB : 2 ≤ B) : Tabs w' :=
  ⟨Nat.le_trans h.size hb.size, fun i x hx => (hb.cell (p := ⟨0, i, none⟩) (by show 0 < B; omega)).trans (h.first i x hx), fun i x hx => (hb.cell (p := ⟨1, i, none⟩) (by show 1 < B; omega)).trans (h.added i x hx)⟩

/-- One round. -/
def rnd : List Nat → Nat → Nat → List Nat
  | [a, b, c, d, e, f, g, h], k, w =>
    let t := addw (addw (addw (addw h (great e 6 11 25)) (choice e f g)) k) w
    let u := addw (great a 2 13 22) (majority a b c)
    [addw t u, a, b, c, addw d t, e, f, g]
  | v, _, _ => v

def mixN (v ws : List Nat) : Nat → List Nat
  | 0 => v
  | i + 1 => rnd (mixN v ws i) (addedL.getD i 0) (ws.getD i 0)

def mixed (v ws : List Nat) : List Nat := List.zipWith addw v (mixN v ws 64)

theorem rnd_length (v : List Nat) (k w : Nat) (h : v.length = 8) : (rnd v k w).length = 8 := by
  match v, h with
  | [a, b, c, d, e, f, g, h], _ => rfl
theorem mixN_length (v ws : List Nat) (h : v.length = 8) : ∀ i, (mixN v ws i).length = 8
  | 0 => h
  | i + 1 => rnd_length _ _ _ (mixN_length v ws h i)
theorem mixed_length (v ws : List Nat) (h : v.length = 8) : (mixed v ws).length = 8 := by simp [mixed, mixN_length v ws h, h]

theorem getD_some {α : Type} (l : List α) (i : Nat) {x : α} (h : i < l.length) : l[i]? = some (l.getD i x) := by
  simp [h]

/-- What the blocks hold in a round. -/
structure MixIn (w : World) (v ws l : List Nat) (wr : World) : Prop where
  h5 : Blk wr (w.heap.size + 1 + 1 + 1) 93 (uv l)
  h2 : Blk wr w.heap.size 93 (uv v)
  h3 : Blk wr (w.heap.size + 1) 97 (uv ws)
  h4 : ∃ z, z.length = 8 ∧ Blk wr (w.heap.size + 1 + 1) 93 z
  hB : Below w.heap.size w wr

theorem MixIn.drewN {w : World} {v ws l : List Nat} {wr : World} (h : MixIn w v ws l wr) (k : Nat) : MixIn w v ws l (wr.drewN k) :=
  ⟨h.h5.drewN k, h.h2.drewN k, h.h3.drewN k, h.h4, below_drewN' h.hB k⟩
theorem MixIn.set {w : World} {v ws l : List Nat} {wr : World} (h : MixIn w v ws l wr) (j x : Nat) : MixIn w v ws (l.set j x) (wr.setCell ⟨w.heap.size + 1 + 1 + 1, j, none⟩ (.int .u32 (x : Int))) :=
  ⟨by rw [← uv_set]; exact h.h5.set j _, h.h2.other _ _ (by simp; omega), h.h3.other _ _ (by simp), by
    obtain ⟨z, hz, h4⟩ := h.h4
    exact ⟨z, hz, h4.other _ _ (by simp)⟩, h.hB.setCell (by simp; omega) _⟩
theorem MixIn.row {w : World} {v ws l : List Nat} {wr w' : World} (h : MixIn w v ws l wr) (l' : List Nat) (hg : Blk w' (w.heap.size + 1 + 1 + 1) 93 (uv l')) (hb : Below (w.heap.size + 1 + 1 + 1) wr w') : MixIn w v ws l' w' :=
  ⟨hg, h.h2.below hb (by omega), h.h3.below hb (by omega), by
    obtain ⟨z, hz, h4⟩ := h.h4
    exact ⟨z, hz, h4.below hb (by omega)⟩, h.hB.trans (hb.mono (by omega))⟩

def MixRel (w : World) (v ws : List Nat) (x : Value) (wr : World) : Prop :=
  ∃ (i a b c d e f g h : Nat), x = .int .i64 (i : Int) ∧ i ≤ 64 ∧ mixN v ws i = [a, b, c, d, e, f, g, h] ∧ MixIn w v ws [a, b, c, d, e, f, g, h] wr

theorem Tryd.size92 : (Tryd.prog.info? 92).map (·.size) = some 1 := by kernel_rfl
theorem Tryd.size93 : (Tryd.prog.info? 93).map (·.size) = some 8 := by kernel_rfl

theorem mix_round {w wr : World} {v ws : List Nat} {i a b c d e f g h k y t u : Nat} (hi : i < 64) (hm : mixN v ws (i + 1) = rnd [a, b, c, d, e, f, g, h] k y) (ht : t = addw (addw (addw (addw h (great e 6 11 25)) (choice e f g)) k) y) (hu : u = addw (great a 2 13 22) (majority a b c))
    (hR : MixIn w v ws [a, a, b, c, d, e, f, g] wr) :
    MixRel w v ws (.int .i64 ((i : Int) + 1)) ((wr.setCell ⟨w.heap.size + 1 + 1 + 1, 4, none⟩ (.int .u32 ((addw d t : Nat) : Int))).setCell ⟨w.heap.size + 1 + 1 + 1, 0, none⟩ (.int .u32 ((addw t u : Nat) : Int))) :=
  ⟨i + 1, addw t u, a, b, c, addw d t, e, f, g, by simp, by omega, by rw [hm, ht, hu]; rfl, (hR.set 4 (addw d t)).set 0 (addw t u)⟩

/-- The sums of the first i. -/
def addUp (v m : List Nat) (i : Nat) : List Nat := (List.zipWith addw v m).take i ++ v.drop i
theorem addUp_zero (v m : List Nat) : addUp v m 0 = v := by simp [addUp]
theorem addUp_all (v m : List Nat) (hv : v.length = 8) (hm : m.length = 8) : addUp v m 8 = List.zipWith addw v m := by
  rw [addUp, List.take_of_length_le (by simp [hv, hm]), List.drop_of_length_le (by omega), List.append_nil]
theorem addUp_at (v m : List Nat) (i : Nat) (hv : v.length = 8) (hm : m.length = 8) (hi : i < 8) : (addUp v m i)[i]? = some (v.getD i 0) := by
  have hl : ((List.zipWith addw v m).take i).length = i := by simp [hv, hm]; omega
  rw [addUp, List.getElem?_append_right (by omega), hl, Nat.sub_self, List.getElem?_drop, Nat.add_zero]
  exact getD_some v i (by omega)
theorem addUp_set (v m : List Nat) (i : Nat) (hv : v.length = 8) (hm : m.length = 8) (hi : i < 8) : (addUp v m i).set i (addw (v.getD i 0) (m.getD i 0)) = addUp v m (i + 1) := by
  have hl : ((List.zipWith addw v m).take i).length = i := by simp [hv, hm]; omega
  have hz : (List.zipWith addw v m)[i]? = some (addw (v.getD i 0) (m.getD i 0)) := by
    rw [List.getElem?_zipWith, getD_some v i (x := 0) (by omega), getD_some m i (x := 0) (by omega)]
  rw [addUp, addUp, List.set_append_right _ _ (by omega), hl, Nat.sub_self, List.drop_eq_getElem_cons (by omega), List.set_cons_zero, List.take_add_one, hz]
  simp

structure AddIn (w : World) (v m : List Nat) (i : Nat) (wr : World) : Prop where
  h5 : Blk wr (w.heap.size + 1 + 1 + 1) 93 (uv m)
  h2 : Blk wr w.heap.size 93 (uv (addUp v m i))
  h4 : ∃ z, z.length = 8 ∧ Blk wr (w.heap.size + 1 + 1) 93 z
  hB : Below w.heap.size w wr

theorem AddIn.drewN {w : World} {v m : List Nat} {i : Nat} {wr : World} (h : AddIn w v m i wr) (k : Nat) : AddIn w v m i (wr.drewN k) :=
  ⟨h.h5.drewN k, h.h2.drewN k, h.h4, below_drewN' h.hB k⟩
theorem AddIn.next {w : World} {v m : List Nat} {i x y : Nat} {wr : World} (h : AddIn w v m i wr) (hi : i < 8) (hv : v.length = 8) (hm : m.length = 8) (hx : x = v.getD i 0) (hy : y = m.getD i 0) :
    AddIn w v m (i + 1) (wr.setCell ⟨w.heap.size, i, none⟩ (.int .u32 ((addw x y : Nat) : Int))) :=
  ⟨h.h5.other _ _ (by simp; omega), by rw [← addUp_set v m i hv hm hi, ← uv_set, hx, hy]; exact h.h2.set i _, by
    obtain ⟨z, hz, h4⟩ := h.h4
    exact ⟨z, hz, h4.other _ _ (by simp; omega)⟩, h.hB.setCell (by simp) _⟩

def AddRel (w : World) (v m : List Nat) (x : Value) (wr : World) : Prop := ∃ i : Nat, x = .int .i64 (i : Int) ∧ i ≤ 8 ∧ AddIn w v m i wr

set_option maxHeartbeats 4000000 in
theorem mix_any (w : World) (a0 a1 a2 a3 a4 a5 a6 a7 : Nat) (ws : List Nat) (hT : Tabs w) (hws : ws.length = 64) :
    Calls Tryd.prog 78 #[.agg #[.int .u32 a0, .int .u32 a1, .int .u32 a2, .int .u32 a3, .int .u32 a4, .int .u32 a5, .int .u32 a6, .int .u32 a7], .agg (uv ws).toArray] w fun e w' => e = .returned (.agg (uv (mixed [a0, a1, a2, a3, a4, a5, a6, a7] ws)).toArray) ∧ Below w.heap.size w w' := by
  have HT := Lib.hid hT
  have HW := Lib.hid hws
  clear hT hws
  obtain ⟨v, hv⟩ : ∃ v, v = [a0, a1, a2, a3, a4, a5, a6, a7] := ⟨_, rfl⟩
  rw [← hv]
  have HV := Lib.hid hv
  clear hv
  go_enter Tryd.func78, Tryd.ntmps78
  go_wp2_with fail
  go_loopw [11] (fun x wr => MixRel w v ws x wr) (fun x _ => 64 - intN x)
  case atStart =>
    have hv := HV.out
    subst hv
    refine ⟨0, a0, a1, a2, a3, a4, a5, a6, a7, rfl, by omega, rfl, ?_, (((Blk.new w 93 _).alloc _).alloc _).alloc _, ?_, ⟨Array.toList (Array.replicate 8 (.int .u32 0)), ?_, ?_⟩, ((((Below.refl _ _).alloc (Nat.le_refl _) _).alloc (by simp) _).alloc (by simp; omega) _).alloc (by simp; omega) _⟩
    · have h := Blk.new (((w.alloc (.cells (uv [a0, a1, a2, a3, a4, a5, a6, a7]).toArray 93)).alloc (.cells (uv ws).toArray 97)).alloc (.cells (Array.replicate 8 (.int .u32 0)) 93)) 93 (uv [a0, a1, a2, a3, a4, a5, a6, a7]).toArray
      simp only [World.size_alloc] at h
      exact h
    · have h := ((Blk.new (w.alloc (.cells (uv [a0, a1, a2, a3, a4, a5, a6, a7]).toArray 93)) 97 (uv ws).toArray).alloc (.cells (Array.replicate 8 (.int .u32 0)) 93)).alloc (.cells (uv [a0, a1, a2, a3, a4, a5, a6, a7]).toArray 93)
      simp only [World.size_alloc] at h
      exact h
    · rfl
    · have h := (Blk.new ((w.alloc (.cells (uv [a0, a1, a2, a3, a4, a5, a6, a7]).toArray 93)).alloc (.cells (uv ws).toArray 97)) 93 (Array.replicate 8 (.int .u32 0))).alloc (.cells (uv [a0, a1, a2, a3, a4, a5, a6, a7]).toArray 93)
      simp only [World.size_alloc] at h
      exact h
  case round =>
    obtain ⟨i, a, b, c, d, e, f, g, h, rfl, hi, hm, hR⟩ := hrel
    by_cases hlt : i < 64
    · have d0 : (i : Int) < 64 := by omega
      have q0 : wr.cell? ⟨w.heap.size + 1 + 1 + 1, 0, none⟩ = some (.int .u32 (a : Int)) := hR.h5.cell 0
      have q1 : wr.cell? ⟨w.heap.size + 1 + 1 + 1, 1, none⟩ = some (.int .u32 (b : Int)) := hR.h5.cell 1
      have q2 : wr.cell? ⟨w.heap.size + 1 + 1 + 1, 2, none⟩ = some (.int .u32 (c : Int)) := hR.h5.cell 2
      have q4 : wr.cell? ⟨w.heap.size + 1 + 1 + 1, 4, none⟩ = some (.int .u32 (e : Int)) := hR.h5.cell 4
      have q5 : wr.cell? ⟨w.heap.size + 1 + 1 + 1, 5, none⟩ = some (.int .u32 (f : Int)) := hR.h5.cell 5
      have q6 : wr.cell? ⟨w.heap.size + 1 + 1 + 1, 6, none⟩ = some (.int .u32 (g : Int)) := hR.h5.cell 6
      have q7 : wr.cell? ⟨w.heap.size + 1 + 1 + 1, 7, none⟩ = some (.int .u32 (h : Int)) := hR.h5.cell 7
      obtain ⟨k, hk⟩ : ∃ k, k = addedL.getD i 0 := ⟨_, rfl⟩
      obtain ⟨y, hy⟩ : ∃ y, y = ws.getD i 0 := ⟨_, rfl⟩
      have qk : wr.cell? ⟨1, i, none⟩ = some (.int .u32 (k : Int)) := by
        rw [hk]
        exact (HT.out.below hR.hB (HT.out.size)).added i _ (getD_some addedL i (by show i < 64; exact hlt))
      have qy : wr.cell? ⟨w.heap.size + 1, i, none⟩ = some (.int .u32 (y : Int)) := by
        rw [hy, hR.h3.cell]
        exact uv_at (getD_some ws i (by rw [HW.out]; exact hlt))
      have r1 := rule_add
      have HR := Lib.hid hR
      have HM := Lib.hid (show mixN v ws (i + 1) = rnd [a, b, c, d, e, f, g, h] k y by rw [mixN, hm, hk, hy])
      clear hm hk hy hR
      go_wp2_with fail
      go_quiet (first | (go_at_call 95; refine Calls.quiet_of_same (great_e _ e)) | (go_at_call 96; refine Calls.quiet_of_same (choice_any _ e f g)))
      have hR2 := HR.out.drewN nq
      generalize wr.drewN nq = w2 at hR2 ⊢
      clear HR qk qy q0 q1 q2 q4 q5 q6 q7
      have q0 : w2.cell? ⟨w.heap.size + 1 + 1 + 1, 0, none⟩ = some (.int .u32 (a : Int)) := hR2.h5.cell 0
      have q1 : w2.cell? ⟨w.heap.size + 1 + 1 + 1, 1, none⟩ = some (.int .u32 (b : Int)) := hR2.h5.cell 1
      have q2 : w2.cell? ⟨w.heap.size + 1 + 1 + 1, 2, none⟩ = some (.int .u32 (c : Int)) := hR2.h5.cell 2
      have HR2 := Lib.hid hR2
      clear hR2
      go_wp2_with fail
      go_quiet (first | (go_at_call 95; refine Calls.quiet_of_same (great_a _ a)) | (go_at_call 97; refine Calls.quiet_of_same (majority_any _ a b c)))
      have hR3 := HR2.out.drewN nq
      generalize w2.drewN nq = w3 at hR3 ⊢
      clear HR2 q0 q1 q2
      have HR3 := Lib.hid hR3
      clear hR3
      go_wp2_with fail
      refine wp_region_draws_tail 2 (by kernel_rfl) (by kernel_rfl) ?_
      simp only [List.take_succ_cons, List.take_zero, List.drop_succ_cons, List.drop_zero]
      repeat (go_big_quiet_step (fail))
      refine wpQuiet_nil ?_
      rintro _ ⟨nq, rfl⟩
      have hR4 := HR3.out.drewN nq
      generalize w3.drewN nq = w4 at hR4 ⊢
      refine wpList_copy_splice rfl (.tmp 47) (.tmp 48) 140 140 rfl 92 Tryd.underlying140 Tryd.size92 _ _ 7 7 7 8 rfl rfl (w.heap.size + 1 + 1 + 1) 1 (uv [a, b, c, d, e, f, g, h]) 93 hR4.h5 (uv [a, b, c, d, e, f, g]) rfl (fun _ => ⟨rfl, ⟨w.heap.size + 1 + 1 + 1, 0, none⟩, rfl, ?_⟩) (by simp [uv_length]) (uv_one _) (w.heap.size + 1 + 1 + 1) w4 (Below.refl _ _) (Nat.le_refl _) ?_
      · intro j x hj
        rw [Addr.add_lit, Nat.zero_add, hR4.h5.cell, ← hj, show uv [a, b, c, d, e, f, g, h] = uv [a, b, c, d, e, f, g] ++ [.int .u32 (h : Int)] from rfl]
        exact List.getElem?_append_left (List.getElem?_eq_some_iff.1 hj).1
      intro w5 HG5 hB5
      have hR5 := hR4.row [a, a, b, c, d, e, f, g] HG5.out hB5
      clear HG5 hB5 hR4 HR3
      obtain ⟨t, ht⟩ : ∃ t, t = addw (addw (addw (addw h (great e 6 11 25)) (choice e f g)) k) y := ⟨_, rfl⟩
      obtain ⟨u, hu⟩ : ∃ u, u = addw (great a 2 13 22) (majority a b c) := ⟨_, rfl⟩
      rw [← ht, ← hu]
      have HTT := Lib.hid ht
      have HUU := Lib.hid hu
      clear ht hu
      have q4 : w5.cell? ⟨w.heap.size + 1 + 1 + 1, 4, none⟩ = some (.int .u32 (d : Int)) := hR5.h5.cell 4
      have q0 : w5.cell? ⟨w.heap.size + 1 + 1 + 1, 0, none⟩ = some (.int .u32 (a : Int)) := hR5.h5.cell 0
      have f4 := hR5.h5.free 4
      have f0 := hR5.h5.free 0
      have HR5 := Lib.hid hR5
      clear hR5
      go_wp2_with fail
      refine ⟨mix_round hlt HM.out HTT.out HUU.out HR5.out, ?_⟩
      simp only [intN]
      omega
    · obtain rfl : i = 64 := by omega
      obtain ⟨m, hmm⟩ : ∃ m, m = mixN v ws 64 := ⟨_, rfl⟩
      have hvl : v.length = 8 := by rw [HV.out]; rfl
      have hml : m.length = 8 := by rw [hmm]; exact mixN_length v ws hvl 64
      have hR' : AddIn w v m 0 wr := ⟨by rw [hmm, hm]; exact hR.h5, by rw [addUp_zero]; exact hR.h2, hR.h4, hR.hB⟩
      have HMX := Lib.hid (show mixed v ws = addUp v m 8 by rw [mixed, ← hmm, addUp_all v m hvl hml])
      have HVL := Lib.hid hvl
      have HML := Lib.hid hml
      have HR := Lib.hid hR'
      clear hR hR' hm hmm hvl hml hlt hi
      go_wp2_with fail
      go_loopw [60] (fun x wr => AddRel w v m x wr) (fun x _ => 8 - intN x)
      case atStart => exact ⟨0, rfl, by omega, HR.out⟩
      case round =>
        clear HR
        obtain ⟨i, rfl, hi, hR⟩ := hrel
        by_cases hlt : i < 8
        · have d0 : (i : Int) < 8 := by omega
          obtain ⟨x, hx⟩ : ∃ x, x = v.getD i 0 := ⟨_, rfl⟩
          obtain ⟨y, hy⟩ : ∃ y, y = m.getD i 0 := ⟨_, rfl⟩
          have q2 : wr.cell? ⟨w.heap.size, i, none⟩ = some (.int .u32 (x : Int)) := by rw [hR.h2.cell, hx]; exact uv_at (addUp_at v m i HVL.out HML.out hlt)
          have q5 : wr.cell? ⟨w.heap.size + 1 + 1 + 1, i, none⟩ = some (.int .u32 (y : Int)) := by rw [hR.h5.cell, hy]; exact uv_at (getD_some m i (by rw [HML.out]; exact hlt))
          have f2 := hR.h2.free i
          have r1 := rule_add
          have HR := Lib.hid hR
          have HX := Lib.hid hx
          have HY := Lib.hid hy
          clear hR hx hy
          go_wp2_with fail
          refine wp_region_draws_tail 8 (by kernel_rfl) (by kernel_rfl) ?_
          simp only [List.take_succ_cons, List.take_zero, List.drop_succ_cons, List.drop_zero]
          repeat (go_big_quiet_step (fail))
          refine wpQuiet_nil ?_
          rintro _ ⟨nq, rfl⟩
          go_wp2_with fail
          refine ⟨⟨i + 1, by simp, by omega, (HR.out.drewN nq).next hlt HVL.out HML.out HX.out HY.out⟩, ?_⟩
          simp only [intN]
          omega
        · obtain rfl : i = 8 := by omega
          obtain ⟨z, hz, h4⟩ := hR.h4
          have hul : (uv (addUp v m 8)).length = 8 := by rw [uv_length, addUp_all v m HVL.out HML.out]; simp [HVL.out, HML.out]
          have HC := Lib.hid hR.h2.cells
          have HR4 := Lib.hid h4
          have HSZ := Lib.hid (show (Tryd.prog.info? 93).map (·.size) = some (uv (addUp v m 8)).length by rw [hul]; exact Tryd.size93)
          have HL := Lib.hid (show 0 + (uv (addUp v m 8)).length ≤ z.length by omega)
          have HS := Lib.hid (splice_all z (uv (addUp v m 8)) (by omega))
          have HR' := Lib.hid (h4.setRow (uv (addUp v m 8)))
          have HB' := Lib.hid (below_setRow hR.hB (show w.heap.size ≤ w.heap.size + 1 + 1 by omega) (uv (addUp v m 8)).toArray)
          clear hR h4 hz hul
          go_wp2_with (first
            | ((with_reducible refine wpList_load_cells ?_ 93 (.tmp 2) ?_ _ 0 _ ?_ 8 92 HC.out Tryd.underlying93 HSZ.out ?_); rfl; rfl; rfl)
            | ((with_reducible refine wpList_store_part ?_ 93 (.tmp 4) (.tmp 72) ?_ (w.heap.size + 1 + 1) 0 (uv (addUp v m 8)) ?_ ?_ 93 _ HR4.out HSZ.out HL.out (uv_one _) ?_); rfl; rfl; rfl; rfl; rw [HS.out]))
          rw [HMX.out]
          refine bodyPost_ret (v := .agg (uv (addUp v m 8)).toArray) ?_ rfl ⟨rfl, HB'.out⟩
          exact results_cell_row rfl _ _ (w.heap.size + 1 + 1) 93 _ (0, 0) (.array 8 92) rfl HR'.out Tryd.underlying93 rfl (by rw [List.size_toArray]; exact HSZ.out)
end Go.Proofs.YtnbdpalbompjlaaDoor
