/-
  What the reference's Of answers.
-/
import Derived.Test.YtnbdpalbompjlaaDoorRefBlock
import Derived.Test.YtnbdpalbompjlaaDoorM6
namespace Go.Proofs.YtnbdpalbompjlaaDoor
open Go.RowKit
set_option maxRecDepth 10000

def gapS : Value → Nat
  | .string s => (56 + 64 - s.size % 64) % 64
  | _ => 0

def pre (l : List UInt8) (j : Nat) : List UInt8 := l ++ ([128] ++ List.replicate j 0)
theorem pre_length (l : List UInt8) (j : Nat) : (pre l j).length = l.length + 1 + j := by simp [pre]; omega

def R1 (w : World) (l : List UInt8) (v : Value) (wr : World) : Prop := ∃ j : Nat, j ≤ padN l.length ∧ v = .string ⟨(pre l j).toArray⟩ ∧ wr = w
def R2 (w : World) (l : List UInt8) (cnt : Nat) (v x : Value) (wr : World) : Prop :=
  ∃ k : Nat, k ≤ 8 ∧ x = .int .i64 ((k : Int) - 1) ∧ v = .string ⟨(pre l (padN l.length) ++ (be8 cnt).take (8 - k)).toArray⟩ ∧ Below w.heap.size w wr

theorem be8_at (x k : Nat) (hk : k < 8) : (be8 x)[7 - k]? = some (UInt8.ofNat (x / 2 ^ (8 * k))) := by
  match k, hk with
  | 0, _ => simp [be8, be4]
  | 1, _ => simp [be8, be4]
  | 2, _ => simp [be8, be4]
  | 3, _ => simp [be8, be4]
  | 4, _ => simp [be8, be4]
  | 5, _ => simp [be8, be4, Nat.div_div_eq_div_mul]
  | 6, _ => simp [be8, be4, Nat.div_div_eq_div_mul]
  | 7, _ => simp [be8, be4, Nat.div_div_eq_div_mul]

/-- The first i cells are filled. -/
def fill (l : List Nat) (n i : Nat) : List Nat := l.take i ++ List.replicate (n - i) 0
theorem fill_at (l : List Nat) (n i : Nat) (hl : l.length = n) (hi : i < n) : (fill l n i)[i]? = some 0 := by
  have h : (l.take i).length = i := by rw [List.length_take]; omega
  rw [fill, List.getElem?_append_right (by omega), h, Nat.sub_self, List.getElem?_replicate, if_pos (by omega)]
theorem fill_next (l : List Nat) (n i x : Nat) (hl : l.length = n) (hi : i < n) (hx : l[i]? = some x) : (fill l n i).set i x = fill l n (i + 1) := by
  have h : (l.take i).length = i := by rw [List.length_take]; omega
  rw [fill, fill, List.set_append_right _ _ (by omega), h, Nat.sub_self, show n - i = (n - (i + 1)) + 1 by omega, List.replicate_succ, List.set_cons_zero, List.take_add_one, hx]
  simp
theorem fill_all (l : List Nat) (n : Nat) (hl : l.length = n) : fill l n n = l := by rw [fill, List.take_of_length_le (by omega)]; simp

theorem root2_any (w : World) (p : Nat) : Calls Tryd.prog 59 #[.int .u64 p, .int .i64 2] w fun e w' => e = .returned (.int .u32 (rootN above2 p)) ∧ w' = w := root_any above2 2 (fun w x p => above2_any w x p) w p
theorem root3_any (w : World) (p : Nat) : Calls Tryd.prog 59 #[.int .u64 p, .int .i64 3] w fun e w' => e = .returned (.int .u32 (rootN above3 p)) ∧ w' = w := root_any above3 3 (fun w x p => above3_any w x p) w p

/-- What must stay: the result's block, and all below. -/
structure OC (w wr : World) : Prop where
  res : ∃ z, z.length = 32 ∧ Blk wr w.heap.size 26 z
  hB : Below w.heap.size w wr
theorem OC.below {w wr w' : World} (h : OC w wr) (hb : Below wr.heap.size wr w') : OC w w' :=
  ⟨by
    obtain ⟨z, hz, hr⟩ := h.res
    exact ⟨z, hz, hr.below hb hr.lt⟩, h.hB.trans (hb.mono h.hB.size)⟩
theorem OC.lt {w wr : World} (h : OC w wr) : w.heap.size < wr.heap.size := by
  obtain ⟨z, hz, hr⟩ := h.res
  exact hr.lt
theorem OC.setCell {w wr : World} (h : OC w wr) (g j : Nat) (v : Value) (hg : w.heap.size < g) : OC w (wr.setCell ⟨g, j, none⟩ v) :=
  ⟨by
    obtain ⟨z, hz, hr⟩ := h.res
    exact ⟨z, hz, hr.other _ _ (by simp; omega)⟩, h.hB.setCell (by simp; omega) _⟩
theorem OC.setRow {w wr : World} (h : OC w wr) (g : Nat) (cs : Array Value) (hg : w.heap.size < g) : OC w (wr.setRow g cs) :=
  ⟨by
    obtain ⟨z, hz, hr⟩ := h.res
    exact ⟨z, hz, hr.setRow_other cs (by omega)⟩, below_setRow h.hB (by omega) cs⟩

theorem Held.setLow {w : World} {base g j : Nat} {v u : Value} {xs : List Value} (h : Held w base v xs) (hg : g < base) : Held (w.setCell ⟨g, j, none⟩ u) base v xs := by
  obtain ⟨n, cap, b, off, ao, rfl, h⟩ := h
  refine ⟨n, cap, b, off, ao, rfl, h.carry (by simp [World.setCell]) fun hc => heap_setCell_other w _ b u ?_⟩
  have := h.own _ (h.addr hc)
  simp at this ⊢
  omega

def R3 (w : World) (g : Nat) (v x : Value) (wr : World) : Prop := ∃ i : Nat, x = .int .i64 (i : Int) ∧ i ≤ 8 ∧ Blk wr g 93 (uv (fill firstL 8 i)) ∧ Held wr (g + 1) v (qv (prL 20)) ∧ OC w wr
def R4 (w : World) (g6 g : Nat) (v x : Value) (wr : World) : Prop := ∃ i : Nat, x = .int .i64 (i : Int) ∧ i ≤ 64 ∧ Blk wr g 97 (uv (fill addedL 64 i)) ∧ Held wr (g + 1) v (qv (prL 312)) ∧ Blk wr g6 93 (uv firstL) ∧ OC w wr

def R5 (w : World) (g6 g9 : Nat) (T : List UInt8) (nb : Nat) (x : Value) (wr : World) : Prop := ∃ q : Nat, x = .int .i64 ((64 * q : Nat) : Int) ∧ q ≤ nb ∧ Blk wr g6 93 (uv (runN firstL T q)) ∧ Blk wr g9 97 (uv addedL) ∧ OC w wr

theorem block_list (w : World) (h : List Nat) (b : List UInt8) (hh : h.length = 8) (hb : b.length = 64) :
    Calls Tryd.prog 60 #[.agg (uv h).toArray, .agg (uv addedL).toArray, .string ⟨b.toArray⟩] w fun e w' => e = .returned (.agg (uv (mixed h (spw b 64))).toArray) ∧ Below w.heap.size w w' := by
  match h, hh with
  | [a0, a1, a2, a3, a4, a5, a6, a7], _ => exact block_any w a0 a1 a2 a3 a4 a5 a6 a7 b hb
theorem block_in {w w' : World} (hw : Below w.heap.size w w') (h : List Nat) (b : List UInt8) (hh : h.length = 8) (hb : b.length = 64) (B : ByteArray) (hB : B = ⟨b.toArray⟩) :
    Calls Tryd.prog 60 #[.agg (uv h).toArray, .agg (uv addedL).toArray, .string B] w' fun e w'' => e = .returned (.agg (uv (mixed h (spw b 64))).toArray) ∧ Below w.heap.size w w'' := by
  rw [hB]
  exact (block_list w' h b hh hb).mono fun _ _ ⟨h1, h2⟩ => ⟨h1, hw.trans (h2.mono hw.size)⟩

/-- The first i bytes are filled. -/
def fillB (l : List UInt8) (i : Nat) : List UInt8 := l.take i ++ List.replicate (32 - i) 0
theorem fillB_at (l : List UInt8) (i : Nat) (hl : l.length = 32) (hi : i < 32) : (bv (fillB l i))[i]? = some (.int .u8 0) := by
  have h : (l.take i).length = i := by rw [List.length_take]; omega
  have e : (fillB l i)[i]? = some 0 := by rw [fillB, List.getElem?_append_right (by omega), h, Nat.sub_self, List.getElem?_replicate, if_pos (by omega)]
  simp [bv, e]
theorem fillB_next (l : List UInt8) (i : Nat) (x : UInt8) (hl : l.length = 32) (hi : i < 32) (hx : l[i]? = some x) : (fillB l i).set i x = fillB l (i + 1) := by
  have h : (l.take i).length = i := by rw [List.length_take]; omega
  rw [fillB, fillB, List.set_append_right _ _ (by omega), h, Nat.sub_self, show 32 - i = (32 - (i + 1)) + 1 by omega, List.replicate_succ, List.set_cons_zero, List.take_add_one, hx]
  simp
theorem fillB_all (l : List UInt8) (hl : l.length = 32) : fillB l 32 = l := by rw [fillB, List.take_of_length_le (by omega)]; simp
theorem bv_setF (l : List UInt8) (j : Nat) (x : UInt8) : (bv l).set j (.int .u8 (x.toNat : Int)) = bv (l.set j x) := by simp [bv, List.map_set]

def R6 (w : World) (g6 g13 : Nat) (H : List Nat) (D : List UInt8) (x : Value) (wr : World) : Prop := ∃ i : Nat, x = .int .i64 (i : Int) ∧ i ≤ 32 ∧ Blk wr g13 26 (bv (fillB D i)) ∧ Blk wr g6 93 (uv H) ∧ OC w wr

theorem flat_at : ∀ (H : List Nat) (i : Nat), i < 4 * H.length → (H.flatMap be4)[i]? = (H[i / 4]?).map fun x => UInt8.ofNat (x / 2 ^ (24 - 8 * (i % 4)))
  | [], i, h => by simp at h
  | a :: t, i, h => by
    rw [List.flatMap_cons]
    by_cases hi : i < 4
    · rw [List.getElem?_append_left (by rw [be4_length]; exact hi)]
      match i, hi with
      | 0, _ => simp [be4]
      | 1, _ => simp [be4]
      | 2, _ => simp [be4]
      | 3, _ => simp [be4]
    · rw [List.getElem?_append_right (by rw [be4_length]; omega), be4_length, flat_at t (i - 4) (by simp at h; omega), show i / 4 = (i - 4) / 4 + 1 by omega, List.getElem?_cons_succ, show (i - 4) % 4 = i % 4 by omega]

theorem primes8_any (w : World) : Calls Tryd.prog 58 #[.int .i64 8] w fun e w' => ∃ v, e = .returned v ∧ Held w' w.heap.size v (qv (prL 20)) ∧ Below w.heap.size w w' :=
  primes_any w 8 20 (by omega) firsts.2.1 (by omega) (by omega) firsts.2.2
theorem primes64_any (w : World) : Calls Tryd.prog 58 #[.int .i64 64] w fun e w' => ∃ v, e = .returned v ∧ Held w' w.heap.size v (qv (prL 312)) ∧ Below w.heap.size w w' :=
  primes_any w 64 312 (by omega) addeds.2.1 (by omega) (by omega) addeds.2.2

theorem first_at (i p : Nat) (h : (prL 20)[i]? = some p) : firstL[i]? = some (rootN above2 p) := by
  rw [← firsts.1, List.getElem?_map, h]; rfl
theorem added_at (i p : Nat) (h : (prL 312)[i]? = some p) : addedL[i]? = some (rootN above3 p) := by
  rw [← addeds.1, List.getElem?_map, h]; rfl

set_option maxRecDepth 100000 in
set_option maxHeartbeats 8000000 in
theorem refof_any (w : World) (l : List UInt8) (hl : l.length ≤ 100000) :
    Calls Tryd.prog 45 #[.string ⟨l.toArray⟩] w fun e w' => e = .returned (.agg (bv (digest l)).toArray) ∧ Below w.heap.size w w' := by
  obtain ⟨S, hS⟩ : ∃ S : ByteArray, S = ⟨l.toArray⟩ := ⟨_, rfl⟩
  rw [← hS]
  have zS : S.size = l.length := by rw [hS]; simp [ByteArray.size]
  have HST := Lib.hid (show S ++ ⟨#[128]⟩ = ⟨(pre l 0).toArray⟩ by rw [hS]; apply ByteArray.ext; simp [pre])
  clear hS
  have hsum0 : ¬ 9223372036854775807 < l.length + 1 := by omega
  have hres := Blk.new w 26 (Array.replicate 32 (.int .u8 0))
  have HRES := Lib.hid hres
  have HB0 := Lib.hid (show Below w.heap.size w (w.alloc (.cells (Array.replicate 32 (.int .u8 0)) 26)) from (Below.refl _ _).alloc (Nat.le_refl _) _)
  clear hres
  go_enter Tryd.func45, Tryd.ntmps45
  go_wp2_with fail
  rw [HST.out]
  go_loopw [3] (fun v wr => R1 (w.alloc (.cells (Array.replicate 32 (.int .u8 0)) 26)) l v wr) (fun v _ => gapS v)
  case atStart => exact ⟨0, Nat.zero_le _, rfl, rfl⟩
  case round =>
    obtain ⟨j, hj, rfl, rfl⟩ := hrel
    obtain ⟨T, hT⟩ : ∃ T : ByteArray, T = ⟨(pre l j).toArray⟩ := ⟨_, rfl⟩
    rw [← hT]
    obtain ⟨tl, htl⟩ : ∃ t, t = l.length + 1 + j := ⟨_, rfl⟩
    have zT : T.size = tl := by rw [hT, htl]; simp [ByteArray.size, pre_length]
    have hpd : padN l.length = (55 + 64 - l.length % 64) % 64 := rfl
    obtain ⟨r, hr⟩ : ∃ r, r = tl % 64 := ⟨_, rfl⟩
    have er : (tl : Int) % 64 = (r : Int) := by omega
    have er2 : Int.tmod (tl : Int) 64 = (r : Int) := by rw [Int.tmod_eq_emod_of_nonneg (by omega)]; exact er
    have htl2 : tl ≤ 100100 := by omega
    by_cases h56 : r = 56
    · have d1 : (r : Int) = 56 := by omega
      have HJ := Lib.hid (show j = padN l.length by omega)
      have HT := Lib.hid hT
      obtain ⟨cnt, hcnt⟩ : ∃ c, c = l.length * 8 := ⟨_, rfl⟩
      have ec : IntKind.u64.wrap (l.length : Int) = (l.length : Int) := by simp [IntKind.wrap, IntKind.bits, IntKind.signed]; omega
      have ec2 : IntKind.u64.wrap ((l.length : Int) * 8) = (cnt : Int) := by simp [IntKind.wrap, IntKind.bits, IntKind.signed]; omega
      have ec3 : (l.length : Int) * 8 = (cnt : Int) := by omega
      have HCNT := Lib.hid (show cnt = l.length * 8 % 18446744073709551616 by omega)
      have HTL := Lib.hid htl
      clear hT hr hpd hcnt htl
      go_wp2_with fail
      generalize w.alloc (.cells (Array.replicate 32 (.int .u8 0)) 26) = w1 at HRES HB0 ⊢
      have hT0 : T = ⟨(pre l (padN l.length) ++ (be8 cnt).take (8 - 8)).toArray⟩ := by rw [HT.out, HJ.out]; simp
      have HT0 := Lib.hid hT0
      clear hT0 zT er er2 d1 h56
      go_loopw [3, 5] (fun v x wr => R2 w1 l cnt v x wr) (fun _ x _ => kN x)
      case atStart => exact ⟨8, by omega, rfl, by rw [← HT0.out], Below.refl _ _⟩
      case round =>
        obtain ⟨k, hk, rfl, rfl, hB⟩ := hrel
        by_cases hk0 : k = 0
        · subst hk0
          rw [show (((0 : Nat) : Int) - 1) = -1 from rfl]
          have hpt : pre l (padN l.length) ++ (be8 cnt).take (8 - 0) = padded l := by rw [padded, ← HCNT.out, List.take_of_length_le (by rw [be8_length]; omega)]; rfl
          rw [hpt]
          obtain ⟨PT, hPT⟩ : ∃ P : ByteArray, P = ⟨(padded l).toArray⟩ := ⟨_, rfl⟩
          rw [← hPT]
          have hoc : OC w wr := ⟨⟨_, rfl, HRES.out.below hB HRES.out.lt⟩, HB0.out.trans (hB.mono HB0.out.size)⟩
          have HPT := Lib.hid hPT
          have hg6 := Blk.new wr 93 (Array.replicate 8 (.int .u32 0))
          have HOC := Lib.hid (hoc.below ((Below.refl _ _).alloc (Nat.le_refl wr.heap.size) (.cells (Array.replicate 8 (.int .u32 0)) 93)))
          have HG6 := Lib.hid hg6
          have hlt6 := hoc.lt
          obtain ⟨g6, hg6e⟩ : ∃ g, g = wr.heap.size := ⟨_, rfl⟩
          clear hpt hPT hoc hg6 hB
          go_wp2_with fail
          rw [← hg6e]
          refine (primes8_any _).mono ?_
          rintro e w2 ⟨v, rfl, hh2, hb2⟩
          rw [← hg6e] at HG6 hlt6
          have HG62 := Lib.hid (HG6.out.below hb2 (by have := HG6.out.lt; exact this))
          have HOC2 := Lib.hid (HOC.out.below hb2)
          have HH2 := Lib.hid (show Held w2 (g6 + 1) v (qv (prL 20)) by rw [World.size_alloc, ← hg6e] at hh2; exact hh2)
          obtain ⟨ao, cap, hv⟩ := HH2.out.shape
          rw [qv_length, firsts.2.1] at hv
          subst hv
          have hg6' : w.heap.size < g6 := hlt6
          clear hg6e HG6 HOC hh2 hb2 hlt6
          go_wp2_with fail
          go_loopw [43] (fun x wr => R3 w g6 (.slice ao 8 cap) x wr) (fun x _ => 8 - intN x)
          case atStart => exact ⟨0, rfl, by omega, HG62.out, HH2.out, HOC2.out⟩
          case round =>
            clear HG62 HH2 HOC2
            obtain ⟨i, rfl, hi, hG, hH, hO⟩ := hrel
            by_cases hi8 : i < 8
            · have d0 : (i : Int) < 8 := by omega
              obtain ⟨q, hq⟩ : ∃ q, (prL 20)[i]? = some q := ⟨_, List.getElem?_eq_getElem (by rw [firsts.2.1]; exact hi8)⟩
              obtain ⟨bb, oo, rfl, hcell⟩ := hH.cellAt hi8 (qv_at hq)
              obtain ⟨x, hx⟩ : ∃ x, x = rootN above2 q := ⟨_, rfl⟩
              have hfx : firstL[i]? = some x := by rw [hx]; exact first_at i q hq
              have c0 : wr.cell? ⟨g6, i, none⟩ = some (.int .u32 0) := by rw [hG.cell]; exact uv_at (fill_at firstL 8 i rfl hi8)
              have f0 := hG.free i
              have HX := Lib.hid hx
              have HREL := Lib.hid (show R3 w g6 (.slice (some ⟨bb, oo, none⟩) 8 cap) (.int .i64 ((i : Int) + 1)) (wr.setCell ⟨g6, i, none⟩ (.int .u32 (x : Int))) from
                ⟨i + 1, by simp, by omega, by rw [← fill_next firstL 8 i x rfl hi8 hfx, ← uv_set]; exact hG.set i _, hH.setLow (by omega), hO.setCell g6 i _ hg6'⟩)
              clear hG hH hO hq hx hfx
              go_wp2_with fail
              refine (root2_any wr q).mono ?_
              rintro e w3 ⟨rfl, rfl⟩
              rw [← HX.out]
              go_wp2_with fail
              refine ⟨HREL.out, ?_⟩
              simp only [intN]
              omega
            · obtain rfl : i = 8 := by omega
              rw [show ((8 : Nat) : Int) = 8 from rfl]
              rw [fill_all firstL 8 rfl] at hG
              have hg9 := Blk.new wr 97 (Array.replicate 64 (.int .u32 0))
              have hbel := (Below.refl wr.heap.size wr).alloc (Nat.le_refl wr.heap.size) (.cells (Array.replicate 64 (.int .u32 0)) 97)
              have HOC := Lib.hid (hO.below hbel)
              have HG9 := Lib.hid hg9
              have HG6 := Lib.hid (hG.below hbel hG.lt)
              have hlt9 := hO.lt
              have hlt69 := hG.lt
              obtain ⟨g9, hg9e⟩ : ∃ g, g = wr.heap.size := ⟨_, rfl⟩
              clear hG hH hO hg9 hbel hi8 hi
              go_wp2_with fail
              rw [← hg9e]
              refine (primes64_any _).mono ?_
              rintro e w4 ⟨v, rfl, hh4, hb4⟩
              rw [← hg9e] at HG9 hlt9 hlt69
              have HG94 := Lib.hid (HG9.out.below hb4 HG9.out.lt)
              have HG64 := Lib.hid (HG6.out.below hb4 HG6.out.lt)
              have HOC4 := Lib.hid (HOC.out.below hb4)
              have HH4 := Lib.hid (show Held w4 (g9 + 1) v (qv (prL 312)) by rw [World.size_alloc, ← hg9e] at hh4; exact hh4)
              obtain ⟨ao4, cap4, hv4⟩ := HH4.out.shape
              rw [qv_length, addeds.2.1] at hv4
              subst hv4
              clear hg9e HG9 HG6 HOC hh4 hb4
              go_wp2_with fail
              go_loopw [55] (fun x wr => R4 w g6 g9 (.slice ao4 64 cap4) x wr) (fun x _ => 64 - intN x)
              case atStart => exact ⟨0, rfl, by omega, HG94.out, HH4.out, HG64.out, HOC4.out⟩
              case round =>
                clear HG94 HH4 HG64 HOC4
                obtain ⟨i, rfl, hi, hG, hH, hG6, hO⟩ := hrel
                by_cases hi64 : i < 64
                · have d0 : (i : Int) < 64 := by omega
                  obtain ⟨q, hq⟩ : ∃ q, (prL 312)[i]? = some q := ⟨_, List.getElem?_eq_getElem (by rw [addeds.2.1]; exact hi64)⟩
                  obtain ⟨bb, oo, rfl, hcell⟩ := hH.cellAt hi64 (qv_at hq)
                  obtain ⟨x, hx⟩ : ∃ x, x = rootN above3 q := ⟨_, rfl⟩
                  have hfx : addedL[i]? = some x := by rw [hx]; exact added_at i q hq
                  have c0 : wr.cell? ⟨g9, i, none⟩ = some (.int .u32 0) := by rw [hG.cell]; exact uv_at (fill_at addedL 64 i rfl hi64)
                  have f0 := hG.free i
                  have HX := Lib.hid hx
                  have HREL := Lib.hid (show R4 w g6 g9 (.slice (some ⟨bb, oo, none⟩) 64 cap4) (.int .i64 ((i : Int) + 1)) (wr.setCell ⟨g9, i, none⟩ (.int .u32 (x : Int))) from
                    ⟨i + 1, by simp, by omega, by rw [← fill_next addedL 64 i x rfl hi64 hfx, ← uv_set]; exact hG.set i _, hH.setLow (by omega), hG6.other _ _ (by simp; omega), hO.setCell g9 i _ hlt9⟩)
                  clear hG hH hO hq hx hfx hG6
                  go_wp2_with fail
                  refine (root3_any wr q).mono ?_
                  rintro e w5 ⟨rfl, rfl⟩
                  rw [← HX.out]
                  go_wp2_with fail
                  refine ⟨HREL.out, ?_⟩
                  simp only [intN]
                  omega
                · obtain rfl : i = 64 := by omega
                  rw [show ((64 : Nat) : Int) = 64 from rfl]
                  rw [fill_all addedL 64 rfl] at hG
                  obtain ⟨pl, hpl⟩ : ∃ n, n = (padded l).length := ⟨_, rfl⟩
                  have zPT : PT.size = pl := by rw [HPT.out, hpl]; simp [ByteArray.size]
                  obtain ⟨nb, hnb⟩ : ∃ n, n = pl / 64 := ⟨_, rfl⟩
                  have hpl64 : pl = 64 * nb := by have := padded_length l; rw [← hpl] at this; omega
                  have hnb20 : nb ≤ 1600 := by
                    have : pl ≤ 100200 := by
                      have hp : padN l.length < 64 := Nat.mod_lt _ (by omega)
                      rw [hpl, padded]; simp [be8_length]; omega
                    omega
                  have HPL := Lib.hid hpl
                  have HNB := Lib.hid hnb
                  have HST5 := Lib.hid (show R5 w g6 g9 (padded l) nb (.int .i64 0) wr from ⟨0, rfl, Nat.zero_le _, hG6, hG, hO⟩)
                  clear hG hH hG6 hO hi64 hi hpl hnb
                  go_wp2_with fail
                  go_loopw [12] (fun x wr => R5 w g6 g9 (padded l) nb x wr) (fun x _ => 64 * nb - intN x)
                  case atStart => exact HST5.out
                  case round =>
                    clear HST5
                    obtain ⟨q, rfl, hq, hG6, hG9, hO⟩ := hrel
                    by_cases hqn : q < nb
                    · obtain ⟨at_, hat⟩ : ∃ a, a = 64 * q := ⟨_, rfl⟩
                      rw [← hat]
                      have hat2 : at_ + 64 ≤ 64 * nb := by omega
                      have d0 : (at_ : Int) < (pl : Int) := by omega
                      have d1 : (at_ : Int) + 64 ≤ (pl : Int) := by omega
                      obtain ⟨BT, hBT⟩ : ∃ B, PT.extract at_ (at_ + 64) = B := ⟨_, rfl⟩
                      have hBT2 : BT = ⟨(blockAt (padded l) q).toArray⟩ := by
                        rw [← hBT, HPT.out]
                        apply ByteArray.ext
                        rw [ByteArray.data_extract, List.extract_toArray, List.extract_eq_take_drop, blockAt, hat, show 64 * q + 64 - 64 * q = 64 by omega]
                      have hbl : (blockAt (padded l) q).length = 64 := by rw [blockAt, List.length_take, List.length_drop, ← HPL.out]; omega
                      obtain ⟨hq, hhq⟩ : ∃ h, h = runN firstL (padded l) q := ⟨_, rfl⟩
                      rw [← hhq] at hG6
                      have hlq : hq.length = 8 := by rw [hhq]; exact runN_length _ _ rfl _
                      obtain ⟨h2, hh2⟩ : ∃ h, h = mixed hq (spw (blockAt (padded l) q) 64) := ⟨_, rfl⟩
                      have hl2 : h2.length = 8 := by rw [hh2]; exact mixed_length _ _ hlq
                      have HN := Lib.hid (show h2 = runN firstL (padded l) (q + 1) by rw [hh2, hhq]; rfl)
                      have HBT := Lib.hid hBT2
                      have HBL := Lib.hid hbl
                      have HLQ := Lib.hid hlq
                      have HH2 := Lib.hid hh2
                      have HCA := Lib.hid (show ∀ w', Below wr.heap.size wr w' → ∀ j v, (uv hq)[j]? = some v → w'.cell? ⟨g6, 0 + j, none⟩ = some v from fun w' hb' => (hG6.below hb' hG6.lt).cells)
                      have HCB := Lib.hid (show ∀ w', Below wr.heap.size wr w' → ∀ j v, (uv addedL)[j]? = some v → w'.cell? ⟨g9, 0 + j, none⟩ = some v from fun w' hb' => (hG9.below hb' hG9.lt).cells)
                      have HZA := Lib.hid (show (Tryd.prog.info? 93).map (·.size) = some (uv hq).length by rw [uv_length, hlq]; exact Tryd.size93)
                      have HZB := Lib.hid (show (Tryd.prog.info? 97).map (·.size) = some (uv addedL).length from Tryd.size97)
                      have HZ2 := Lib.hid (show (Tryd.prog.info? 93).map (·.size) = some (uv h2).length by rw [uv_length, hl2]; exact Tryd.size93)
                      have HL2 := Lib.hid (show 0 + (uv h2).length ≤ (uv hq).length by rw [uv_length, uv_length, hl2, hlq]; omega)
                      have HSP := Lib.hid (splice_all (uv hq) (uv h2) (by rw [uv_length, uv_length, hl2, hlq]))
                      have HG6 := Lib.hid hG6
                      have HG9 := Lib.hid hG9
                      have HO := Lib.hid hO
                      have HAT := Lib.hid hat
                      clear hG6 hG9 hO hBT2 hbl hlq hl2 hh2 hhq hat
                      go_wp2_with fail
                      refine wp_region_quiet_tail (C := fun w' => Below wr.heap.size wr w') 8 (by kernel_rfl) (by kernel_rfl) (Below.refl _ _).drew ?_
                      simp only [List.take_succ_cons, List.take_zero, List.drop_succ_cons, List.drop_zero]
                      refine BigFrame.wpQuiet_want rfl fun K hK => ?_
                      refine quiet_load_cells 93 (.tmp 6) rfl g6 0 (uv hq) rfl 8 92 HCA.out Tryd.underlying93 HZA.out (hK _ ?_)
                      clear hK K
                      simp only [Act.put, List.setIfInBounds_toArray, List.set_cons_zero, List.set_cons_succ]
                      refine BigFrame.wpQuiet_want rfl fun K hK => ?_
                      refine quiet_load_cells 97 (.tmp 9) rfl g9 0 (uv addedL) rfl 64 92 HCB.out Tryd.underlying97 HZB.out (hK _ ?_)
                      clear hK K
                      simp only [Act.put, List.setIfInBounds_toArray, List.set_cons_zero, List.set_cons_succ]
                      go_big_quiet_step ((intro _; rfl))
                      go_big_quiet_step ((intro _; rfl))
                      go_big_quiet_step ((intro _; rfl))
                      go_big_quiet_step ((intro _; rfl))
                      go_big_quiet_step ((intro _; rfl))
                      go_big_quiet_step ((intro hw'; exact block_in hw' hq (blockAt (padded l) q) HLQ.out HBL.out BT HBT.out))
                      refine wpQuiet_nil ?_
                      intro w6 hb6
                      rw [← HH2.out]
                      have hG66 := HG6.out.below hb6 HG6.out.lt
                      have HG66 := Lib.hid hG66
                      have HREL := Lib.hid (show R5 w g6 g9 (padded l) nb (.int .i64 (64 * ((q : Int) + 1))) (w6.setRow g6 (uv h2).toArray) from
                        ⟨q + 1, by simp, hqn, by rw [← HN.out]; exact hG66.setRow _, (HG9.out.below hb6 HG9.out.lt).setRow_other _ (by omega), (HO.out.below hb6).setRow g6 _ hg6'⟩)
                      have e64 : (at_ : Int) + 64 = ((64 * (q + 1) : Nat) : Int) := by have := HAT.out; omega
                      clear hb6 hG66 HCA HCB
                      go_wp2_with ((with_reducible refine wpList_store_part ?_ 93 (.tmp 6) (.tmp 78) ?_ g6 0 (uv h2) ?_ ?_ 93 _ HG66.out HZ2.out HL2.out (uv_one _) ?_); rfl; rfl; rfl; rfl; rw [HSP.out]; simp only [Act.put])
                      refine ⟨HREL.out, ?_⟩
                      simp only [intN]
                      have := HAT.out
                      omega
                    · obtain rfl : q = nb := by omega
                      obtain ⟨at_, hat⟩ : ∃ a, a = 64 * q := ⟨_, rfl⟩
                      rw [← hat]
                      have d0 : ¬ ((at_ : Int) < (pl : Int)) := by omega
                      clear hat hpl64 hqn hq
                      obtain ⟨H, hH⟩ : ∃ h, h = runN firstL (padded l) q := ⟨_, rfl⟩
                      rw [← hH] at hG6
                      have hHl : H.length = 8 := by rw [hH]; exact runN_length _ _ rfl _
                      have HDG := Lib.hid (show digest l = H.flatMap be4 by rw [digest, hH, HNB.out, HPL.out])
                      have HHL := Lib.hid hHl
                      have hg13 := Blk.new wr 26 (Array.replicate 32 (.int .u8 0))
                      have hbel := (Below.refl wr.heap.size wr).alloc (Nat.le_refl wr.heap.size) (.cells (Array.replicate 32 (.int .u8 0)) 26)
                      have hlt13 := hO.lt
                      have hlt613 := hG6.lt
                      obtain ⟨g13, hg13e⟩ : ∃ g, g = wr.heap.size := ⟨_, rfl⟩
                      have HST6 := Lib.hid (show R6 w g6 g13 H (digest l) (.int .i64 0) (wr.alloc (.cells (Array.replicate 32 (.int .u8 0)) 26)) from
                        ⟨0, rfl, Nat.zero_le _, by rw [hg13e]; exact hg13, hG6.below hbel hG6.lt, hO.below hbel⟩)
                      rw [← hg13e] at hlt13 hlt613
                      clear hG6 hG9 hO hg13 hbel hH hHl
                      go_wp2_with fail
                      rw [← hg13e]
                      clear hg13e
                      go_loopw [79] (fun x wr => R6 w g6 g13 H (digest l) x wr) (fun x _ => 32 - intN x)
                      case atStart => exact HST6.out
                      case round =>
                        clear HST6
                        obtain ⟨i, rfl, hi, hG, hG6, hO⟩ := hrel
                        by_cases hi32 : i < 32
                        · have d0 : (i : Int) < 32 := by omega
                          obtain ⟨a, ha⟩ : ∃ a, a = i / 4 := ⟨_, rfl⟩
                          obtain ⟨rr, hrr⟩ : ∃ r, r = i % 4 := ⟨_, rfl⟩
                          have ea : (i : Int) / 4 = (a : Int) := by omega
                          have ea2 : Int.tdiv (i : Int) 4 = (a : Int) := by rw [Int.tdiv_eq_ediv_of_nonneg (by omega)]; exact ea
                          have eb : (i : Int) % 4 = (rr : Int) := by omega
                          have eb2 : Int.tmod (i : Int) 4 = (rr : Int) := by rw [Int.tmod_eq_emod_of_nonneg (by omega)]; exact eb
                          have a8 : (a : Int) < 8 := by omega
                          obtain ⟨t, ht⟩ : ∃ t, t = 24 - 8 * rr := ⟨_, rfl⟩
                          have et : (24 : Int) - 8 * (rr : Int) = (t : Int) := by omega
                          have et2 : IntKind.u64.wrap (t : Int) = (t : Int) := by simp [IntKind.wrap, IntKind.bits, IntKind.signed]; omega
                          have ht24 : t ≤ 24 := by omega
                          obtain ⟨x, hx⟩ : ∃ x, H[a]? = some x := ⟨_, List.getElem?_eq_getElem (by rw [HHL.out]; omega)⟩
                          have q6 : wr.cell? ⟨g6, a, none⟩ = some (.int .u32 (x : Int)) := by rw [hG6.cell]; exact uv_at hx
                          obtain ⟨m, hm⟩ : ∃ m, m = x / 2 ^ t := ⟨_, rfl⟩
                          have em : (x : Int) / 2 ^ t = (m : Int) := by rw [hm]; simp
                          obtain ⟨c, hc⟩ : ∃ c, c = UInt8.ofNat m := ⟨_, rfl⟩
                          have emc : (m : Int) % 256 = (c.toNat : Int) := by rw [hc]; simp
                          have hdi : (digest l)[i]? = some c := by rw [HDG.out, flat_at H i (by rw [HHL.out]; omega), ← ha, ← hrr, hx, hc, hm, ht]; rfl
                          have hdl : (digest l).length = 32 := by rw [HDG.out, flat_length, HHL.out]
                          have c0 : wr.cell? ⟨g13, i, none⟩ = some (.int .u8 0) := by rw [hG.cell]; exact fillB_at (digest l) i hdl hi32
                          have f0 := hG.free i
                          have HREL := Lib.hid (show R6 w g6 g13 H (digest l) (.int .i64 ((i : Int) + 1)) (wr.setCell ⟨g13, i, none⟩ (.int .u8 (c.toNat : Int))) from
                            ⟨i + 1, by simp, by omega, by rw [← fillB_next (digest l) i c hdl hi32 hdi, ← bv_setF]; exact hG.set i _, hG6.other _ _ (by simp; omega), hO.setCell g13 i _ hlt13⟩)
                          clear hG hG6 hO ha hrr ht hx hm hc hdi hdl
                          go_wp2_with fail
                          refine ⟨HREL.out, ?_⟩
                          simp only [intN]
                          omega
                        · obtain rfl : i = 32 := by omega
                          have hdl : (digest l).length = 32 := by rw [HDG.out, flat_length, HHL.out]
                          rw [fillB_all (digest l) hdl] at hG
                          obtain ⟨z, hz, hr⟩ := hO.res
                          obtain ⟨D, hD⟩ : ∃ D, D = digest l := ⟨_, rfl⟩
                          rw [← hD] at hG hdl
                          have HC := Lib.hid hG.cells
                          have HR2 := Lib.hid hr
                          have HSZ := Lib.hid (show (Tryd.prog.info? 26).map (·.size) = some (bv D).length by rw [bv_length, hdl]; exact Tryd.size26)
                          have HL := Lib.hid (show 0 + (bv D).length ≤ z.length by rw [bv_length]; omega)
                          have HS := Lib.hid (splice_all z (bv D) (by rw [bv_length]; omega))
                          have HR' := Lib.hid (hr.setRow (bv D))
                          have HB' := Lib.hid (below_setRow hO.hB (Nat.le_refl w.heap.size) (bv D).toArray)
                          have HD := Lib.hid hD
                          clear hG hG6 hO hr hz hdl hD
                          go_wp2_with (first
                            | ((with_reducible refine wpList_load_cells ?_ 26 (.tmp 13) ?_ _ 0 _ ?_ 32 5 HC.out Tryd.underlying26 HSZ.out ?_); rfl; rfl; rfl)
                            | ((with_reducible refine wpList_store_part ?_ 26 (.tmp 2) (.tmp 96) ?_ w.heap.size 0 (bv D) ?_ ?_ 26 _ HR2.out HSZ.out HL.out (bv_one _) ?_); rfl; rfl; rfl; rfl; rw [HS.out]))
                          rw [← HD.out]
                          refine bodyPost_ret (v := .agg (bv D).toArray) ?_ rfl ⟨rfl, HB'.out⟩
                          exact results_cell_row rfl _ _ w.heap.size 26 _ (0, 0) (.array 32 5) rfl HR'.out Tryd.underlying26 rfl (by rw [List.size_toArray]; exact HSZ.out)
        · obtain ⟨i, rfl⟩ : ∃ i, k = i + 1 := ⟨k - 1, by omega⟩
          rw [show (((i + 1 : Nat) : Int) - 1) = (i : Int) by omega]
          obtain ⟨U, hU⟩ : ∃ U : ByteArray, U = ⟨(pre l (padN l.length) ++ (be8 cnt).take (8 - (i + 1))).toArray⟩ := ⟨_, rfl⟩
          rw [← hU]
          have d0 : (0 : Int) ≤ (i : Int) := by omega
          obtain ⟨t, ht⟩ : ∃ t, t = 8 * i := ⟨_, rfl⟩
          have et : (8 : Int) * (i : Int) = (t : Int) := by omega
          have ht56 : t ≤ 56 := by omega
          have et2 : IntKind.u64.wrap (t : Int) = (t : Int) := by simp [IntKind.wrap, IntKind.bits, IntKind.signed]; omega
          obtain ⟨m, hm⟩ : ∃ m, m = cnt / 2 ^ t := ⟨_, rfl⟩
          have em : (cnt : Int) / 2 ^ t = (m : Int) := by rw [hm]; simp
          obtain ⟨c, hc⟩ : ∃ c, c = UInt8.ofNat m := ⟨_, rfl⟩
          have emc : (m : Int) % 256 = (c.toNat : Int) := by rw [hc]; simp
          have hcv : (convert 86 9 (.slice (some ⟨wr.heap.size, 0, none⟩) 1 1)).run Tryd.prog (wr.alloc (.cells #[.int .u8 (c.toNat : Int)] 5)) = .ok (.string ⟨[c].toArray⟩) (wr.alloc (.cells #[.int .u8 (c.toNat : Int)] 5)) :=
            conv_bytes (l := [c]) (Blk.new wr 5 #[.int .u8 (c.toNat : Int)])
          obtain ⟨C, hC⟩ : ∃ C : ByteArray, C = ⟨[c].toArray⟩ := ⟨_, rfl⟩
          rw [← hC] at hcv
          have zC : C.size = 1 := by rw [hC]; rfl
          have hul : (pre l (padN l.length) ++ (be8 cnt).take (8 - (i + 1))).length ≤ 100200 := by
            have hp : padN l.length < 64 := Nat.mod_lt _ (by omega)
            rw [List.length_append, pre_length, List.length_take, be8_length]; omega
          obtain ⟨ul, hule⟩ : ∃ u, u = (pre l (padN l.length) ++ (be8 cnt).take (8 - (i + 1))).length := ⟨_, rfl⟩
          rw [← hule] at hul
          have zU : U.size = ul := by rw [hU, hule]; simp [ByteArray.size]
          have hsum : ¬ 9223372036854775807 < ul + 1 := by omega
          have HN := Lib.hid (show U ++ C = ⟨(pre l (padN l.length) ++ (be8 cnt).take (8 - i)).toArray⟩ by
            have hx : (be8 cnt).take (8 - i) = (be8 cnt).take (8 - (i + 1)) ++ [c] := by
              rw [show 8 - i = (8 - (i + 1)) + 1 by omega, List.take_add_one, show 8 - (i + 1) = 7 - i by omega, be8_at cnt i (by omega), hc, hm, ht]
              rfl
            rw [hx, hU, hC]
            apply ByteArray.ext
            simp)
          have HB := Lib.hid (show Below w1.heap.size w1 (wr.alloc (.cells #[.int .u8 (c.toNat : Int)] 5)) from hB.trans ((Below.refl _ _).alloc hB.size _))
          clear hU hm hc hC hule hB ht hk0
          go_wp2_with fail
          rw [HN.out]
          refine ⟨⟨i, by omega, rfl, rfl, HB.out⟩, ?_⟩
          simp only [kN]
          omega
    · have d1 : ¬ ((r : Int) = 56) := by omega
      have HN := Lib.hid (show T ++ ⟨#[0]⟩ = ⟨(pre l (j + 1)).toArray⟩ by rw [hT]; apply ByteArray.ext; simp [pre, List.replicate_succ'])
      have hsum : ¬ 9223372036854775807 < tl + 1 := by omega
      have HM := Lib.hid (show gapS (.string ⟨(pre l (j + 1)).toArray⟩) < gapS (.string T) by
        simp only [gapS]
        rw [zT]
        simp only [ByteArray.size, List.size_toArray, pre_length]
        omega)
      clear hT
      go_wp2_with fail
      rw [HN.out]
      exact ⟨⟨j + 1, by omega, rfl, rfl⟩, HM.out⟩
end Go.Proofs.YtnbdpalbompjlaaDoor
