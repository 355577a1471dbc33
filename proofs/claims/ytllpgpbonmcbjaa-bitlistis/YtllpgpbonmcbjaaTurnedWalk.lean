/-
  The walk of BitlistTurned.
-/
import Derived.Test.YtllpgpbonmcbjaaBackWalk
namespace Go.Proofs.Ytllpgpbonmcbjaa
open Go.RowKit

theorem bl_one (l : List Bool) : ∀ u ∈ bl l, u.oneCell' = true := by
  intro u hu
  rw [bl, List.mem_map] at hu
  obtain ⟨x, _, rfl⟩ := hu
  rfl

/-- A row as append's source. -/
theorem Row.src {P : Program} {w : World} {B : Nat} {ao : Option Addr} {n cap : Nat} {l : List Bool} (h : Row w B (.slice ao n cap) l) (t e : TypeId) (ht : P.underlying t = some (.slice e)) : Src P 1 t (.slice ao n cap) n (bl l) w := by
  obtain ⟨ao', cap', b, off, he, hc, hm, h⟩ := h
  cases he
  by_cases h0 : l.length = 0
  · obtain rfl : l = [] := List.eq_nil_of_length_eq_zero h0
    cases ao with
    | none => exact Src.ofNil w ht cap
    | some a => exact Src.ofSlice w ht a 0 cap [] rfl (fun j u hj => by simp at hj) (fun u hu => by simp at hu)
  · have ha := h.addr (by omega)
    subst ha
    refine Src.ofSlice w ht ⟨b, off, none⟩ _ cap (bl l) (by rw [bl_length, Nat.mul_one]) (fun j u hj => ?_) (bl_one l)
    rw [bl, List.getElem?_map] at hj
    cases hx : l[j]? with
    | none => rw [hx] at hj; cases hj
    | some x => rw [hx] at hj; cases hj; rw [Addr.add_lit]; exact h.cells j x hx

theorem held_empty (w : World) (e : TypeId) (a : Nat) (h : w.heap.size ≤ a) : Held (w.alloc (.cells #[] e)) w.heap.size (.slice (some ⟨a, 0, none⟩) 0 0) [] :=
  ⟨0, 0, 0, 0, _, rfl, rfl, Nat.le_refl _, Nat.zero_le _, fun h => absurd h (by omega), fun a' ha => by cases ha; exact h, fun h => absurd h (by omega), fun j u h => by simp at h, fun j h => absurd h (by omega), fun j h => absurd h (by omega)⟩

theorem HeldAt.set {w : World} {base n cap g off : Nat} {ao : Option Addr} {xs : List Value} (h : HeldAt w base n cap g off ao xs) (j : Nat) (hj : j < n) (u : Value) : HeldAt (w.setCell ⟨g, off + j, none⟩ u) base n cap g off ao (xs.set j u) := by
  have hlen := h.len
  obtain ⟨y, hy⟩ : ∃ y, xs[j]? = some y := ⟨_, List.getElem?_eq_getElem (by omega)⟩
  refine ⟨by rw [List.length_set]; exact hlen, h.le, h.max, h.addr, h.own, fun hc => by simpa using h.lt hc, fun i z hi => ?_, fun i hi => ?_, fun i hi => ?_⟩
  · by_cases e : i = j
    · subst e
      rw [List.getElem?_set_self (by omega)] at hi
      cases hi
      exact World.cell?_setCell_same _ _ _ (h.cells i y hy)
    · rw [List.getElem?_set_ne (by omega)] at hi
      rw [World.cell?_setCell_other _ _ _ _ (by intro e'; injection e' with _ e'; omega)]
      exact h.cells i z hi
  · by_cases e : i = j
    · subst e
      rw [World.cell?_setCell_same _ _ _ (h.cells i y hy)]; rfl
    · rw [World.cell?_setCell_other _ _ _ _ (by intro e'; injection e' with _ e'; omega)]
      exact h.room i hi
  · rw [World.frozen?_setCell]; exact h.free i hi

/-- append at a guarded operation whose guard says yes. -/
theorem wpList_append_wanted {P : Program} {w : World} {ops : Array Oper} {rest : List Oper} {o : Oper} {a : Act} {Q : Exit → Act → World → Prop} (hgd : Region.wanted o (yielded ops a.tmps) = true) (s x : Operand) (t tx : TypeId)
    (ho : o.op = .call { callee := .builtin .append, args := #[s, x], argTypes := #[t, tx] })
    {base : Nat} {v : Value} {xs : List Value} (hs : a.eval s = v) (h : Held w base v xs) (e : TypeId) (i : TypeInfo) (z : Value) (bytes : Nat)
    (ht : P.underlying t = some (.slice e)) (hi : P.info? e = some i) (hz : i.zero = some z) (hsize : i.size = 1) (hby : i.bytes = bytes) (hzs : z.cells.size = 1)
    (u : Value) (hx : a.eval x = u) (n : Nat) (news : List Value) (hsrc : Src P 1 tx u n news w) (hfit : xs.length + n ≤ maxLen) (hbytes : (xs.length + n) * bytes ≤ 140737488355328) (hbase : base ≤ w.heap.size)
    (hK : ∀ v' w', Held w' base v' (xs ++ news) → Grew w v w' v' → wpList P ops Q rest (a.put o.dst v') w') : wpList P ops Q (o :: rest) a w := by
  refine wpList_step fun K hK' => ?_
  rw [if_pos hgd]
  obtain ⟨v', w', hrun, r1, r2⟩ := h.append (P := P) t tx o.type e i z bytes ht hi hz hsize hby hzs u n news hsrc hfit hbytes hbase
  unfold Oper.wp
  simp [execOp, ho, resolve, invoke, builtin, hs, hx, hrun, Result.andThen]
  exact hK' _ _ (hK v' w' r1 r2)

theorem bl_set (l : List Bool) (j : Nat) (x : Bool) : (bl l).set j (.bool x) = bl (l.set j x) := by simp [bl, List.map_set]
theorem bl_append (l r : List Bool) : bl (l ++ r) = bl l ++ bl r := by simp [bl]

theorem toList_ne {a b : ByteArray} (h : a ≠ b) : ¬ (a.toList = b.toList) := fun e => h (by apply ByteArray.ext; apply Array.ext'; rw [← ByteArray.toList_eq, ← ByteArray.toList_eq, e])

theorem bstr_ne {l r : List Bool} (h : l ≠ r) : bstr (enc l) ≠ bstr (enc r) := fun e => h (enc_inj (by rw [← bstr_toList (enc l), e, bstr_toList]))

set_option maxHeartbeats 1000000 in
theorem turned_in (w : World) (ao : Option Addr) (n cap at_ : Nat) (more : Bool) (l : List Bool) (hn : l.length = n) (hu : Row w w.heap.size (.slice ao n cap) l) (hl : n ≤ 500) (hat : at_ < n) :
    Calls Try.prog 6 #[.slice ao n cap, .int .i64 at_, .bool more] w fun e w' => e = .returned (.bool true) ∧ Below w.heap.size w w' := by
  obtain ⟨i0, hi, hz0, hz1, hz2⟩ := info_parts Try.info4
  obtain ⟨b, off, hao, hcap, hrt⟩ : ∃ b off, ao = some ⟨b, off, none⟩ ∧ n ≤ cap ∧ Row w w.heap.size (.slice (some ⟨b, off, none⟩) at_ cap) (l.take at_) := by
    obtain ⟨ao', cap', b, off, he, hc, hm, h⟩ := hu
    have hx : ao = ao' ∧ n = l.length ∧ cap = cap' := by injection he with h1 h2 h3; exact ⟨h1, h2, h3⟩
    obtain ⟨rfl, _, rfl⟩ := hx
    have ha := h.addr (by omega)
    have hlt : (l.take at_).length = at_ := by rw [List.length_take]; omega
    exact ⟨b, off, ha, by omega, some ⟨b, off, none⟩, cap, b, off, by rw [hlt], by rw [hlt]; omega, hm, by rw [← ha]; exact h.take at_⟩
  subst hao
  have HT := Lib.hid hrt
  clear hrt
  have hcapI : (at_ : Int) ≤ (cap : Int) := by omega
  have hcap0 : ¬ (cap = 0) := by omega
  have HN := Lib.hid hn
  have HU := Lib.hid hu
  clear hn hu
  have c1 : ¬ ((500 : Int) < (n : Int)) := by omega
  have c2 : ¬ ((at_ : Int) < 0) := by omega
  have c3 : ¬ ((n : Int) ≤ (at_ : Int)) := by omega
  go_enter Try.func6, Try.ntmps6
  go_wp2_with fail
  refine (alive_any w).mono ?_
  rintro e w1 ⟨rfl, hb1⟩
  have hsrc := ((HU.out.keep hb1).keep (((Below.refl _ _).alloc hb1.size (.cells #[] 4)))).src 22 4 (P := Try.prog) Try.underlying22
  have HSrc := Lib.hid hsrc
  clear hsrc
  go_wp2_with (at_builtin; refine wpList_append_held rfl _ _ 22 22 rfl rfl (held_empty w1 4 _ (Nat.le_refl _)) 4 i0 (.bool false) 1 Try.underlying22 hi hz0 hz1 hz2 rfl _ rfl n (bl l) HSrc.out ?e2 ?e3 ?e4 ?_)
  case e2 => unfold maxLen; simp; omega
  case e3 => simp; omega
  case e4 => simp
  intro v2 w2 hh2 hg2
  have hbA : Below w1.heap.size w1 w2 := ((Below.refl _ _).alloc (Nat.le_refl _) _).trans (hg2.below (held_empty w1 4 _ (Nat.le_refl _)) (by simp))
  have hb2 : Below w.heap.size w w2 := hb1.trans (hbA.mono hb1.size)
  have hz1' := hb1.size
  have hz2' := hbA.size
  clear HSrc hg2
  obtain ⟨n2, cap2, g, off2, ao2, rfl, h2⟩ := hh2
  obtain rfl : n = n2 := by rw [h2.len, bl_length, HN.out]
  have hc0 : 0 < cap2 := Nat.lt_of_lt_of_le (by omega) h2.le
  obtain rfl := h2.addr hc0
  have hgw : w1.heap.size ≤ g := h2.own _ rfl
  have hxl : at_ < l.length := by rw [HN.out]; exact hat
  obtain ⟨x, hx⟩ : ∃ x, l[at_]? = some x := ⟨_, List.getElem?_eq_getElem hxl⟩
  have hcell := h2.cells at_ _ (bl_at hx)
  have hfree := h2.free at_ (Nat.lt_of_lt_of_le hat h2.le)
  have hset := h2.set at_ hat (.bool !x)
  rw [bl_set] at hset
  have hb3 : Below w.heap.size w (w2.setCell ⟨g, off2 + at_, none⟩ (.bool !x)) := hb2.setCell (show w.heap.size ≤ g by omega) _
  have hne1 : l ≠ l.set at_ (!x) := fun e => by
    have h := congrArg (·[at_]?) e
    simp only [hx, List.getElem?_set_self hxl] at h
    cases x <;> simp at h
  have hrow3 : Row (w2.setCell ⟨g, off2 + at_, none⟩ (.bool !x)) (w2.setCell ⟨g, off2 + at_, none⟩ (.bool !x)).heap.size (.slice (some ⟨g, off2, none⟩) n cap2) (l.set at_ (!x)) := Held.row (base := w1.heap.size) ⟨n, cap2, g, off2, _, rfl, hset⟩
  obtain ⟨w3, hw3⟩ : ∃ w3, w3 = w2.setCell ⟨g, off2 + at_, none⟩ (.bool !x) := ⟨_, rfl⟩
  rw [← hw3] at hb3 hrow3
  have HW3 := Lib.hid hw3
  have HR3 := Lib.hid hrow3
  have HB3 := Lib.hid hb3
  have HNE1 := Lib.hid (bstr_ne hne1)
  clear hset hx hw3 hb3 hrow3 hne1 h2 hb2 hbA hxl
  go_wp2_with fail
  rw [← HW3.out]
  refine (put_str w3 _ l ((HU.out.keep HB3.out).more HB3.out.size) (by rw [HN.out]; omega)).mono ?_
  rintro e w4 ⟨v4, rfl, hs4, hb4⟩
  have HB4 := Lib.hid (HB3.out.trans (hb4.mono HB3.out.size))
  have HR4 := Lib.hid ((HR3.out.keep hb4).more hb4.size)
  clear hb4 HR3 hcell hfree
  obtain ⟨E, hE⟩ : ∃ E, E = bstr (enc l) := ⟨_, rfl⟩
  rw [← hE] at hs4 HNE1
  have HE := Lib.hid hE
  clear hE
  go_wp2_with fail
  refine (put_str w4 _ _ HR4.out (by rw [List.length_set, HN.out]; omega)).mono ?_
  rintro e w5 ⟨v5, rfl, hs5, hb5⟩
  have HB5 := Lib.hid (HB4.out.trans (hb5.mono HB4.out.size))
  obtain ⟨E1, hE1⟩ : ∃ E1, E1 = bstr (enc (l.set at_ (!x))) := ⟨_, rfl⟩
  rw [← hE1] at hs5 HNE1
  clear hb5 hE1 HR4 hs4
  have HSrc := Lib.hid (((HU.out.keep HB5.out).keep (((Below.refl _ _).alloc HB5.out.size (.cells #[] 4)))).src 22 4 (P := Try.prog) Try.underlying22)
  have n1 : ¬ (E.toList = E1.toList) := toList_ne HNE1.out
  have n1' : (E.toList == E1.toList) = false := by simp [n1]
  go_wp2_with (at_builtin; (refine wpList_append_wanted (by go_simp) _ _ 22 22 rfl rfl (held_empty w5 4 _ (Nat.le_refl _)) 4 i0 (.bool false) 1 Try.underlying22 hi hz0 hz1 hz2 rfl _ rfl n (bl l) HSrc.out ?f2 ?f3 ?f4 ?_))
  case f2 => unfold maxLen; simp; omega
  case f3 => simp; omega
  case f4 => simp
  intro v6 w6 hh6 hg6
  have hbA : Below w5.heap.size w5 w6 := ((Below.refl _ _).alloc (Nat.le_refl _) _).trans (hg6.below (held_empty w5 4 _ (Nat.le_refl _)) (by simp))
  have hz6 := hbA.size
  have hl6 : (bl l).length ≤ 500 := by rw [bl_length, HN.out]; exact hl
  clear HSrc hg6 hs5
  go_wp2_with (at_builtin; refine wpList_append_wanted (by go_simp) _ _ 22 22 rfl rfl (hh6.alloc _) 4 i0 (.bool false) 1 Try.underlying22 hi hz0 hz1 hz2 rfl _ rfl 1 [.bool more] (src_one _ 4 22 Try.underlying22 _ rfl) ?g2 ?g3 ?g4 ?_)
  case g2 => unfold maxLen; simp; omega
  case g3 => simp; omega
  case g4 => simp; omega
  intro v7 w7 hh7 hg7
  have hbB : Below w5.heap.size w6 w7 := ((Below.refl _ _).alloc hz6 _).trans (hg7.below (hh6.alloc _) (by simp; omega))
  have HB7 := Lib.hid (HB5.out.trans ((hbA.trans hbB).mono HB5.out.size))
  have hr7 : Row w7 w7.heap.size v7 (l ++ [more]) := Held.row (base := w5.heap.size) (by rw [bl_append]; exact hh7)
  have HR7 := Lib.hid hr7
  clear hr7 hh7 hg7 hbA hbB hh6
  go_wp2_with fail
  refine (put_str w7 _ _ HR7.out (by rw [List.length_append, HN.out]; simp; omega)).mono ?_
  rintro e w8 ⟨v8, rfl, hs8, hb8⟩
  have HB8 := Lib.hid (HB7.out.trans (hb8.mono HB7.out.size))
  obtain ⟨E2, hE2⟩ : ∃ E2, E2 = bstr (enc (l ++ [more])) := ⟨_, rfl⟩
  rw [← hE2] at hs8
  have n2 : ¬ (E.toList = E2.toList) := toList_ne (by rw [HE.out, hE2]; exact bstr_ne fun e => by have := congrArg List.length e; simp at this)
  have n2' : (E.toList == E2.toList) = false := by simp [n2]
  clear hb8 hE2 HR7
  go_wp2_with fail
  refine (put_str w8 _ _ ((HT.out.keep HB8.out).more HB8.out.size) (by rw [List.length_take]; omega)).mono ?_
  rintro e w9 ⟨v9, rfl, hs9, hb9⟩
  have HB9 := Lib.hid (HB8.out.trans (hb9.mono HB8.out.size))
  obtain ⟨E3, hE3⟩ : ∃ E3, E3 = bstr (enc (l.take at_)) := ⟨_, rfl⟩
  rw [← hE3] at hs9
  have n3 : ¬ (E.toList = E3.toList) := toList_ne (by rw [HE.out, hE3]; exact bstr_ne fun e => by have := congrArg List.length e; rw [List.length_take, HN.out] at this; omega)
  have n3' : (E.toList == E3.toList) = false := by simp [n3]
  clear hb9 hE3 hs8
  go_wp2
  go_ret
  exact ⟨rfl, HB9.out⟩

set_option maxHeartbeats 400000 in
theorem turned_out (w : World) (ao : Option Addr) (n cap : Nat) (at_ : Int) (more : Bool) (h : 500 < n ∨ at_ < 0 ∨ (n : Int) ≤ at_) :
    Calls Try.prog 6 #[.slice ao n cap, .int .i64 at_, .bool more] w fun e w' => e = .returned (.bool true) ∧ Below w.heap.size w w' := by
  by_cases c1 : (500 : Int) < (n : Int)
  · go_enter Try.func6, Try.ntmps6
    go_wp2_with fail
    refine (alive_any w).mono ?_
    rintro e w1 ⟨rfl, hb1⟩
    go_wp2
    go_ret
    exact ⟨rfl, hb1⟩
  · by_cases c2 : at_ < 0
    · go_enter Try.func6, Try.ntmps6
      go_wp2_with fail
      refine (alive_any w).mono ?_
      rintro e w1 ⟨rfl, hb1⟩
      go_wp2
      go_ret
      exact ⟨rfl, hb1⟩
    · have c3 : (n : Int) ≤ at_ := by omega
      go_enter Try.func6, Try.ntmps6
      go_wp2_with fail
      refine (alive_any w).mono ?_
      rintro e w1 ⟨rfl, hb1⟩
      go_wp2
      go_ret
      exact ⟨rfl, hb1⟩

theorem turned_all (w : World) (ao : Option Addr) (n cap : Nat) (l : List Bool) (at_ : Int) (more : Bool) (hn : l.length = n) (hu : Row w w.heap.size (.slice ao n cap) l) :
    Calls Try.prog 6 #[.slice ao n cap, .int .i64 at_, .bool more] w fun e w' => e = .returned (.bool true) ∧ Below w.heap.size w w' := by
  by_cases h : 500 < n ∨ at_ < 0 ∨ (n : Int) ≤ at_
  · exact turned_out w ao n cap at_ more h
  · obtain ⟨k, rfl⟩ : ∃ k : Nat, at_ = k := ⟨at_.toNat, by omega⟩
    exact turned_in w ao n cap k more l hn hu (by omega) (by omega)

end Go.Proofs.Ytllpgpbonmcbjaa
