/-
  The walk of BitlistIs: the first half, up to what Put and Size answer.
-/
import Derived.Test.YtllpgpbonmcbjaaRefBytes
import Derived.Test.YtllpgpbonmcbjaaRefGet
import Derived.Deep.RegionWith
import Derived.Deep.DeepCutAuto
namespace Go.Proofs.Ytllpgpbonmcbjaa
open Go.RowKit
set_option linter.unusedSimpArgs false

/-- What '[]byte(s)' answers, and the world behind it, under names of their own. -/
def bytesVal (W : World) (s : ByteArray) : Value := .slice (some ⟨W.heap.size, 0, none⟩) s.size (grownCap W s.size 0 5)
def bytesWorld (W : World) (s : ByteArray) : World :=
  W.drew.alloc (.cells (bytesRow s (grownCap W s.size 0 5)) 5 ((bytesRow s (grownCap W s.size 0 5)).size, (bytesRow s (grownCap W s.size 0 5)).size + 1))

theorem bytes_run (W : World) (s : ByteArray) : Sem.run Try.prog (convert 9 24 (.string s)) W = .ok (bytesVal W s) (bytesWorld W s) :=
  run_bytes_of_string (P := Try.prog) W 9 24 5 s Try.underlying9 Try.underlying24 Try.underlying5

theorem bytes_held (W : World) (s : ByteArray) (hm : s.size ≤ maxLen) : Held (bytesWorld W s) W.heap.size (bytesVal W s) (bv s.data.toList) ∧ Below W.heap.size W (bytesWorld W s) := by
  obtain ⟨v, w', hr, hh, hb⟩ := held_bytes (P := Try.prog) W 9 24 5 s Try.underlying9 Try.underlying24 Try.underlying5 hm
  rw [bytes_run] at hr
  cases hr
  exact ⟨hh, hb⟩

theorem join_bytes (s : ByteArray) (l : List UInt8) : (⟨(s.data.toList ++ l).toArray⟩ : ByteArray) = s ++ bstr l := by
  apply ByteArray.ext
  simp [bstr]

theorem put_bytes (W : World) (s : ByteArray) (u : Value) (l : List Bool) (hu : Row W W.heap.size u l) (hs : s.size ≤ 100) (hl : l.length ≤ 500) :
    Calls Try.prog 9 #[bytesVal W s, u] (bytesWorld W s) fun e w' => ∃ v', e = .returned v' ∧ Hid (∀ w2, Below w'.heap.size w' w2 → Sem.run Try.prog (convert 24 9 v') w2 = .ok (.string (s ++ bstr (enc l))) w2) ∧ Below W.heap.size W w' := by
  have hm : s.size ≤ maxLen := by unfold maxLen; omega
  obtain ⟨hh, hb⟩ := bytes_held W s hm
  refine (put_any (bytesWorld W s) W.heap.size (bytesVal W s) s.data.toList u l hh hb.size (hu.keep hb) ?_ (by omega)).mono fun e w' ⟨v', h1, h2, h3⟩ => ⟨v', h1, Lib.hid fun w2 hb2 => ?_, hb.trans ((Below.refl _ _).grown h3.grown hb.size ?_)⟩
  · have : s.data.toList.length = s.size := Array.length_toList
    omega
  · rw [← join_bytes]
    exact (h2.below hb2).string (P := Try.prog) 24 9 5 Try.underlying24 Try.underlying5 Try.underlying9
  · intro k hk
    unfold bytesVal Value.ownBlock at hk
    cases hk
    exact Nat.le_refl _

theorem not_bad {s : ByteArray} {m : Nat} (hm : IsLen s.data.toList m) : ¬ Bad s := by
  intro h
  have h1 := hm.size
  have h2 := hm.lo
  have hlen : s.data.toList.length = s.size := Array.length_toList
  rcases h with h | ⟨h0, h⟩
  · omega
  · have hd : s.data.toList.drop (s.size - 1) = [s[s.size - 1]] := by
      rw [List.drop_eq_getElem_cons (by omega), List.drop_of_length_le (by omega)]; rfl
    have hz : leN s.data.toList / 256 ^ (s.size - 1) = 0 := by
      rw [leN_drop, hd]
      simp [leN, h]
    have hpos : 0 < 256 ^ (s.size - 1) := Nat.pow_pos (by omega)
    rw [Nat.div_eq_zero_iff_lt hpos, pow_bytes] at hz
    have : 2 ^ (8 * (s.size - 1)) ≤ 2 ^ m := Nat.pow_le_pow_right (by omega) (by omega)
    omega

theorem refget_no (w : World) (s : ByteArray) (most : Int) (hs : s.size ≤ 100) (hbad : Bad s) :
    Calls Try.prog 13 #[.string s, .int .i64 most] w fun e w' => e = .returned (.tuple #[.slice none 0 0, .bool false]) ∧ Below w.heap.size w w' :=
  (refget_any w s most hs).mono fun e w' h => by
    rcases h with ⟨_, h1, h2⟩ | ⟨m, v, hm, _⟩
    · exact ⟨h1, h2⟩
    · exact absurd hbad (not_bad hm)

theorem refget_ok (w : World) (s : ByteArray) (most : Int) (m : Nat) (hs : s.size ≤ 100) (hm : IsLen s.data.toList m) :
    Calls Try.prog 13 #[.string s, .int .i64 most] w fun e w' => ∃ v, e = .returned (.tuple #[v, .bool (decide ((m : Int) ≤ most))]) ∧ Row w' w'.heap.size v (dec (leN s.data.toList) m) ∧ Below w.heap.size w w' :=
  (refget_any w s most hs).mono fun e w' h => by
    rcases h with ⟨hb, _⟩ | ⟨m', v, hm', h1, h2, h3⟩
    · exact absurd hb (not_bad hm)
    · obtain rfl := hm.unique hm'
      exact ⟨v, h1, h2, h3⟩

theorem pl_at (l : List Bool) (i : Nat) (h : l.getD i false = true) : ∀ n, i < n → (pl l n)[(pl l i).length]? = some i
  | 0, hn => absurd hn (by omega)
  | n + 1, hn => by
    rw [pl]
    by_cases e : i = n
    · subst e
      rw [List.getElem?_append_right (Nat.le_refl _), Nat.sub_self, if_pos h]
      rfl
    · have ih := pl_at l i h n (by omega)
      rw [List.getElem?_append_left (List.getElem?_eq_some_iff.1 ih).1]
      exact ih

theorem Row.at_ {w : World} {B : Nat} {ao : Option Addr} {n cap : Nat} {l : List Bool} (h : Row w B (.slice ao n cap) l) {j : Nat} {x : Bool} (hj : l[j]? = some x) : ∃ b off, ao = some ⟨b, off, none⟩ ∧ w.cell? ⟨b, off + j, none⟩ = some (.bool x) := by
  obtain ⟨ao', cap', b, off, he, _, _, h⟩ := h
  have he1 : ao = ao' := by injection he
  subst he1
  have hl := (List.getElem?_eq_some_iff.1 hj).1
  exact ⟨b, off, h.addr (by omega), h.cells j x hj⟩

set_option maxRecDepth 100000 in
set_option maxHeartbeats 4000000 in
theorem is_in (w : World) (s0 : ByteArray) (ao : Option Addr) (n cap : Nat) (l : List Bool) (s : ByteArray) (most : Int) (hn : l.length = n) (hu : Row w w.heap.size (.slice ao n cap) l) (h0 : s0.size ≤ 100) (hl : n ≤ 500) (hs : s.size ≤ 100) :
    Calls Try.prog 3 #[.string s0, .slice ao n cap, .string s, .int .i64 most] w fun e w' => e = .returned (.bool true) ∧ Below w.heap.size w w' := by
  have HN := Lib.hid hn
  have HU := Lib.hid hu
  clear hn hu
  have c0 : ¬ ((100 : Int) < (s0.size : Int)) := by omega
  have c1 : ¬ ((500 : Int) < (n : Int)) := by omega
  have c2 : ¬ ((100 : Int) < (s.size : Int)) := by omega
  obtain ⟨E, hE⟩ : ∃ E, E = bstr (enc l) := ⟨_, rfl⟩
  have hEs : E.size = n / 8 + 1 := by rw [hE, bstr_size, enc_length, HN.out]
  have HE := Lib.hid hE
  have hsz := fun w => size_any w n (by omega)
  rw [← hEs] at hsz
  have HSZ := Lib.hid hsz
  have hsum : ¬ 9223372036854775807 < s0.size + E.size := by omega
  clear hE hsz hEs
  go_enter Try.func3, Try.ntmps3
  go_wp2_with fail
  refine (alive_any w).mono ?_
  rintro e w1 ⟨rfl, hb1⟩
  go_wp2_with fail
  go_cut [56] (fun x wr => x = .bool false ∧ Below w.heap.size w wr)
  case first =>
    refine wp_region_any (by kernel_rfl) ?_
    try (change wpAny _ _ _ _ _ _ _ (World.drew _))
    have hb0 : Below w.heap.size w w1.drew := hb1.drew
    generalize w1.drew = w0 at hb0 ⊢
    have HB0 := Lib.hid hb0
    clear hb0 hb1
    have hcv := bytes_run w0 s0
    refine wpAny_take (i := 0) (v := ?_) rfl (by kernel_rfl) (by kernel_rfl) (by kernel_rfl) (fun _ _ _ h => h) (Or.inl ⟨by rfl, ?_⟩) ?_
    rotate_left
    · intro w
      go_simp
      try with_reducible rfl
    simp only [Act.put, List.getElem_toArray, List.getElem_cons_succ, List.getElem_cons_zero, List.setIfInBounds_toArray, List.set_cons_zero, List.set_cons_succ]
    refine wpAny_take (i := 2) (v := ?_) rfl (by kernel_rfl) (by kernel_rfl) (by kernel_rfl) (fun _ _ _ h => h) (Or.inl ⟨by rfl, ?_⟩) ?_
    rotate_left
    · intro w
      go_simp
      try with_reducible rfl
    simp only [Act.put, List.getElem_toArray, List.getElem_cons_succ, List.getElem_cons_zero, List.setIfInBounds_toArray, List.set_cons_zero, List.set_cons_succ]
    refine wpAny_take (i := 5) (v := ?_) rfl (by kernel_rfl) (by kernel_rfl) (by kernel_rfl) (fun _ _ _ h => h) (Or.inl ⟨by rfl, ?_⟩) ?_
    rotate_left
    · intro w
      go_simp
      try with_reducible rfl
    simp only [Act.put, List.getElem_toArray, List.getElem_cons_succ, List.getElem_cons_zero, List.setIfInBounds_toArray, List.set_cons_zero, List.set_cons_succ]
    refine wpAny_take (i := 6) (v := ?_) rfl (by kernel_rfl) (by kernel_rfl) (by kernel_rfl) (fun _ _ _ h => h) (Or.inl ⟨by rfl, ?_⟩) ?_
    rotate_left
    · intro w
      go_simp
      try with_reducible rfl
    simp only [Act.put, List.getElem_toArray, List.getElem_cons_succ, List.getElem_cons_zero, List.setIfInBounds_toArray, List.set_cons_zero, List.set_cons_succ]
    refine wpAny_ready (rs := [1]) (by kernel_rfl) (by simp) ?_
    refine AllReady.cons rfl (fun K hK => ?_) ?_
    · go_simp
      refine hK _ _ ?_
      clear hK K
      try simp only [Act.put, List.getElem_toArray, List.getElem_cons_succ, List.getElem_cons_zero, List.setIfInBounds_toArray, List.set_cons_zero, List.set_cons_succ]
      clear hcv
      refine wpAny_ready (rs := [3]) (by kernel_rfl) (by simp) ?_
      refine AllReady.cons rfl (fun K hK => ?_) ?_
      · go_simp
        refine (put_bytes w0 s0 _ l ((HU.out.keep HB0.out).more HB0.out.size) h0 (by rw [HN.out]; exact hl)).mono ?_
        rintro e w2 ⟨v2, rfl, hs2, hb2⟩
        rw [← HE.out] at hs2
        have HB2 := Lib.hid (HB0.out.trans (hb2.mono HB0.out.size))
        clear hb2
        refine hK _ _ ?_
        clear hK K
        have hc2 := hs2.out w2 (Below.refl _ _)
        try simp only [Act.put, List.getElem_toArray, List.getElem_cons_succ, List.getElem_cons_zero, List.setIfInBounds_toArray, List.set_cons_zero, List.set_cons_succ]
        refine wpAny_ready (rs := [4, 7]) (by kernel_rfl) (by simp) ?_
        refine AllReady.cons rfl (fun K hK => ?_) ?_
        · go_simp
          refine hK _ _ ?_
          clear hK K
          try simp only [Act.put, List.getElem_toArray, List.getElem_cons_succ, List.getElem_cons_zero, List.setIfInBounds_toArray, List.set_cons_zero, List.set_cons_succ]
          clear hc2 hs2
          refine wpAny_ready (rs := [7]) (by kernel_rfl) (by simp) ?_
          refine AllReady.cons rfl (fun K hK => ?_) ?_
          · go_simp
            refine (refbytes_any _ ao n cap l HN.out ((HU.out.keep HB2.out).more HB2.out.size) hl).mono ?_
            rintro e w3 ⟨rfl, hb3⟩
            rw [← HE.out]
            refine hK _ _ ?_
            clear hK K
            try simp only [Act.put, List.getElem_toArray, List.getElem_cons_succ, List.getElem_cons_zero, List.setIfInBounds_toArray, List.set_cons_zero, List.set_cons_succ]
            have HB3 := Lib.hid (HB2.out.trans (hb3.mono HB2.out.size))
            clear hb3
            refine wpAny_take (i := 8) (v := ?_) rfl (by kernel_rfl) (by kernel_rfl) (by kernel_rfl) (fun _ _ _ h => h) (Or.inl ⟨by rfl, ?_⟩) ?_
            rotate_left
            · intro w
              go_simp
              try with_reducible rfl
            simp only [Act.put, List.getElem_toArray, List.getElem_cons_succ, List.getElem_cons_zero, List.setIfInBounds_toArray, List.set_cons_zero, List.set_cons_succ]
            refine wpAny_take (i := 9) (v := ?_) rfl (by kernel_rfl) (by kernel_rfl) (by kernel_rfl) (fun _ _ _ h => h) (Or.inl ⟨by rfl, ?_⟩) ?_
            rotate_left
            · intro w
              go_simp
              try with_reducible rfl
            simp only [Act.put, List.getElem_toArray, List.getElem_cons_succ, List.getElem_cons_zero, List.setIfInBounds_toArray, List.set_cons_zero, List.set_cons_succ]
            refine wpAny_take (i := 10) (v := ?_) rfl (by kernel_rfl) (by kernel_rfl) (by kernel_rfl) (fun _ _ _ h => h) (Or.inl ⟨by rfl, ?_⟩) ?_
            rotate_left
            · intro w
              go_simp
              try with_reducible rfl
            simp only [Act.put, List.getElem_toArray, List.getElem_cons_succ, List.getElem_cons_zero, List.setIfInBounds_toArray, List.set_cons_zero, List.set_cons_succ]
            refine wpAny_take (i := 11) (v := ?_) rfl (by kernel_rfl) (by kernel_rfl) (by kernel_rfl) (fun _ _ _ h => h) (Or.inl ⟨by rfl, ?_⟩) ?_
            rotate_left
            · intro w
              go_simp
              try with_reducible rfl
            simp only [Act.put, List.getElem_toArray, List.getElem_cons_succ, List.getElem_cons_zero, List.setIfInBounds_toArray, List.set_cons_zero, List.set_cons_succ]
            refine wpAny_take (i := 12) (v := ?_) rfl (by kernel_rfl) (by kernel_rfl) (by kernel_rfl) (fun _ _ _ h => h) (Or.inl ⟨by rfl, ?_⟩) ?_
            rotate_left
            · intro w
              go_simp
              try with_reducible rfl
            simp only [Act.put, List.getElem_toArray, List.getElem_cons_succ, List.getElem_cons_zero, List.setIfInBounds_toArray, List.set_cons_zero, List.set_cons_succ]
            refine wpAny_take (i := 14) (v := ?_) rfl (by kernel_rfl) (by kernel_rfl) (by kernel_rfl) (fun _ _ _ h => h) (Or.inl ⟨by rfl, ?_⟩) ?_
            rotate_left
            · intro w
              go_simp
              try with_reducible rfl
            simp only [Act.put, List.getElem_toArray, List.getElem_cons_succ, List.getElem_cons_zero, List.setIfInBounds_toArray, List.set_cons_zero, List.set_cons_succ]
            refine wpAny_ready (rs := [13]) (by kernel_rfl) (by simp) ?_
            refine AllReady.cons rfl (fun K hK => ?_) ?_
            · go_simp
              refine (HSZ.out _).mono ?_
              rintro e w9 ⟨rfl, rfl⟩
              refine hK _ _ ?_
              clear hK K
              try simp only [Act.put, List.getElem_toArray, List.getElem_cons_succ, List.getElem_cons_zero, List.setIfInBounds_toArray, List.set_cons_zero, List.set_cons_succ]
              refine wpAny_ready (rs := [15]) (by kernel_rfl) (by simp) ?_
              refine AllReady.cons rfl (fun K hK => ?_) ?_
              · go_simp
                refine (refbytes_any _ ao n cap l HN.out ((HU.out.keep HB3.out).more HB3.out.size) hl).mono ?_
                rintro e w5 ⟨rfl, hb5⟩
                rw [← HE.out]
                refine hK _ _ ?_
                clear hK K
                try simp only [Act.put, List.getElem_toArray, List.getElem_cons_succ, List.getElem_cons_zero, List.setIfInBounds_toArray, List.set_cons_zero, List.set_cons_succ]
                have HB5 := Lib.hid (HB3.out.trans (hb5.mono HB3.out.size))
                clear hb5
                refine wpAny_take (i := 16) (v := ?_) rfl (by kernel_rfl) (by kernel_rfl) (by kernel_rfl) (fun _ _ _ h => h) (Or.inl ⟨by rfl, ?_⟩) ?_
                rotate_left
                · intro w
                  go_simp
                  try with_reducible rfl
                simp only [Act.put, List.getElem_toArray, List.getElem_cons_succ, List.getElem_cons_zero, List.setIfInBounds_toArray, List.set_cons_zero, List.set_cons_succ]
                refine wpAny_take (i := 17) (v := ?_) rfl (by kernel_rfl) (by kernel_rfl) (by kernel_rfl) (fun _ _ _ h => h) (Or.inl ⟨by rfl, ?_⟩) ?_
                rotate_left
                · intro w
                  go_simp
                  try with_reducible rfl
                simp only [Act.put, List.getElem_toArray, List.getElem_cons_succ, List.getElem_cons_zero, List.setIfInBounds_toArray, List.set_cons_zero, List.set_cons_succ]
                refine wpAny_take (i := 18) (v := ?_) rfl (by kernel_rfl) (by kernel_rfl) (by kernel_rfl) (fun _ _ _ h => h) (Or.inl ⟨by rfl, ?_⟩) ?_
                rotate_left
                · intro w
                  go_simp
                  try with_reducible rfl
                simp only [Act.put, List.getElem_toArray, List.getElem_cons_succ, List.getElem_cons_zero, List.setIfInBounds_toArray, List.set_cons_zero, List.set_cons_succ]
                refine wpAny_take (i := 19) (v := ?_) rfl (by kernel_rfl) (by kernel_rfl) (by kernel_rfl) (fun _ _ _ h => h) (Or.inl ⟨by rfl, ?_⟩) ?_
                rotate_left
                · intro w
                  go_simp
                  try with_reducible rfl
                simp only [Act.put, List.getElem_toArray, List.getElem_cons_succ, List.getElem_cons_zero, List.setIfInBounds_toArray, List.set_cons_zero, List.set_cons_succ]
                refine wpAny_take (i := 20) (v := ?_) rfl (by kernel_rfl) (by kernel_rfl) (by kernel_rfl) (fun _ _ _ h => h) (Or.inl ⟨by rfl, ?_⟩) ?_
                rotate_left
                · intro w
                  go_simp
                  try with_reducible rfl
                simp only [Act.put, List.getElem_toArray, List.getElem_cons_succ, List.getElem_cons_zero, List.setIfInBounds_toArray, List.set_cons_zero, List.set_cons_succ]
                refine wpAny_take (i := 21) (v := ?_) rfl (by kernel_rfl) (by kernel_rfl) (by kernel_rfl) (fun _ _ _ h => h) (Or.inl ⟨by rfl, ?_⟩) ?_
                rotate_left
                · intro w
                  go_simp
                  try with_reducible rfl
                simp only [Act.put, List.getElem_toArray, List.getElem_cons_succ, List.getElem_cons_zero, List.setIfInBounds_toArray, List.set_cons_zero, List.set_cons_succ]
                refine wpAny_ready (rs := [22]) (by kernel_rfl) (by simp) ?_
                refine AllReady.cons rfl (fun K hK => ?_) ?_
                · go_simp
                  refine (size_low _ _ (by omega)).mono ?_
                  rintro e w9 ⟨rfl, rfl⟩
                  refine hK _ _ ?_
                  clear hK K
                  try simp only [Act.put, List.getElem_toArray, List.getElem_cons_succ, List.getElem_cons_zero, List.setIfInBounds_toArray, List.set_cons_zero, List.set_cons_succ]
                  refine wpAny_take (i := 23) (v := ?_) rfl (by kernel_rfl) (by kernel_rfl) (by kernel_rfl) (fun _ _ _ h => h) (Or.inl ⟨by rfl, ?_⟩) ?_
                  rotate_left
                  · intro w
                    go_simp
                    try with_reducible rfl
                  simp only [Act.put, List.getElem_toArray, List.getElem_cons_succ, List.getElem_cons_zero, List.setIfInBounds_toArray, List.set_cons_zero, List.set_cons_succ]
                  refine wpAny_take (i := 24) (v := ?_) rfl (by kernel_rfl) (by kernel_rfl) (by kernel_rfl) (fun _ _ _ h => h) (Or.inl ⟨by rfl, ?_⟩) ?_
                  rotate_left
                  · intro w
                    go_simp
                    try with_reducible rfl
                  simp only [Act.put, List.getElem_toArray, List.getElem_cons_succ, List.getElem_cons_zero, List.setIfInBounds_toArray, List.set_cons_zero, List.set_cons_succ]
                  refine wpAny_done (by kernel_rfl) ?_ _
                  go_wp2_with fail
                  all_goals
                    go_meet
                    case rel => exact ⟨rfl, HB5.out⟩
                exact AllReady.nil
              exact AllReady.nil
            exact AllReady.nil
          exact AllReady.nil
        refine AllReady.cons rfl (fun K hK => ?_) ?_
        · go_simp
          refine (refbytes_any _ ao n cap l HN.out ((HU.out.keep HB2.out).more HB2.out.size) hl).mono ?_
          rintro e w3 ⟨rfl, hb3⟩
          rw [← HE.out]
          refine hK _ _ ?_
          clear hK K
          try simp only [Act.put, List.getElem_toArray, List.getElem_cons_succ, List.getElem_cons_zero, List.setIfInBounds_toArray, List.set_cons_zero, List.set_cons_succ]
          have hc3 := hs2.out w3 hb3
          have HB3 := Lib.hid (HB2.out.trans (hb3.mono HB2.out.size))
          clear hb3 hc2 hs2
          refine wpAny_take (i := 8) (v := ?_) rfl (by kernel_rfl) (by kernel_rfl) (by kernel_rfl) (fun _ _ _ h => h) (Or.inl ⟨by rfl, ?_⟩) ?_
          rotate_left
          · intro w
            go_simp
            try with_reducible rfl
          simp only [Act.put, List.getElem_toArray, List.getElem_cons_succ, List.getElem_cons_zero, List.setIfInBounds_toArray, List.set_cons_zero, List.set_cons_succ]
          refine wpAny_ready (rs := [4]) (by kernel_rfl) (by simp) ?_
          refine AllReady.cons rfl (fun K hK => ?_) ?_
          · go_simp
            refine hK _ _ ?_
            clear hK K
            try simp only [Act.put, List.getElem_toArray, List.getElem_cons_succ, List.getElem_cons_zero, List.setIfInBounds_toArray, List.set_cons_zero, List.set_cons_succ]
            clear hc3
            refine wpAny_take (i := 9) (v := ?_) rfl (by kernel_rfl) (by kernel_rfl) (by kernel_rfl) (fun _ _ _ h => h) (Or.inl ⟨by rfl, ?_⟩) ?_
            rotate_left
            · intro w
              go_simp
              try with_reducible rfl
            simp only [Act.put, List.getElem_toArray, List.getElem_cons_succ, List.getElem_cons_zero, List.setIfInBounds_toArray, List.set_cons_zero, List.set_cons_succ]
            refine wpAny_take (i := 10) (v := ?_) rfl (by kernel_rfl) (by kernel_rfl) (by kernel_rfl) (fun _ _ _ h => h) (Or.inl ⟨by rfl, ?_⟩) ?_
            rotate_left
            · intro w
              go_simp
              try with_reducible rfl
            simp only [Act.put, List.getElem_toArray, List.getElem_cons_succ, List.getElem_cons_zero, List.setIfInBounds_toArray, List.set_cons_zero, List.set_cons_succ]
            refine wpAny_take (i := 11) (v := ?_) rfl (by kernel_rfl) (by kernel_rfl) (by kernel_rfl) (fun _ _ _ h => h) (Or.inl ⟨by rfl, ?_⟩) ?_
            rotate_left
            · intro w
              go_simp
              try with_reducible rfl
            simp only [Act.put, List.getElem_toArray, List.getElem_cons_succ, List.getElem_cons_zero, List.setIfInBounds_toArray, List.set_cons_zero, List.set_cons_succ]
            refine wpAny_take (i := 12) (v := ?_) rfl (by kernel_rfl) (by kernel_rfl) (by kernel_rfl) (fun _ _ _ h => h) (Or.inl ⟨by rfl, ?_⟩) ?_
            rotate_left
            · intro w
              go_simp
              try with_reducible rfl
            simp only [Act.put, List.getElem_toArray, List.getElem_cons_succ, List.getElem_cons_zero, List.setIfInBounds_toArray, List.set_cons_zero, List.set_cons_succ]
            refine wpAny_take (i := 14) (v := ?_) rfl (by kernel_rfl) (by kernel_rfl) (by kernel_rfl) (fun _ _ _ h => h) (Or.inl ⟨by rfl, ?_⟩) ?_
            rotate_left
            · intro w
              go_simp
              try with_reducible rfl
            simp only [Act.put, List.getElem_toArray, List.getElem_cons_succ, List.getElem_cons_zero, List.setIfInBounds_toArray, List.set_cons_zero, List.set_cons_succ]
            refine wpAny_ready (rs := [13]) (by kernel_rfl) (by simp) ?_
            refine AllReady.cons rfl (fun K hK => ?_) ?_
            · go_simp
              refine (HSZ.out _).mono ?_
              rintro e w9 ⟨rfl, rfl⟩
              refine hK _ _ ?_
              clear hK K
              try simp only [Act.put, List.getElem_toArray, List.getElem_cons_succ, List.getElem_cons_zero, List.setIfInBounds_toArray, List.set_cons_zero, List.set_cons_succ]
              refine wpAny_ready (rs := [15]) (by kernel_rfl) (by simp) ?_
              refine AllReady.cons rfl (fun K hK => ?_) ?_
              · go_simp
                refine (refbytes_any _ ao n cap l HN.out ((HU.out.keep HB3.out).more HB3.out.size) hl).mono ?_
                rintro e w5 ⟨rfl, hb5⟩
                rw [← HE.out]
                refine hK _ _ ?_
                clear hK K
                try simp only [Act.put, List.getElem_toArray, List.getElem_cons_succ, List.getElem_cons_zero, List.setIfInBounds_toArray, List.set_cons_zero, List.set_cons_succ]
                have HB5 := Lib.hid (HB3.out.trans (hb5.mono HB3.out.size))
                clear hb5
                refine wpAny_take (i := 16) (v := ?_) rfl (by kernel_rfl) (by kernel_rfl) (by kernel_rfl) (fun _ _ _ h => h) (Or.inl ⟨by rfl, ?_⟩) ?_
                rotate_left
                · intro w
                  go_simp
                  try with_reducible rfl
                simp only [Act.put, List.getElem_toArray, List.getElem_cons_succ, List.getElem_cons_zero, List.setIfInBounds_toArray, List.set_cons_zero, List.set_cons_succ]
                refine wpAny_take (i := 17) (v := ?_) rfl (by kernel_rfl) (by kernel_rfl) (by kernel_rfl) (fun _ _ _ h => h) (Or.inl ⟨by rfl, ?_⟩) ?_
                rotate_left
                · intro w
                  go_simp
                  try with_reducible rfl
                simp only [Act.put, List.getElem_toArray, List.getElem_cons_succ, List.getElem_cons_zero, List.setIfInBounds_toArray, List.set_cons_zero, List.set_cons_succ]
                refine wpAny_take (i := 18) (v := ?_) rfl (by kernel_rfl) (by kernel_rfl) (by kernel_rfl) (fun _ _ _ h => h) (Or.inl ⟨by rfl, ?_⟩) ?_
                rotate_left
                · intro w
                  go_simp
                  try with_reducible rfl
                simp only [Act.put, List.getElem_toArray, List.getElem_cons_succ, List.getElem_cons_zero, List.setIfInBounds_toArray, List.set_cons_zero, List.set_cons_succ]
                refine wpAny_take (i := 19) (v := ?_) rfl (by kernel_rfl) (by kernel_rfl) (by kernel_rfl) (fun _ _ _ h => h) (Or.inl ⟨by rfl, ?_⟩) ?_
                rotate_left
                · intro w
                  go_simp
                  try with_reducible rfl
                simp only [Act.put, List.getElem_toArray, List.getElem_cons_succ, List.getElem_cons_zero, List.setIfInBounds_toArray, List.set_cons_zero, List.set_cons_succ]
                refine wpAny_take (i := 20) (v := ?_) rfl (by kernel_rfl) (by kernel_rfl) (by kernel_rfl) (fun _ _ _ h => h) (Or.inl ⟨by rfl, ?_⟩) ?_
                rotate_left
                · intro w
                  go_simp
                  try with_reducible rfl
                simp only [Act.put, List.getElem_toArray, List.getElem_cons_succ, List.getElem_cons_zero, List.setIfInBounds_toArray, List.set_cons_zero, List.set_cons_succ]
                refine wpAny_take (i := 21) (v := ?_) rfl (by kernel_rfl) (by kernel_rfl) (by kernel_rfl) (fun _ _ _ h => h) (Or.inl ⟨by rfl, ?_⟩) ?_
                rotate_left
                · intro w
                  go_simp
                  try with_reducible rfl
                simp only [Act.put, List.getElem_toArray, List.getElem_cons_succ, List.getElem_cons_zero, List.setIfInBounds_toArray, List.set_cons_zero, List.set_cons_succ]
                refine wpAny_ready (rs := [22]) (by kernel_rfl) (by simp) ?_
                refine AllReady.cons rfl (fun K hK => ?_) ?_
                · go_simp
                  refine (size_low _ _ (by omega)).mono ?_
                  rintro e w9 ⟨rfl, rfl⟩
                  refine hK _ _ ?_
                  clear hK K
                  try simp only [Act.put, List.getElem_toArray, List.getElem_cons_succ, List.getElem_cons_zero, List.setIfInBounds_toArray, List.set_cons_zero, List.set_cons_succ]
                  refine wpAny_take (i := 23) (v := ?_) rfl (by kernel_rfl) (by kernel_rfl) (by kernel_rfl) (fun _ _ _ h => h) (Or.inl ⟨by rfl, ?_⟩) ?_
                  rotate_left
                  · intro w
                    go_simp
                    try with_reducible rfl
                  simp only [Act.put, List.getElem_toArray, List.getElem_cons_succ, List.getElem_cons_zero, List.setIfInBounds_toArray, List.set_cons_zero, List.set_cons_succ]
                  refine wpAny_take (i := 24) (v := ?_) rfl (by kernel_rfl) (by kernel_rfl) (by kernel_rfl) (fun _ _ _ h => h) (Or.inl ⟨by rfl, ?_⟩) ?_
                  rotate_left
                  · intro w
                    go_simp
                    try with_reducible rfl
                  simp only [Act.put, List.getElem_toArray, List.getElem_cons_succ, List.getElem_cons_zero, List.setIfInBounds_toArray, List.set_cons_zero, List.set_cons_succ]
                  refine wpAny_done (by kernel_rfl) ?_ _
                  go_wp2_with fail
                  all_goals
                    go_meet
                    case rel => exact ⟨rfl, HB5.out⟩
                exact AllReady.nil
              exact AllReady.nil
            exact AllReady.nil
          exact AllReady.nil
        exact AllReady.nil
      exact AllReady.nil
    exact AllReady.nil
  case rest =>
    obtain ⟨rfl, hb⟩ := hcut
    have HB := Lib.hid hb
    clear hb hb1 hsum HSZ HE
    go_wp2_with fail
    rcases isLen_or s with hbad | ⟨m, hm, _⟩
    · refine (get_bad wc s most (by omega) hbad).mono ?_
      rintro e w2 ⟨rfl, rfl⟩
      have HG := Lib.hid (refget_no wc s most hs hbad)
      clear hbad
      go_wp2_with fail
      refine HG.out.mono ?_
      rintro e w3 ⟨rfl, hb3⟩
      have HB3 := Lib.hid (HB.out.trans (hb3.mono HB.out.size))
      clear hb3 HG
      go_wp2_with fail
      refine (places_any w3 w.heap.size _ l HB3.out.size (HU.out.keep HB3.out) (by rw [HN.out]; omega)).mono ?_
      rintro e w7 ⟨v7, rfl, hh7, hb7⟩
      rw [HN.out] at hh7
      have HB7 := Lib.hid (HB3.out.trans (hb7.mono HB3.out.size))
      clear hb7
      obtain ⟨M, pcap, pg, poff, pao, rfl, hp⟩ := hh7
      have hM : M = (pl l n).length := by rw [hp.len, iv_length]
      have hMn : M ≤ n := by rw [hM]; exact pl_length l n
      have HM := Lib.hid hM
      have HC := Lib.hid (fun (j q : Nat) (h : (pl l n)[j]? = some q) => hp.cells j (.int .i64 (q : Int)) (by rw [iv, List.getElem?_map, h]; rfl))
      have HA := Lib.hid (fun (h : 0 < M) => hp.addr (Nat.lt_of_lt_of_le h hp.le))
      have HR := Lib.hid (HU.out.keep HB7.out)
      clear hM hp
      go_wp2_with fail
      go_loop [14, 94] (fun t i => ∃ k : Nat, k ≤ n ∧ i = .int .i64 k ∧ t = .int .i64 ((pl l k).length : Nat)) (fun _ i => n - (intOf i).toNat)
      case atStart => exact ⟨0, Nat.zero_le _, rfl, rfl⟩
      case round =>
        obtain ⟨k, hk, rfl, rfl⟩ := hrel
        have hkb := pl_length l k
        by_cases hlt : k < n
        · have hkl : k < l.length := by rw [HN.out]; exact hlt
          obtain ⟨x, hx⟩ : ∃ x, l[k]? = some x := ⟨_, List.getElem?_eq_getElem hkl⟩
          obtain ⟨b, off, rfl, hc⟩ := HR.out.at_ hx
          have hgd : l.getD k false = x := by rw [List.getD_eq_getElem?_getD, hx]; rfl
          cases x
          · have HS := Lib.hid (show (pl l (k + 1)).length = (pl l k).length by rw [pl, hgd]; simp)
            clear hgd hx hkl
            go_wp2
            go_round
            case rel => exact ⟨k + 1, by omega, by go_num, by rw [HS.out]⟩
            case measure => simp [intOf]; omega
          · have HS := Lib.hid (show (pl l (k + 1)).length = (pl l k).length + 1 by rw [pl, hgd]; simp)
            have hat := pl_at l k hgd n hlt
            have hatl : (pl l k).length < M := by rw [HM.out]; exact (List.getElem?_eq_some_iff.1 hat).1
            have hc2 := HC.out _ k hat
            obtain rfl := HA.out (by omega)
            clear hgd hx hkl hat
            generalize (pl l k).length = t at HS hatl hc2 hkb ⊢
            have t1 : ¬ ((M : Int) ≤ (t : Int)) := by omega
            go_wp2
            go_round
            case rel => exact ⟨k + 1, by omega, by go_num, by rw [HS.out]; go_num⟩
            case measure => simp [intOf]; omega
        · obtain rfl : k = n := by omega
          rw [← HM.out]
          go_wp2
          go_ret
          exact ⟨rfl, HB7.out⟩
    · have HG := Lib.hid (fun W => refget_ok W s most m hs hm)
      have hdl := dec_length (leN s.data.toList) m
      have hm1 : m ≤ 800 := by
        have hsz := hm.size
        rw [Array.length_toList] at hsz
        change _ = s.size at hsz
        omega
      by_cases hmost : (m : Int) ≤ most
      · have hd : decide ((m : Int) ≤ most) = true := by simpa using hmost
        rw [hd] at HG
        refine (get_yes wc s most m (by omega) hm hmost).mono ?_
        rintro e w2 ⟨rfl, hm2, hb2⟩
        have HB2 := Lib.hid (HB.out.trans (hb2.mono HB.out.size))
        have HM2 := Lib.hid hm2
        have HDL := Lib.hid hdl
        clear hb2 hm2 hm hd hdl
        go_wp2_with fail
        refine (HG.out _).mono ?_
        rintro e w3 ⟨v3, rfl, hr3, hb3⟩
        have HB3 := Lib.hid (HB2.out.trans (hb3.mono HB2.out.size))
        have hr2 := (HM2.out.keep hb3).row (by rw [HDL.out]; omega)
        rw [HDL.out] at hr2
        have HQ := Lib.hid (same_yes w3 w3.heap.size _ _ _ (Nat.le_refl _) hr2 hr3 (by rw [HDL.out]; omega))
        clear hb3 hr2 hr3 HG
        go_wp2_with fail
        refine HQ.out.mono ?_
        rintro e w4 ⟨rfl, hb4⟩
        have HB4 := Lib.hid (HB3.out.trans (hb4.mono HB3.out.size))
        clear hb4 HQ
        go_wp2_with fail
        refine (places_any w4 w.heap.size _ l HB4.out.size (HU.out.keep HB4.out) (by rw [HN.out]; omega)).mono ?_
        rintro e w7 ⟨v7, rfl, hh7, hb7⟩
        rw [HN.out] at hh7
        have HB7 := Lib.hid (HB4.out.trans (hb7.mono HB4.out.size))
        clear hb7
        obtain ⟨M, pcap, pg, poff, pao, rfl, hp⟩ := hh7
        have hM : M = (pl l n).length := by rw [hp.len, iv_length]
        have hMn : M ≤ n := by rw [hM]; exact pl_length l n
        have HM := Lib.hid hM
        have HC := Lib.hid (fun (j q : Nat) (h : (pl l n)[j]? = some q) => hp.cells j (.int .i64 (q : Int)) (by rw [iv, List.getElem?_map, h]; rfl))
        have HA := Lib.hid (fun (h : 0 < M) => hp.addr (Nat.lt_of_lt_of_le h hp.le))
        have HR := Lib.hid (HU.out.keep HB7.out)
        clear hM hp
        go_wp2_with fail
        go_loop [14, 94] (fun t i => ∃ k : Nat, k ≤ n ∧ i = .int .i64 k ∧ t = .int .i64 ((pl l k).length : Nat)) (fun _ i => n - (intOf i).toNat)
        case atStart => exact ⟨0, Nat.zero_le _, rfl, rfl⟩
        case round =>
          obtain ⟨k, hk, rfl, rfl⟩ := hrel
          have hkb := pl_length l k
          by_cases hlt : k < n
          · have hkl : k < l.length := by rw [HN.out]; exact hlt
            obtain ⟨x, hx⟩ : ∃ x, l[k]? = some x := ⟨_, List.getElem?_eq_getElem hkl⟩
            obtain ⟨b, off, rfl, hc⟩ := HR.out.at_ hx
            have hgd : l.getD k false = x := by rw [List.getD_eq_getElem?_getD, hx]; rfl
            cases x
            · have HS := Lib.hid (show (pl l (k + 1)).length = (pl l k).length by rw [pl, hgd]; simp)
              clear hgd hx hkl
              go_wp2
              go_round
              case rel => exact ⟨k + 1, by omega, by go_num, by rw [HS.out]⟩
              case measure => simp [intOf]; omega
            · have HS := Lib.hid (show (pl l (k + 1)).length = (pl l k).length + 1 by rw [pl, hgd]; simp)
              have hat := pl_at l k hgd n hlt
              have hatl : (pl l k).length < M := by rw [HM.out]; exact (List.getElem?_eq_some_iff.1 hat).1
              have hc2 := HC.out _ k hat
              obtain rfl := HA.out (by omega)
              clear hgd hx hkl hat
              generalize (pl l k).length = t at HS hatl hc2 hkb ⊢
              have t1 : ¬ ((M : Int) ≤ (t : Int)) := by omega
              go_wp2
              go_round
              case rel => exact ⟨k + 1, by omega, by go_num, by rw [HS.out]; go_num⟩
              case measure => simp [intOf]; omega
          · obtain rfl : k = n := by omega
            rw [← HM.out]
            go_wp2
            go_ret
            exact ⟨rfl, HB7.out⟩
      · have hd : decide ((m : Int) ≤ most) = false := by simpa using hmost
        rw [hd] at HG
        refine (get_over wc s most m (by omega) hm (by omega)).mono ?_
        rintro e w2 ⟨rfl, rfl⟩
        clear hm hd hdl
        go_wp2_with fail
        refine (HG.out _).mono ?_
        rintro e w3 ⟨v3, rfl, hr3, hb3⟩
        have HB3 := Lib.hid (HB.out.trans (hb3.mono HB.out.size))
        clear hb3 hr3 HG
        go_wp2_with fail
        refine (places_any w3 w.heap.size _ l HB3.out.size (HU.out.keep HB3.out) (by rw [HN.out]; omega)).mono ?_
        rintro e w7 ⟨v7, rfl, hh7, hb7⟩
        rw [HN.out] at hh7
        have HB7 := Lib.hid (HB3.out.trans (hb7.mono HB3.out.size))
        clear hb7
        obtain ⟨M, pcap, pg, poff, pao, rfl, hp⟩ := hh7
        have hM : M = (pl l n).length := by rw [hp.len, iv_length]
        have hMn : M ≤ n := by rw [hM]; exact pl_length l n
        have HM := Lib.hid hM
        have HC := Lib.hid (fun (j q : Nat) (h : (pl l n)[j]? = some q) => hp.cells j (.int .i64 (q : Int)) (by rw [iv, List.getElem?_map, h]; rfl))
        have HA := Lib.hid (fun (h : 0 < M) => hp.addr (Nat.lt_of_lt_of_le h hp.le))
        have HR := Lib.hid (HU.out.keep HB7.out)
        clear hM hp
        go_wp2_with fail
        go_loop [14, 94] (fun t i => ∃ k : Nat, k ≤ n ∧ i = .int .i64 k ∧ t = .int .i64 ((pl l k).length : Nat)) (fun _ i => n - (intOf i).toNat)
        case atStart => exact ⟨0, Nat.zero_le _, rfl, rfl⟩
        case round =>
          obtain ⟨k, hk, rfl, rfl⟩ := hrel
          have hkb := pl_length l k
          by_cases hlt : k < n
          · have hkl : k < l.length := by rw [HN.out]; exact hlt
            obtain ⟨x, hx⟩ : ∃ x, l[k]? = some x := ⟨_, List.getElem?_eq_getElem hkl⟩
            obtain ⟨b, off, rfl, hc⟩ := HR.out.at_ hx
            have hgd : l.getD k false = x := by rw [List.getD_eq_getElem?_getD, hx]; rfl
            cases x
            · have HS := Lib.hid (show (pl l (k + 1)).length = (pl l k).length by rw [pl, hgd]; simp)
              clear hgd hx hkl
              go_wp2
              go_round
              case rel => exact ⟨k + 1, by omega, by go_num, by rw [HS.out]⟩
              case measure => simp [intOf]; omega
            · have HS := Lib.hid (show (pl l (k + 1)).length = (pl l k).length + 1 by rw [pl, hgd]; simp)
              have hat := pl_at l k hgd n hlt
              have hatl : (pl l k).length < M := by rw [HM.out]; exact (List.getElem?_eq_some_iff.1 hat).1
              have hc2 := HC.out _ k hat
              obtain rfl := HA.out (by omega)
              clear hgd hx hkl hat
              generalize (pl l k).length = t at HS hatl hc2 hkb ⊢
              have t1 : ¬ ((M : Int) ≤ (t : Int)) := by omega
              go_wp2
              go_round
              case rel => exact ⟨k + 1, by omega, by go_num, by rw [HS.out]; go_num⟩
              case measure => simp [intOf]; omega
          · obtain rfl : k = n := by omega
            rw [← HM.out]
            go_wp2
            go_ret
            exact ⟨rfl, HB7.out⟩

end Go.Proofs.Ytllpgpbonmcbjaa
