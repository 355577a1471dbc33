/-
  The texts CopyStr, MsgSet, SealSpk, MsgBuild, WPlain, one behind the other.
-/
import Derived.Test.YtnbdpalbompjlaaDoorM2
import Derived.Deep.RegionWith
import Derived.Test.YtnbdpalbompjlaaDoorM12
import Derived.Laws.ResultCell
import Derived.Test.YtnbdpalbompjlaaDoorM7
import Derived.Test.YtnbdpalbompjlaaDoorM6
/-
  'copy' out of a text into a part of a block that is known whole. It holds of every program.
-/
namespace Go.Proofs.YtnbdpalbompjlaaDoor
open Go.RowKit
set_option maxRecDepth 10000

theorem run_copy_str {P : Program} (w : World) (dT sT ty elem : TypeId) (g o dLen dCap : Nat) (l : List UInt8) (k : Nat) (hk : min l.length dLen = k) (vs : List Value) (t : TypeId) (hg : Blk w g t vs)
    (hu : P.underlying dT = some (.slice elem)) (hs : (P.info? elem).map (·.size) = some 1) (hfit : o + k ≤ vs.length) :
    (Builtin.copy_ #[dT, sT] ty #[.slice (some ⟨g, o, none⟩) dLen dCap, .string ⟨l.toArray⟩]).run P w = .ok (goInt (k : Int)) (w.setRow g (splice vs o (bv (l.take k))).toArray) := by
  have hlen : (bv (l.take k)).length = k := by rw [bv_length, List.length_take]; omega
  have hst := run_storeCells_at P g o t (bv (l.take k)) 0 vs.toArray w hg (by rw [hlen]; simpa using hfit) (bv_one _)
  have hsz : (ByteArray.mk l.toArray).size = l.length := by simp [ByteArray.size]
  have htk : List.take k (List.map (fun b : UInt8 => Value.int IntKind.u8 (b.toNat : Int)) l) = bv (l.take k) := by
    rw [bv, List.map_take]
  simp only [Nat.add_zero] at hst
  have hmin : Nat.min l.length dLen = k := hk
  cases hq : P.info? elem with
  | none => simp [hq] at hs
  | some i =>
    simp [Builtin.copy_, run_underlying hu, Builtin.lenOf, Builtin.firstCells, sizeOf, typeInfo, hq, hsz, hmin]
    rw [htk, hst]
    simp [Result.andThen, splice]

/-- .. for one step of a region that draws its order. -/
theorem step_copy_str {P : Program} {w : World} {ops : Array Oper} {o : Oper} {a : Act} {K : Act → World → Prop} {Q : Exit → Act → World → Prop} {E : Prop} (hgd : o.guard = none) (d s : Operand) (dT sT : TypeId)
    (ho : o.op = .call { callee := .builtin .copy, args := #[d, s], argTypes := #[dT, sT] }) (elem : TypeId) (hu : P.underlying dT = some (.slice elem)) (hsz : (P.info? elem).map (·.size) = some 1)
    (g off dLen dCap : Nat) (l : ByteArray) (hl : l.data.toList.length ≤ dLen) (hd : a.eval d = .slice (some ⟨g, off, none⟩) dLen dCap) (hs : a.eval s = .string l) (vs : List Value) (t : TypeId) (hg : Blk w g t vs) (hfit : off + l.data.toList.length ≤ vs.length)
    (hK : K (a.put o.dst (goInt (l.data.toList.length : Int))) (w.setRow g (splice vs off (bv l.data.toList)).toArray)) : if Region.wanted o (yielded ops a.tmps) = true then Oper.wp P o a w K Q else E := by
  have hw : Region.wanted o (yielded ops a.tmps) = true := by simp [Region.wanted, hgd]
  rw [if_pos hw]
  have hrun := run_copy_str (P := P) w dT sT o.type elem g off dLen dCap l.data.toList l.data.toList.length (by omega) vs t hg hu hsz hfit
  rw [List.take_length] at hrun
  have hll : (⟨l.data.toList.toArray⟩ : ByteArray) = l := by apply ByteArray.ext; simp
  rw [hll] at hrun
  unfold Oper.wp
  simp only [execOp, ho, resolve, invoke, builtin, Sem.run_bind]
  simp [hd, hs, hrun, Result.andThen]
  simp only [Oper.upon]
  simpa using hK
end Go.Proofs.YtnbdpalbompjlaaDoor

/-
  Stores into messages that lie in memory.
-/
namespace Go.Proofs.YtnbdpalbompjlaaDoor
open Go.RowKit
set_option maxRecDepth 10000

theorem set_app {α : Type} (A R : List α) (j : Nat) (v : α) : (A ++ R).set (A.length + j) v = A ++ R.set j v := by
  rw [List.set_append_right _ _ (by omega), Nat.add_sub_cancel_left]
theorem mc_set0 (M : Msg) (sl : Value) (x : Int) : (mc M sl).set 0 (.int .i64 x) = mc { M with k := x } sl := rfl
theorem mc_set1 (M : Msg) (sl : Value) (x : Int) : (mc M sl).set 1 (.int .i64 x) = mc { M with s := x } sl := rfl
theorem mc_form (M : Msg) (sl : Value) : mc M sl = ([.int .i64 M.k, .int .i64 M.s] ++ bv M.T) ++ ([.int .i64 M.m, .int .u64 M.b, sl] ++ bv M.G) := by simp [mc]
theorem mc_len34 {M : Msg} (h : M.Fits) : ([Value.int .i64 M.k, .int .i64 M.s] ++ bv M.T).length = 34 := by simp [bv_length, h.T]
theorem mc_set34 {M : Msg} (h : M.Fits) (sl : Value) (x : Int) : (mc M sl).set 34 (.int .i64 x) = mc { M with m := x } sl := by
  rw [mc_form, mc_form]
  have := set_app ([Value.int .i64 M.k, .int .i64 M.s] ++ bv M.T) ([.int .i64 M.m, .int .u64 M.b, sl] ++ bv M.G) 0 (.int .i64 x)
  rw [mc_len34 h] at this
  exact this
theorem mc_set35 {M : Msg} (h : M.Fits) (sl : Value) (x : Nat) : (mc M sl).set 35 (.int .u64 x) = mc { M with b := x } sl := by
  rw [mc_form, mc_form]
  have := set_app ([Value.int .i64 M.k, .int .i64 M.s] ++ bv M.T) ([.int .i64 M.m, .int .u64 M.b, sl] ++ bv M.G) 1 (.int .u64 x)
  rw [mc_len34 h] at this
  exact this
theorem mc_set36 {M : Msg} (h : M.Fits) (sl sl' : Value) (l : List Bool) : (mc M sl).set 36 sl' = mc { M with l := l } sl' := by
  rw [mc_form, mc_form]
  have := set_app ([Value.int .i64 M.k, .int .i64 M.s] ++ bv M.T) ([.int .i64 M.m, .int .u64 M.b, sl] ++ bv M.G) 2 sl'
  rw [mc_len34 h] at this
  exact this
theorem bv_setM (l : List UInt8) (j : Nat) (c : UInt8) : (bv l).set j (.int .u8 (c.toNat : Int)) = bv (l.set j c) := by simp [bv, List.map_set]
theorem mc_setT {M : Msg} (h : M.Fits) (sl : Value) (j : Nat) (hj : j < 32) (c : UInt8) : (mc M sl).set (2 + j) (.int .u8 (c.toNat : Int)) = mc { M with T := M.T.set j c } sl := by
  unfold mc
  rw [show 2 + j = j + 1 + 1 by omega, List.set_cons_succ, List.set_cons_succ, List.set_append_left _ _ (by rw [bv_length, h.T]; exact hj), bv_setM]
theorem mc_setG {M : Msg} (h : M.Fits) (sl : Value) (j : Nat) (c : UInt8) : (mc M sl).set (37 + j) (.int .u8 (c.toNat : Int)) = mc { M with G := M.G.set j c } sl := by
  rw [mc_form, mc_form]
  have := set_app ([Value.int .i64 M.k, .int .i64 M.s] ++ bv M.T) ([.int .i64 M.m, .int .u64 M.b, sl] ++ bv M.G) (3 + j) (.int .u8 (c.toNat : Int))
  rw [mc_len34 h, show 34 + (3 + j) = 37 + j by omega] at this
  rw [this]
  have h2 := set_app [Value.int .i64 M.m, .int .u64 M.b, sl] (bv M.G) j (.int .u8 (c.toNat : Int))
  rw [show [Value.int .i64 M.m, .int .u64 M.b, sl].length = 3 from rfl, bv_setM] at h2
  rw [h2]

theorem splice_mid (A Z R cs : List Value) (h : cs.length ≤ Z.length) : splice (A ++ (Z ++ R)) A.length cs = A ++ ((cs ++ Z.drop cs.length) ++ R) := by
  simp only [splice]
  simp [List.drop_append, h]
theorem bv_drop (l : List UInt8) (j : Nat) : (bv l).drop j = bv (l.drop j) := by simp [bv]
theorem mc_copyT {M : Msg} (h : M.Fits) (sl : Value) (o : List UInt8) (ho : o.length ≤ 32) : splice (mc M sl) 2 (bv o) = mc { M with T := o ++ M.T.drop o.length } sl := by
  have := splice_mid [.int .i64 M.k, .int .i64 M.s] (bv M.T) (.int .i64 M.m :: .int .u64 M.b :: sl :: bv M.G) (bv o) (by rw [bv_length, bv_length, h.T]; exact ho)
  rw [bv_drop, ← bv_append, bv_length] at this
  exact this
theorem mc_copyG {M : Msg} (h : M.Fits) (sl : Value) (o : List UInt8) (ho : o.length ≤ 16) : splice (mc M sl) 37 (bv o) = mc { M with G := o ++ M.G.drop o.length } sl := by
  have := splice_mid ([.int .i64 M.k, .int .i64 M.s] ++ bv M.T ++ [.int .i64 M.m, .int .u64 M.b, sl]) (bv M.G) [] (bv o) (by rw [bv_length, bv_length, h.G]; exact ho)
  rw [bv_drop, ← bv_append, bv_length, show ([Value.int .i64 M.k, .int .i64 M.s] ++ bv M.T ++ [.int .i64 M.m, .int .u64 M.b, sl]).length = 37 by simp [bv_length, h.T]] at this
  simpa [mc] using this


/-- An empty message's cells, written out -/
def zcells : Array Value := #[.int .i64 0, .int .i64 0, .int .u8 0, .int .u8 0, .int .u8 0, .int .u8 0, .int .u8 0, .int .u8 0, .int .u8 0, .int .u8 0, .int .u8 0, .int .u8 0, .int .u8 0, .int .u8 0, .int .u8 0, .int .u8 0, .int .u8 0, .int .u8 0, .int .u8 0, .int .u8 0, .int .u8 0, .int .u8 0, .int .u8 0, .int .u8 0, .int .u8 0, .int .u8 0, .int .u8 0, .int .u8 0, .int .u8 0, .int .u8 0, .int .u8 0, .int .u8 0, .int .u8 0, .int .u8 0, .int .i64 0, .int .u64 0, .slice none 0 0, .int .u8 0, .int .u8 0, .int .u8 0, .int .u8 0, .int .u8 0, .int .u8 0, .int .u8 0, .int .u8 0, .int .u8 0, .int .u8 0, .int .u8 0, .int .u8 0, .int .u8 0, .int .u8 0, .int .u8 0, .int .u8 0]
theorem zcells_eq : zcells = (mc zeroMsg (.slice none 0 0)).toArray := rfl
/-- A message that has a kind and a slot. -/
def startMsg (k s : Int) : Msg := ⟨k, s, List.replicate 32 0, 0, 0, [], List.replicate 16 0⟩
theorem startMsg_fits (k s : Int) : (startMsg k s).Fits := ⟨zeroMsg_fits.T, zeroMsg_fits.G, zeroMsg_fits.b⟩
theorem zcells_lit : (#[.int .i64 0, .int .i64 0, .int .u8 0, .int .u8 0, .int .u8 0, .int .u8 0, .int .u8 0, .int .u8 0, .int .u8 0, .int .u8 0, .int .u8 0, .int .u8 0, .int .u8 0, .int .u8 0, .int .u8 0, .int .u8 0, .int .u8 0, .int .u8 0, .int .u8 0, .int .u8 0, .int .u8 0, .int .u8 0, .int .u8 0, .int .u8 0, .int .u8 0, .int .u8 0, .int .u8 0, .int .u8 0, .int .u8 0, .int .u8 0, .int .u8 0, .int .u8 0, .int .u8 0, .int .u8 0, .int .i64 0, .int .u64 0, .slice none 0 0, .int .u8 0, .int .u8 0, .int .u8 0, .int .u8 0, .int .u8 0, .int .u8 0, .int .u8 0, .int .u8 0, .int .u8 0, .int .u8 0, .int .u8 0, .int .u8 0, .int .u8 0, .int .u8 0, .int .u8 0, .int .u8 0] : Array Value) = zcells := rfl

theorem msg_built (k s : Int) : Tryd.prog.built 32 [(0, .int .i64 k), (1, .int .i64 s)] = some (mc (startMsg k s) (.slice none 0 0)).toArray := by kernel_rfl
theorem msg_built0 : Tryd.prog.built 32 [] = some (mc zeroMsg (.slice none 0 0)).toArray := by kernel_rfl
theorem wpList_build_msg {P : Program} {ops : Array Oper} {rest : List Oper} {o : Oper} {a : Act} {w : World} {Q : Exit → Act → World → Prop} (hgd : o.guard = none) (t : TypeId) (parts : Array (Nat × Operand)) (ho : o.op = .build t parts)
    (cells : Array Value) (hb : P.built t (parts.map fun (i, x) => (i, a.eval x)).toList = some cells) (h : wpList P ops Q rest (a.put o.dst (.agg cells)) w) : wpList P ops Q (o :: rest) a w :=
  wpList_build hgd t parts ho (by rw [hb]; rfl) (by rw [hb]; exact h)

/-- A message out of memory, at a guarded operation. -/
theorem wpList_load_msgG {ops : Array Oper} {rest : List Oper} {o : Oper} {a : Act} {w : World} {Q : Exit → Act → World → Prop} (x : Operand) (ho : o.op = .load 32 x) (hgd : Region.wanted o (yielded ops a.tmps) = true)
    (g : Nat) (M : Msg) (sl : Value) (hx : a.eval x = .pointer (some ⟨g, 0, none⟩)) (hg : Blk w g 32 (mc M sl)) (hf : M.Fits)
    (h : wpList Tryd.prog ops Q rest (a.put o.dst (.agg (mc M sl).toArray)) w) : wpList Tryd.prog ops Q (o :: rest) a w := by
  refine wpList_step fun K hK => ?_
  rw [if_pos hgd]
  unfold Oper.wp execOp
  simp only [ho, hx, Sem.run_bind, run_load_msg hg hf, Result.andThen_ok]
  exact hK _ _ h

/-- A message into a block that holds one. -/
theorem wpList_store_msg {ops : Array Oper} {rest : List Oper} {o : Oper} {a : Act} {w : World} {Q : Exit → Act → World → Prop} (x y : Operand) (ho : o.op = .store 32 x y) (hgd : o.guard = none)
    (g : Nat) (M M' : Msg) (sl sl' : Value) (hx : a.eval x = .pointer (some ⟨g, 0, none⟩)) (hy : a.eval y = .agg (mc M' sl').toArray) (hg : Blk w g 32 (mc M sl)) (hf : M.Fits) (hf' : M'.Fits) (h1 : sl'.oneCell' = true)
    (h : wpList Tryd.prog ops Q rest (a.put o.dst undef) (w.setRow g (mc M' sl').toArray)) : wpList Tryd.prog ops Q (o :: rest) a w := by
  refine wpList_store_part hgd 32 x y ho g 0 (mc M' sl') hx hy 32 (mc M sl) hg (msg_size hf' sl') (by rw [mc_length hf, mc_length hf']; omega) (mc_one h1) ?_
  rw [splice_all _ _ (by rw [mc_length hf, mc_length hf'])]
  exact h

/-- An answer that lies in a block. -/
theorem ret_msg {fn : Func} {p u : Tmp} (h : fn.results = #[.cell p 32, .tmp u]) {a : Act} {w : World} {g : Nat} {M : Msg} {sl : Value} (hp : a.tmps.getD p undef = .pointer (some ⟨g, 0, none⟩)) (hg : Blk w g 32 (mc M sl)) (hf : M.Fits) (hd : a.defers = [])
    {R : Ending → World → Prop} (hR : R (.returned (.tuple #[.agg (mc M sl).toArray, a.tmps.getD u undef])) w) : bodyPost Tryd.prog fn R .ret a w := by
  refine bodyPost_ret ?_ hd hR
  rw [results_cell_tmp h, hp]
  have hl := run_load_msg hg hf
  simp only [Instr.loadAt, Instr.sureAddr, Sem.run_bind, Sem.run_pure, Result.andThen] at hl
  simp only [asAddr, Sem.run_pure, Result.andThen_ok]
  rw [hl]
  rfl

end Go.Proofs.YtnbdpalbompjlaaDoor

/-
  What seal.alone and seal.Speakers answer.
-/
namespace Go.Proofs.YtnbdpalbompjlaaDoor
open Go.RowKit
set_option maxRecDepth 100000

/-- A slice that was just written out. -/
theorem held_new (w : World) (e : TypeId) (xs : List Value) (n : Nat) (hn : n = xs.length) (hm : n ≤ maxLen) : Held (w.alloc (.cells xs.toArray e)) w.heap.size (.slice (some ⟨w.heap.size, 0, none⟩) n n) xs := by
  subst hn
  refine ⟨_, _, w.heap.size, 0, _, rfl, rfl, Nat.le_refl _, hm, fun _ => rfl, fun a ha => by cases ha; exact Nat.le_refl _, fun _ => by simp, fun j u hj => ?_, fun j hj => ?_, fun j hj => ?_⟩
  · rw [Nat.zero_add, World.cell?_alloc_mark]; simpa using hj
  · rw [Nat.zero_add, World.cell?_alloc_mark, Array.getElem?_eq_getElem (by simpa using hj)]; rfl
  · rw [Nat.zero_add]
    simp [World.frozen?_alloc_mark w xs.toArray e 0 0 j]
theorem held_int (w : World) (m : Nat) : Held (w.alloc (.cells #[.int .i64 (m : Int)] 3)) w.heap.size (.slice (some ⟨w.heap.size, 0, none⟩) 1 1) (iv [m]) := held_new w 3 (iv [m]) 1 rfl (by unfold maxLen; omega)

theorem alone_any (w : World) (m : Nat) (y : Bool) :
    Calls Tryd.prog 28 #[.int .i64 (m : Int), .bool y] w fun e w' => ∃ v, e = .returned (.tuple #[v, .bool y]) ∧ Held w' w.heap.size v (iv (if y = true then [m] else [])) ∧ Below w.heap.size w w' := by
  cases y with
  | false =>
    go_enter Tryd.func28, Tryd.ntmps28
    go_wp2_with fail
    go_ret2
    exact ⟨.slice none 0 0, rfl, Held.nil _ _, Below.refl _ _⟩
  | true =>
    have hH := held_int w m
    have hB := (Below.refl w.heap.size w).alloc (Nat.le_refl _) (.cells #[.int .i64 (m : Int)] 3)
    have HH := Lib.hid hH
    have HB := Lib.hid hB
    clear hH hB
    go_enter Tryd.func28, Tryd.ntmps28
    go_wp2_with fail
    go_ret2
    exact ⟨_, rfl, HH.out, HB.out⟩

set_option maxHeartbeats 8000000 in
theorem speakers_any (w : World) (hT : Tabs w) {cs : List Value} {C : Nat} {vs : List (Int × ByteArray)} (hc : CfgOk w cs C vs) (M : Msg) (sl : Value) (hf : M.Fits) (hr : BRow w w.heap.size sl M.l) :
    Calls Tryd.prog 11 #[.agg cs.toArray, .agg (mc M sl).toArray] w fun e w' => ∃ v, e = .returned (.tuple #[v, .bool (spk (comm M.s vs.length C) M).isSome]) ∧ Held w' w.heap.size v (iv ((spk (comm M.s vs.length C) M).getD [])) ∧ Below w.heap.size w w' := by
  have HT := Lib.hid hT
  have HF := Lib.hid hf
  have HC0 := Lib.hid ((Blk.new w 24 cs.toArray).alloc (.cells (mc M sl).toArray 32))
  have HM0 := Lib.hid (Blk.newAt (w.alloc (.cells cs.toArray 24)) 32 (mc M sl).toArray (w.heap.size + 1) (by simp))
  have hb0 : Below w.heap.size w ((w.alloc (.cells cs.toArray 24)).alloc (.cells (mc M sl).toArray 32)) := ((Below.refl w.heap.size w).alloc (Nat.le_refl _) _).alloc (by simp) _
  have HR0 := Lib.hid (hr.bits hb0)
  have HCF0 := Lib.hid (hc.below hb0)
  have HB0 := Lib.hid hb0
  obtain ⟨ao, cap, hsl⟩ := hr.form
  have HSL := Lib.hid hsl
  obtain ⟨K, hK⟩ : ∃ K, K = comm M.s vs.length C := ⟨_, rfl⟩
  have HK := Lib.hid hK.symm
  rw [← hK]
  clear hK hb0 hr hc hf hT hsl
  obtain ⟨G, hG⟩ : ∃ G, G = w.heap.size + 1 := ⟨_, rfl⟩
  obtain ⟨D, hD⟩ : ∃ D, D = w.heap.size := ⟨_, rfl⟩
  go_enter Tryd.func11, Tryd.ntmps11
  go_upto_region 1 with fail
  generalize (w.alloc (.cells cs.toArray 24)).alloc (.cells (mc M sl).toArray 32) = w0 at HB0 HC0 HM0 HR0 HCF0 ⊢
  rw [← hG] at HM0 ⊢
  have HD := Lib.hid hD
  rw [← hD] at HC0 ⊢
  clear hG hD
  go_wp2_with ((with_reducible refine wpList_load_msgG (.tmp 3) ?_ ?_ G M sl ?_ HM0.out HF.out ?_); rfl; rfl; rfl)
  refine (wgood_any w0 M sl HF.out HR0.out).mono ?_
  rintro e w1 ⟨rfl, hb1⟩
  have HC1 := Lib.hid (HC0.out.below hb1 HC0.out.lt)
  have HM1 := Lib.hid (HM0.out.below hb1 HM0.out.lt)
  have HR1 := Lib.hid (HR0.out.bits hb1)
  have HCF := Lib.hid (HCF0.out.below hb1)
  have HB1 := Lib.hid (HB0.out.trans (hb1.mono HB0.out.size))
  clear hb1 HC0 HM0 HR0 HCF0 HB0
  cases hgd : msgGood M with
  | false =>
    have HS := Lib.hid (spk_bad (K := K) hgd)
    clear hgd
    go_wp2_with fail
    go_ret2
    exact ⟨.slice none 0 0, by rw [HS.out]; rfl, by rw [HS.out]; exact Held.nil _ _, HB1.out⟩
  | true =>
  obtain ⟨c0, c1, c34, c35, c36⟩ := HM1.out.msg HF.out
  have hsp := msg_spans hgd
  obtain ⟨m, hm⟩ : ∃ m : Nat, M.m = m := ⟨M.m.toNat, by omega⟩
  have HMM := Lib.hid hm
  rcases msg_kinds hgd with k | k | k
  · have hs1 := spk_one (K := K) hgd k
    rw [hm, show ((m : Nat) : Int).toNat = m from rfl] at hs1
    obtain ⟨Y, hY⟩ : ∃ Y, (firstOf K == (m : Int)) = Y := ⟨_, rfl⟩
    obtain ⟨L, hL⟩ : ∃ L, (if Y = true then [m] else []) = L := ⟨_, rfl⟩
    have HD := Lib.hid hY
    have HL := Lib.hid hL
    have HY := Lib.hid (show (spk K M).isSome = Y by
      rw [hs1, ← hY]
      by_cases h : firstOf K = (m : Int) <;> simp [h])
    have HLK := Lib.hid (show (spk K M).getD [] = L by
      rw [hs1, ← hL, ← hY]
      by_cases h : firstOf K = (m : Int) <;> simp [h])
    rw [k] at c0
    clear hs1 hY hL hgd k hsp hm c1 c34 c35 c36 HR1 HSL
    go_upto_region 5 with fail
    clear c0
    refine wp_region_free (P := Tryd.prog) 13 (fun w' => Below w1.heap.size w1 w') (fun oq v w' => match oq with
        | 0 => v = .pointer (some ⟨G, 34, none⟩)
        | 1 => v = .int .i64 (m : Int)
        | 2 => v = .agg cs.toArray
        | 3 => v = .pointer (some ⟨G, 1, none⟩)
        | 4 => v = .int .i64 M.s
        | 5 => v = .int .i64 (firstOf K)
        | 6 => v = .pointer (some ⟨G, 34, none⟩)
        | 7 => v = .int .i64 (m : Int)
        | 8 => v = .bool Y
        | 9 => ∃ x, v = .tuple #[x, .bool Y] ∧ Held w' w1.heap.size x (iv L)
        | 10 => Held w' w1.heap.size v (iv L)
        | 11 => v = .bool Y
        | 12 => Held w' w1.heap.size v (iv L)
        | _ => True) (by kernel_rfl) (by kernel_rfl) (Below.refl _ _).drew ?gb ?vb ?steps ?fin
    case gb => exact fun a b h1 h2 => h1.trans (h2.mono h1.size)
    case vb =>
      intro oq v a b h hb
      match oq with
      | 0 => exact h
      | 1 => exact h
      | 2 => exact h
      | 3 => exact h
      | 4 => exact h
      | 5 => exact h
      | 6 => exact h
      | 7 => exact h
      | 8 => exact h
      | 9 => obtain ⟨x, hx, hr⟩ := h; exact ⟨x, hx, hr.below hb⟩
      | 10 => exact h.below hb
      | 11 => exact h
      | 12 => exact h.below hb
      | _ + 13 => trivial
    case steps =>
      intro vals
      simp only [List.take_succ_cons, List.take_zero, freeSteps, Act.put, List.setIfInBounds_toArray, List.set_cons_zero, List.set_cons_succ, Nat.reduceAdd]
      refine ⟨fun w8 hG hW => ?_, fun w8 hG hW => ?_, fun w8 hG hW => ?_, fun w8 hG hW => ?_, fun w8 hG hW => ?_, fun w8 hG hW => ?_, fun w8 hG hW => ?_, fun w8 hG hW => ?_, fun w8 hG hW => ?_, fun w8 hG hW => ?_, fun w8 hG hW => ?_, fun w8 hG hW => ?_, fun w8 hG hW => ?_, trivial⟩
      · clear hW
        refine stepAt_value rfl rfl rfl (.pointer (some ⟨G, 34, none⟩)) w8 ?_ ⟨rfl, Below.refl _ _⟩
        go_simp
      · have q0 := hW 0 (by decide)
        simp only at q0
        rw [q0]
        clear hW
        refine stepAt_value rfl rfl rfl (.int .i64 (m : Int)) w8 ?_ ⟨rfl, Below.refl _ _⟩
        obtain ⟨c0, c1, c34, c35, c36⟩ := (HM1.out.below hG HM1.out.lt).msg HF.out
        rw [HMM.out] at c34
        go_simp
      · clear hW
        exact stepAt_load_cfg rfl rfl rfl (.tmp 2) rfl D cs rfl (HC1.out.below hG HC1.out.lt) HCF.out.len ⟨rfl, Below.refl _ _⟩
      · clear hW
        refine stepAt_value rfl rfl rfl (.pointer (some ⟨G, 1, none⟩)) w8 ?_ ⟨rfl, Below.refl _ _⟩
        go_simp
      · have q3 := hW 3 (by decide)
        simp only at q3
        rw [q3]
        clear hW
        refine stepAt_value rfl rfl rfl (.int .i64 M.s) w8 ?_ ⟨rfl, Below.refl _ _⟩
        obtain ⟨c0, c1, c34, c35, c36⟩ := (HM1.out.below hG HM1.out.lt).msg HF.out
        go_simp
      · have q2 := hW 2 (by decide)
        simp only at q2
        have q4 := hW 4 (by decide)
        simp only at q4
        rw [q2, q4]
        clear hW
        refine stepAt_call rfl rfl rfl 29 #[.agg cs.toArray, .int .i64 M.s] (by go_simp) ((proposer_cfg w8 (HT.out.below (HB1.out.trans (hG.mono HB1.out.size)) HT.out.size) (HCF.out.below hG) M.s).mono fun e w' ⟨h1, h2⟩ => ⟨_, h1, by rw [HK.out], h2⟩)
      · clear hW
        refine stepAt_value rfl rfl rfl (.pointer (some ⟨G, 34, none⟩)) w8 ?_ ⟨rfl, Below.refl _ _⟩
        go_simp
      · have q6 := hW 6 (by decide)
        simp only at q6
        rw [q6]
        clear hW
        refine stepAt_value rfl rfl rfl (.int .i64 (m : Int)) w8 ?_ ⟨rfl, Below.refl _ _⟩
        obtain ⟨c0, c1, c34, c35, c36⟩ := (HM1.out.below hG HM1.out.lt).msg HF.out
        rw [HMM.out] at c34
        go_simp
      · have q5 := hW 5 (by decide)
        simp only at q5
        have q7 := hW 7 (by decide)
        simp only at q7
        rw [q5, q7]
        clear hW
        refine stepAt_value rfl rfl rfl (.bool Y) w8 ?_ ⟨rfl, Below.refl _ _⟩
        have hd := HD.out
        go_simp
      · have q1 := hW 1 (by decide)
        simp only at q1
        have q8 := hW 8 (by decide)
        simp only at q8
        rw [q1, q8]
        clear hW
        refine stepAt_call rfl rfl rfl 28 #[.int .i64 (m : Int), .bool Y] (by go_simp) ((alone_any w8 m Y).mono fun e w' ⟨v, h1, h2, h3⟩ => ⟨_, h1, ⟨v, rfl, by rw [HL.out] at h2; exact h2.mono hG.size⟩, h3⟩)
      · obtain ⟨x6, hx6, hr6⟩ := hW 9 (by decide)
        rw [hx6]
        clear hW
        refine stepAt_value rfl rfl rfl x6 w8 ?_ ⟨hr6, Below.refl _ _⟩
        go_simp
      · obtain ⟨x6, hx6, hr6⟩ := hW 9 (by decide)
        rw [hx6]
        clear hW
        refine stepAt_value rfl rfl rfl (.bool Y) w8 ?_ ⟨rfl, Below.refl _ _⟩
        go_simp
      · have h7 : Held w8 w1.heap.size (vals 10) (iv L) := hW 10 (by decide)
        generalize vals 10 = u7 at h7 ⊢
        clear hW
        refine stepAt_value rfl rfl rfl u7 w8 ?_ ⟨h7, Below.refl _ _⟩
        go_simp
    case fin =>
      intro vals w8 hG hV
      have hN : Held w8 w1.heap.size (vals 12) (iv L) := hV 12 (by omega)
      have hD : vals 11 = .bool Y := hV 11 (by omega)
      simp only [List.take_succ_cons, List.take_zero, List.drop_succ_cons, List.drop_zero, putAll, Act.put, List.setIfInBounds_toArray, List.set_cons_zero, List.set_cons_succ, Nat.reduceAdd]
      rw [hD]
      clear hV hD
      generalize vals 12 = vN at hN ⊢
      generalize vals 0 = x0
      generalize vals 1 = x1
      generalize vals 2 = x2
      generalize vals 3 = x3
      generalize vals 4 = x4
      generalize vals 5 = x5
      generalize vals 6 = x6
      generalize vals 7 = x7
      generalize vals 8 = x8
      generalize vals 9 = x9
      generalize vals 10 = x10
      have HN := Lib.hid hN
      have HBF := Lib.hid (HB1.out.trans (hG.mono HB1.out.size))
      clear hG hN
      go_wp2_with fail
      go_ret2
      exact ⟨vN, by rw [HY.out]; rfl, by rw [HLK.out]; exact HN.out.mono HB1.out.size, HBF.out⟩
  · have hs1 := spk_two (K := K) hgd k
    rw [hm, show ((m : Nat) : Int).toNat = m from rfl] at hs1
    obtain ⟨P, hP⟩ : ∃ P, placeFrom (m : Int) 0 K = P := ⟨_, rfl⟩
    rw [hP] at hs1
    obtain ⟨Y, hY⟩ : ∃ Y, decide (0 ≤ P) = Y := ⟨_, rfl⟩
    obtain ⟨L, hL⟩ : ∃ L, (if Y = true then [m] else []) = L := ⟨_, rfl⟩
    have HP := Lib.hid hP
    have HD := Lib.hid hY
    have HL := Lib.hid hL
    have HY := Lib.hid (show (spk K M).isSome = Y by
      rw [hs1, ← hY]
      by_cases h : 0 ≤ P <;> simp [h])
    have HLK := Lib.hid (show (spk K M).getD [] = L by
      rw [hs1, ← hL, ← hY]
      by_cases h : 0 ≤ P <;> simp [h])
    rw [k] at c0
    clear hs1 hY hL hP hgd k hsp hm c1 c34 c35 c36 HR1 HSL
    go_upto_region 7 with fail
    clear c0
    refine wp_region_free (P := Tryd.prog) 13 (fun w' => Below w1.heap.size w1 w') (fun oq v w' => match oq with
        | 0 => v = .pointer (some ⟨G, 34, none⟩)
        | 1 => v = .int .i64 (m : Int)
        | 2 => v = .agg cs.toArray
        | 3 => v = .pointer (some ⟨G, 1, none⟩)
        | 4 => v = .int .i64 M.s
        | 5 => v = .pointer (some ⟨G, 34, none⟩)
        | 6 => v = .int .i64 (m : Int)
        | 7 => v = .int .i64 P
        | 8 => v = .bool Y
        | 9 => ∃ x, v = .tuple #[x, .bool Y] ∧ Held w' w1.heap.size x (iv L)
        | 10 => Held w' w1.heap.size v (iv L)
        | 11 => v = .bool Y
        | 12 => Held w' w1.heap.size v (iv L)
        | _ => True) (by kernel_rfl) (by kernel_rfl) (Below.refl _ _).drew ?gb ?vb ?steps ?fin
    case gb => exact fun a b h1 h2 => h1.trans (h2.mono h1.size)
    case vb =>
      intro oq v a b h hb
      match oq with
      | 0 => exact h
      | 1 => exact h
      | 2 => exact h
      | 3 => exact h
      | 4 => exact h
      | 5 => exact h
      | 6 => exact h
      | 7 => exact h
      | 8 => exact h
      | 9 => obtain ⟨x, hx, hr⟩ := h; exact ⟨x, hx, hr.below hb⟩
      | 10 => exact h.below hb
      | 11 => exact h
      | 12 => exact h.below hb
      | _ + 13 => trivial
    case steps =>
      intro vals
      simp only [List.take_succ_cons, List.take_zero, freeSteps, Act.put, List.setIfInBounds_toArray, List.set_cons_zero, List.set_cons_succ, Nat.reduceAdd]
      refine ⟨fun w8 hG hW => ?_, fun w8 hG hW => ?_, fun w8 hG hW => ?_, fun w8 hG hW => ?_, fun w8 hG hW => ?_, fun w8 hG hW => ?_, fun w8 hG hW => ?_, fun w8 hG hW => ?_, fun w8 hG hW => ?_, fun w8 hG hW => ?_, fun w8 hG hW => ?_, fun w8 hG hW => ?_, fun w8 hG hW => ?_, trivial⟩
      · clear hW
        refine stepAt_value rfl rfl rfl (.pointer (some ⟨G, 34, none⟩)) w8 ?_ ⟨rfl, Below.refl _ _⟩
        go_simp
      · have q0 := hW 0 (by decide)
        simp only at q0
        rw [q0]
        clear hW
        refine stepAt_value rfl rfl rfl (.int .i64 (m : Int)) w8 ?_ ⟨rfl, Below.refl _ _⟩
        obtain ⟨c0, c1, c34, c35, c36⟩ := (HM1.out.below hG HM1.out.lt).msg HF.out
        rw [HMM.out] at c34
        go_simp
      · clear hW
        exact stepAt_load_cfg rfl rfl rfl (.tmp 2) rfl D cs rfl (HC1.out.below hG HC1.out.lt) HCF.out.len ⟨rfl, Below.refl _ _⟩
      · clear hW
        refine stepAt_value rfl rfl rfl (.pointer (some ⟨G, 1, none⟩)) w8 ?_ ⟨rfl, Below.refl _ _⟩
        go_simp
      · have q3 := hW 3 (by decide)
        simp only at q3
        rw [q3]
        clear hW
        refine stepAt_value rfl rfl rfl (.int .i64 M.s) w8 ?_ ⟨rfl, Below.refl _ _⟩
        obtain ⟨c0, c1, c34, c35, c36⟩ := (HM1.out.below hG HM1.out.lt).msg HF.out
        go_simp
      · clear hW
        refine stepAt_value rfl rfl rfl (.pointer (some ⟨G, 34, none⟩)) w8 ?_ ⟨rfl, Below.refl _ _⟩
        go_simp
      · have q5 := hW 5 (by decide)
        simp only at q5
        rw [q5]
        clear hW
        refine stepAt_value rfl rfl rfl (.int .i64 (m : Int)) w8 ?_ ⟨rfl, Below.refl _ _⟩
        obtain ⟨c0, c1, c34, c35, c36⟩ := (HM1.out.below hG HM1.out.lt).msg HF.out
        rw [HMM.out] at c34
        go_simp
      · have q2 := hW 2 (by decide)
        simp only at q2
        have q4 := hW 4 (by decide)
        simp only at q4
        have q6 := hW 6 (by decide)
        simp only at q6
        rw [q2, q4, q6]
        clear hW
        refine stepAt_call rfl rfl rfl 30 #[.agg cs.toArray, .int .i64 M.s, .int .i64 (m : Int)] (by go_simp) ((place_cfg w8 (HT.out.below (HB1.out.trans (hG.mono HB1.out.size)) HT.out.size) (HCF.out.below hG) M.s m).mono fun e w' ⟨h1, h2⟩ => ⟨_, h1, by rw [HK.out, HP.out], h2⟩)
      · have q7 := hW 7 (by decide)
        simp only at q7
        rw [q7]
        clear hW
        refine stepAt_value rfl rfl rfl (.bool Y) w8 ?_ ⟨rfl, Below.refl _ _⟩
        have hd := HD.out
        go_simp
      · have q1 := hW 1 (by decide)
        simp only at q1
        have q8 := hW 8 (by decide)
        simp only at q8
        rw [q1, q8]
        clear hW
        refine stepAt_call rfl rfl rfl 28 #[.int .i64 (m : Int), .bool Y] (by go_simp) ((alone_any w8 m Y).mono fun e w' ⟨v, h1, h2, h3⟩ => ⟨_, h1, ⟨v, rfl, by rw [HL.out] at h2; exact h2.mono hG.size⟩, h3⟩)
      · obtain ⟨x6, hx6, hr6⟩ := hW 9 (by decide)
        rw [hx6]
        clear hW
        refine stepAt_value rfl rfl rfl x6 w8 ?_ ⟨hr6, Below.refl _ _⟩
        go_simp
      · obtain ⟨x6, hx6, hr6⟩ := hW 9 (by decide)
        rw [hx6]
        clear hW
        refine stepAt_value rfl rfl rfl (.bool Y) w8 ?_ ⟨rfl, Below.refl _ _⟩
        go_simp
      · have h7 : Held w8 w1.heap.size (vals 10) (iv L) := hW 10 (by decide)
        generalize vals 10 = u7 at h7 ⊢
        clear hW
        refine stepAt_value rfl rfl rfl u7 w8 ?_ ⟨h7, Below.refl _ _⟩
        go_simp
    case fin =>
      intro vals w8 hG hV
      have hN : Held w8 w1.heap.size (vals 12) (iv L) := hV 12 (by omega)
      have hD : vals 11 = .bool Y := hV 11 (by omega)
      simp only [List.take_succ_cons, List.take_zero, List.drop_succ_cons, List.drop_zero, putAll, Act.put, List.setIfInBounds_toArray, List.set_cons_zero, List.set_cons_succ, Nat.reduceAdd]
      rw [hD]
      clear hV hD
      generalize vals 12 = vN at hN ⊢
      generalize vals 0 = x0
      generalize vals 1 = x1
      generalize vals 2 = x2
      generalize vals 3 = x3
      generalize vals 4 = x4
      generalize vals 5 = x5
      generalize vals 6 = x6
      generalize vals 7 = x7
      generalize vals 8 = x8
      generalize vals 9 = x9
      generalize vals 10 = x10
      have HN := Lib.hid hN
      have HBF := Lib.hid (HB1.out.trans (hG.mono HB1.out.size))
      clear hG hN
      go_wp2_with fail
      go_ret2
      exact ⟨vN, by rw [HY.out]; rfl, by rw [HLK.out]; exact HN.out.mono HB1.out.size, HBF.out⟩
  · have hs1 := spk_three (K := K) hgd k
    have HY := Lib.hid (show (spk K M).isSome = fits K M.l by
      rw [hs1]
      cases h : fits K M.l <;> simp)
    have HLK := Lib.hid (show (spk K M).getD [] = picked K M.l by
      rw [hs1]
      by_cases h : fits K M.l = true
      · simp [h]
      · simp [h, picked])
    rw [k] at c0
    rw [HSL.out] at c36
    have HR2 := HR1.out
    obtain ⟨U, hU⟩ : ∃ U, U = w1 := ⟨_, rfl⟩
    have HPK := Lib.hid (pick_cfg w1 (HT.out.below HB1.out HT.out.size) HCF.out M.s sl M.l HR2)
    rw [HSL.out] at HPK
    clear hs1 hgd k hsp hm HR2 hU
    go_wp2_with ((with_reducible refine wpList_load_cfg (.tmp 2) ?_ ?_ D cs ?_ HC1.out HCF.out.len ?_); rfl; rfl; rfl)
    refine HPK.out.mono ?_
    rintro e w2 ⟨v, rfl, hh, hb⟩
    rw [HK.out] at hh
    rw [HK.out]
    have HH := Lib.hid hh
    have HB2 := Lib.hid (HB1.out.trans (hb.mono HB1.out.size))
    clear hh hb c0 c1 c34 c35 c36
    go_wp2_with fail
    go_ret2
    exact ⟨v, by rw [HY.out]; rfl, by rw [HLK.out]; exact HH.out.mono HB1.out.size, HB2.out⟩
end Go.Proofs.YtnbdpalbompjlaaDoor

/-
  Messages, votes and tags that the program writes out ('T{..}'), and tags in memory.
-/
namespace Go.Proofs.YtnbdpalbompjlaaDoor
open Go.RowKit
set_option maxRecDepth 10000

/-- Where a message's parts lie: from where on, how many cells. -/
def mplace : Array (Nat × Nat) := #[(0, 1), (1, 1), (2, 32), (34, 1), (35, 1), (36, 1), (37, 16)]
theorem msg_parts0 : Tryd.prog.built 32 = fun parts => Go.Instr.fill (fun x => mplace[x]?) zcells parts := by kernel_rfl
theorem msg_parts (parts : List (Nat × Value)) : Tryd.prog.built 32 parts = Go.Instr.fill (fun x => mplace[x]?) (mc zeroMsg (.slice none 0 0)).toArray parts := congrFun msg_parts0 parts

theorem fold_splice : ∀ (cs z : List Value) (off i : Nat), off + i + cs.length ≤ z.length →
    (cs.zipIdx i).foldl (fun (a : Array Value) (x : Value × Nat) => a.setIfInBounds (off + x.2) x.1) z.toArray = (splice z (off + i) cs).toArray
  | [], z, off, i, h => by simp [splice]
  | c :: cs, z, off, i, h => by
    rw [List.zipIdx_cons, List.foldl_cons, List.setIfInBounds_toArray, fold_splice cs _ off (i + 1) (by rw [List.length_set]; simp at h; omega)]
    congr 1
    simp only [List.length_cons] at h
    obtain ⟨n, hn⟩ : ∃ n, n = off + i := ⟨_, rfl⟩
    rw [show off + (i + 1) = n + 1 by omega, ← hn]
    have hA : (z.take n).length = n := by rw [List.length_take]; omega
    have e0 : z.set n c = z.take n ++ c :: z.drop (n + 1) := by rw [List.set_eq_take_append_cons_drop, if_pos (by omega)]
    have e1 : (z.set n c).take (n + 1) = z.take n ++ [c] := by
      rw [e0, List.take_append, hA, List.take_of_length_le (by omega), show n + 1 - n = 1 by omega]; rfl
    have e2 : (z.set n c).drop (n + 1 + cs.length) = z.drop (n + (cs.length + 1)) := by
      rw [e0, List.drop_append, hA, List.drop_of_length_le (by omega), List.nil_append, show n + 1 + cs.length - n = cs.length + 1 by omega, List.drop_succ_cons, List.drop_drop, show n + 1 + cs.length = n + (cs.length + 1) by omega]
    rw [splice, splice, e1, e2, List.length_cons, List.append_assoc]
    rfl

theorem fill_step {place : Nat → Option (Nat × Nat)} {z : List Value} {j off size : Nat} {v : Value} {rest : List (Nat × Value)} (hp : place j = some (off, size)) (hs : v.cells.size = size) (hz : off + size ≤ z.length) :
    Go.Instr.fill place z.toArray ((j, v) :: rest) = Go.Instr.fill place (splice z off v.cells.toList).toArray rest := by
  rw [Go.Instr.fill, hp]
  simp only
  rw [if_neg (by simp [hs]; omega)]
  congr 1
  have := fold_splice v.cells.toList z off 0 (by rw [Array.length_toList, hs]; omega)
  rw [Nat.add_zero] at this
  rw [← this, ← Array.foldl_toList, Array.toList_zipIdx]

theorem splice_one (z : List Value) (off : Nat) (v : Value) (h : off < z.length) : splice z off [v] = z.set off v := by
  simp only [splice, List.length_singleton]
  rw [List.set_eq_take_append_cons_drop, if_pos h]
  rfl
theorem mfill_k {M : Msg} (h : M.Fits) (sl : Value) (x : Int) (rest : List (Nat × Value)) : Go.Instr.fill (fun x => mplace[x]?) (mc M sl).toArray ((0, .int .i64 x) :: rest) = Go.Instr.fill (fun x => mplace[x]?) (mc { M with k := x } sl).toArray rest := by
  rw [fill_step (off := 0) (size := 1) rfl rfl (by rw [mc_length h]; omega), show (Value.int .i64 x).cells.toList = [.int .i64 x] from rfl, splice_one _ _ _ (by rw [mc_length h]; omega), mc_set0]
theorem mfill_s {M : Msg} (h : M.Fits) (sl : Value) (x : Int) (rest : List (Nat × Value)) : Go.Instr.fill (fun x => mplace[x]?) (mc M sl).toArray ((1, .int .i64 x) :: rest) = Go.Instr.fill (fun x => mplace[x]?) (mc { M with s := x } sl).toArray rest := by
  rw [fill_step (off := 1) (size := 1) rfl rfl (by rw [mc_length h]; omega), show (Value.int .i64 x).cells.toList = [.int .i64 x] from rfl, splice_one _ _ _ (by rw [mc_length h]; omega), mc_set1]
theorem mfill_m {M : Msg} (h : M.Fits) (sl : Value) (x : Int) (rest : List (Nat × Value)) : Go.Instr.fill (fun x => mplace[x]?) (mc M sl).toArray ((3, .int .i64 x) :: rest) = Go.Instr.fill (fun x => mplace[x]?) (mc { M with m := x } sl).toArray rest := by
  rw [fill_step (off := 34) (size := 1) rfl rfl (by rw [mc_length h]; omega), show (Value.int .i64 x).cells.toList = [.int .i64 x] from rfl, splice_one _ _ _ (by rw [mc_length h]; omega), mc_set34 h]
theorem mfill_T {M : Msg} (h : M.Fits) (sl : Value) (T : List UInt8) (hT : T.length = 32) (rest : List (Nat × Value)) : Go.Instr.fill (fun x => mplace[x]?) (mc M sl).toArray ((2, .agg (bv T).toArray) :: rest) = Go.Instr.fill (fun x => mplace[x]?) (mc { M with T := T } sl).toArray rest := by
  rw [fill_step (off := 2) (size := 32) rfl (by simp [Value.cells, bv_length, hT]) (by rw [mc_length h]; omega), show (Value.agg (bv T).toArray).cells.toList = bv T by simp [Value.cells], mc_copyT h sl T (by omega), hT, List.drop_of_length_le (by rw [h.T]; omega), List.append_nil]
theorem mfill_l {M : Msg} (h : M.Fits) (sl : Value) (ao : Option Addr) (n cap : Nat) (l : List Bool) (rest : List (Nat × Value)) : Go.Instr.fill (fun x => mplace[x]?) (mc M sl).toArray ((5, .slice ao n cap) :: rest) = Go.Instr.fill (fun x => mplace[x]?) (mc { M with l := l } (.slice ao n cap)).toArray rest := by
  rw [fill_step (off := 36) (size := 1) rfl rfl (by rw [mc_length h]; omega), show (Value.slice ao n cap).cells.toList = [.slice ao n cap] from rfl, splice_one _ _ _ (by rw [mc_length h]; omega), mc_set36 h sl _ l]

/-- 'api.Message{Kind: k, Slot: s, Target: T, Member: m}' -/
theorem built_vote (k s m : Int) (T : List UInt8) (hT : T.length = 32) : Tryd.prog.built 32 [(0, .int .i64 k), (1, .int .i64 s), (2, .agg (bv T).toArray), (3, .int .i64 m)] = some (mc ⟨k, s, T, m, 0, [], List.replicate 16 0⟩ (.slice none 0 0)).toArray := by
  rw [msg_parts]
  exact (mfill_k zeroMsg_fits _ k _).trans ((mfill_s (M := ⟨k, 0, (List.replicate 32 0), 0, 0, [], List.replicate 16 0⟩) ⟨by simp, by simp, by simp⟩ _ s _).trans ((mfill_T (M := ⟨k, s, (List.replicate 32 0), 0, 0, [], List.replicate 16 0⟩) ⟨by simp, by simp, by simp⟩ _ T hT _).trans ((mfill_m (M := ⟨k, s, T, 0, 0, [], List.replicate 16 0⟩) ⟨hT, by simp, by simp⟩ _ m _).trans rfl)))
/-- 'api.Message{Kind: k, Slot: s, Target: T, Bits: l}' -/
theorem built_sum (k s : Int) (T : List UInt8) (hT : T.length = 32) (ao : Option Addr) (n cap : Nat) (l : List Bool) : Tryd.prog.built 32 [(0, .int .i64 k), (1, .int .i64 s), (2, .agg (bv T).toArray), (5, .slice ao n cap)] = some (mc ⟨k, s, T, 0, 0, l, List.replicate 16 0⟩ (.slice ao n cap)).toArray := by
  rw [msg_parts]
  exact (mfill_k zeroMsg_fits _ k _).trans ((mfill_s (M := ⟨k, 0, (List.replicate 32 0), 0, 0, [], List.replicate 16 0⟩) ⟨by simp, by simp, by simp⟩ _ s _).trans ((mfill_T (M := ⟨k, s, (List.replicate 32 0), 0, 0, [], List.replicate 16 0⟩) ⟨by simp, by simp, by simp⟩ _ T hT _).trans ((mfill_l (M := ⟨k, s, T, 0, 0, [], List.replicate 16 0⟩) ⟨hT, by simp, by simp⟩ _ ao n cap l _).trans rfl)))
/-- 'api.Message{Kind: k, Slot: s, Bits: l}' -/
theorem built_bits (k s : Int) (ao : Option Addr) (n cap : Nat) (l : List Bool) : Tryd.prog.built 32 [(0, .int .i64 k), (1, .int .i64 s), (5, .slice ao n cap)] = some (mc ⟨k, s, List.replicate 32 0, 0, 0, l, List.replicate 16 0⟩ (.slice ao n cap)).toArray := by
  rw [msg_parts]
  exact (mfill_k zeroMsg_fits _ k _).trans ((mfill_s (M := ⟨k, 0, (List.replicate 32 0), 0, 0, [], List.replicate 16 0⟩) ⟨by simp, by simp, by simp⟩ _ s _).trans ((mfill_l (M := ⟨k, s, (List.replicate 32 0), 0, 0, [], List.replicate 16 0⟩) ⟨by simp, by simp, by simp⟩ _ ao n cap l _).trans rfl))

theorem stepAt_build {P : Program} {ops : Array Oper} {o : Oper} {a : Act} {w : World} {R : Value → World → Prop} {d : Tmp} (hd : o.dst = some d) (hw : Region.wanted o (yielded ops a.tmps) = true) (hz : decide (d < a.tmps.size) = true) (t : TypeId) (parts : Array (Nat × Operand)) (ho : o.op = .build t parts)
    (cells : Array Value) (hb : P.built t (parts.map fun (i, x) => (i, a.eval x)).toList = some cells) (h : R (.agg cells) w) : stepAt P ops o a w R := by
  refine stepAt_value hd hw hz _ w ?_ h
  unfold execOp
  simp only [ho, Sem.run_bind, run_build w t _ cells hb, Result.andThen_ok]
  rfl

theorem Tryd.sizeTagB : (Tryd.prog.info? 30).map (·.size) = some 16 := by kernel_rfl
theorem Tryd.sizeRootB : (Tryd.prog.info? 26).map (·.size) = some 32 := by kernel_rfl
theorem tag_size {l : List UInt8} (h : l.length = 16) : (Tryd.prog.info? 30).map (·.size) = some (bv l).length := by rw [bv_length, h]; exact Tryd.sizeTagB
theorem root_size {l : List UInt8} (h : l.length = 32) : (Tryd.prog.info? 26).map (·.size) = some (bv l).length := by rw [bv_length, h]; exact Tryd.sizeRootB

/-- A tag out of memory, at a guarded operation too. -/
theorem wpList_load_tag {ops : Array Oper} {rest : List Oper} {o : Oper} {a : Act} {w : World} {Q : Exit → Act → World → Prop} (x : Operand) (ho : o.op = .load 30 x) (hgd : Region.wanted o (yielded ops a.tmps) = true)
    (g off : Nat) (l : List UInt8) (hx : a.eval x = .pointer (some ⟨g, off, none⟩)) (hl : l.length = 16) (hc : ∀ j v, (bv l)[j]? = some v → w.cell? ⟨g, off + j, none⟩ = some v)
    (h : wpList Tryd.prog ops Q rest (a.put o.dst (.agg (bv l).toArray)) w) : wpList Tryd.prog ops Q (o :: rest) a w := by
  refine wpList_step fun K hK => ?_
  rw [if_pos hgd]
  unfold Oper.wp execOp
  simp only [ho, hx, Sem.run_bind, run_loadAt_cells hc 30 16 5 Tryd.underlying30 (tag_size hl), Result.andThen_ok]
  exact hK _ _ h
/-- A root out of memory. -/
theorem wpList_load_root {ops : Array Oper} {rest : List Oper} {o : Oper} {a : Act} {w : World} {Q : Exit → Act → World → Prop} (x : Operand) (ho : o.op = .load 26 x) (hgd : Region.wanted o (yielded ops a.tmps) = true)
    (g off : Nat) (l : List UInt8) (hx : a.eval x = .pointer (some ⟨g, off, none⟩)) (hl : l.length = 32) (hc : ∀ j v, (bv l)[j]? = some v → w.cell? ⟨g, off + j, none⟩ = some v)
    (h : wpList Tryd.prog ops Q rest (a.put o.dst (.agg (bv l).toArray)) w) : wpList Tryd.prog ops Q (o :: rest) a w := by
  refine wpList_step fun K hK => ?_
  rw [if_pos hgd]
  unfold Oper.wp execOp
  simp only [ho, hx, Sem.run_bind, run_loadAt_cells hc 26 32 5 Tryd.underlying26 (root_size hl), Result.andThen_ok]
  exact hK _ _ h

theorem zero16 : bv (List.replicate 16 0) = [.int .u8 0, .int .u8 0, .int .u8 0, .int .u8 0, .int .u8 0, .int .u8 0, .int .u8 0, .int .u8 0, .int .u8 0, .int .u8 0, .int .u8 0, .int .u8 0, .int .u8 0, .int .u8 0, .int .u8 0, .int .u8 0] := rfl
/-- A tag into a block that holds one. -/
theorem wpList_store_tag {ops : Array Oper} {rest : List Oper} {o : Oper} {a : Act} {w : World} {Q : Exit → Act → World → Prop} (x y : Operand) (ho : o.op = .store 30 x y) (hgd : o.guard = none)
    (g : Nat) (l l' : List UInt8) (hx : a.eval x = .pointer (some ⟨g, 0, none⟩)) (hy : a.eval y = .agg (bv l').toArray) (hg : Blk w g 30 (bv l)) (hl : l.length = 16) (hl' : l'.length = 16)
    (h : wpList Tryd.prog ops Q rest (a.put o.dst undef) (w.setRow g (bv l').toArray)) : wpList Tryd.prog ops Q (o :: rest) a w := by
  refine wpList_store_part hgd 30 x y ho g 0 (bv l') hx hy 30 (bv l) hg (tag_size hl') (by rw [bv_length, bv_length]; omega) (bv_one _) ?_
  rw [splice_all _ _ (by rw [bv_length, bv_length, hl, hl'])]
  exact h
/-- A tag into a message. -/
theorem wpList_store_tagM {ops : Array Oper} {rest : List Oper} {o : Oper} {a : Act} {w : World} {Q : Exit → Act → World → Prop} (x y : Operand) (ho : o.op = .store 30 x y) (hgd : o.guard = none)
    (g : Nat) (M : Msg) (sl : Value) (l : List UInt8) (hx : a.eval x = .pointer (some ⟨g, 37, none⟩)) (hy : a.eval y = .agg (bv l).toArray) (hg : Blk w g 32 (mc M sl)) (hf : M.Fits) (hl : l.length = 16)
    (h : wpList Tryd.prog ops Q rest (a.put o.dst undef) (w.setRow g (mc { M with G := l } sl).toArray)) : wpList Tryd.prog ops Q (o :: rest) a w := by
  refine wpList_store_part hgd 30 x y ho g 37 (bv l) hx hy 32 (mc M sl) hg (tag_size hl) (by rw [bv_length, mc_length hf]; omega) (bv_one _) ?_
  rw [mc_copyG hf sl l (by omega), hl, List.drop_of_length_le (by rw [hf.G]; omega), List.append_nil]
  exact h

/-- An answer that lies in a block: a tag. -/
theorem ret_tag {fn : Func} {p u : Tmp} (h : fn.results = #[.cell p 30, .tmp u]) {a : Act} {w : World} {g : Nat} {l : List UInt8} (hp : a.tmps.getD p undef = .pointer (some ⟨g, 0, none⟩)) (hg : Blk w g 30 (bv l)) (hl : l.length = 16) (hd : a.defers = [])
    {R : Ending → World → Prop} (hR : R (.returned (.tuple #[.agg (bv l).toArray, a.tmps.getD u undef])) w) : bodyPost Tryd.prog fn R .ret a w := by
  refine bodyPost_ret ?_ hd hR
  rw [results_cell_tmp h, hp]
  have hlo := run_loadAt_cells (P := Tryd.prog) (w := w) (g := g) (off := 0) hg.msgAll 30 16 5 Tryd.underlying30 (tag_size hl)
  simp only [Instr.loadAt, Instr.sureAddr, Sem.run_bind, Sem.run_pure, Result.andThen] at hlo
  simp only [asAddr, Sem.run_pure, Result.andThen_ok]
  rw [hlo]
  rfl
theorem results_cell {fn : Func} {p : Tmp} {ty : TypeId} (h : fn.results = #[.cell p ty]) (tmps : Array Value) (P : Program) (w : World) :
    (results fn tmps).run P w = ((asAddr (tmps.getD p undef)).run P w).andThen fun a w₁ => (loadVar ty a).run P w₁ := by
  simp only [results, h]
  simp [Sem.run_bind, Result.andThen]
/-- The one answer, that lies in a block: a message. -/
theorem ret_msg1 {fn : Func} {p : Tmp} (h : fn.results = #[.cell p 32]) {a : Act} {w : World} {g : Nat} {M : Msg} {sl : Value} (hp : a.tmps.getD p undef = .pointer (some ⟨g, 0, none⟩)) (hg : Blk w g 32 (mc M sl)) (hf : M.Fits) (hd : a.defers = [])
    {R : Ending → World → Prop} (hR : R (.returned (.agg (mc M sl).toArray)) w) : bodyPost Tryd.prog fn R .ret a w := by
  refine bodyPost_ret ?_ hd hR
  rw [results_cell h, hp]
  have hl := run_load_msg hg hf
  simp only [Instr.loadAt, Instr.sureAddr, Sem.run_bind, Sem.run_pure, Result.andThen] at hl
  simp only [asAddr, Sem.run_pure, Result.andThen_ok]
  rw [hl]
end Go.Proofs.YtnbdpalbompjlaaDoor

/-
  What wire.Plain answers, of a message whose numbers fit.
-/
namespace Go.Proofs.YtnbdpalbompjlaaDoor
open Go.RowKit
set_option maxRecDepth 10000

theorem put_step (w : World) (B : Nat) (v : Value) (bs : List UInt8) (n k : Nat) (hk : k ≤ 8) (hn : n < 2 ^ 64) (hv : Held w B v (bv bs)) (hB : B ≤ w.heap.size) (hl : bs.length ≤ 1000000) :
    Calls Tryd.prog 53 #[v, .int .u64 n, .int .i64 k] w fun e w' => ∃ v', e = .returned v' ∧ Hid (Held w' B v' (bv (bs ++ leB n k))) ∧ Hid (Below B w w') :=
  (put_mid w B v bs n k hk hn hv hB hl).mono fun _ _ ⟨v', h1, h2, h3⟩ => ⟨v', h1, Lib.hid h2, Lib.hid (h3.below hv hB)⟩

theorem bput_step (w : World) (B : Nat) (v : Value) (bs : List UInt8) (u : Value) (l : List Bool) (hv : Held w B v (bv bs)) (hB : B ≤ w.heap.size) (hu : BRow w B u l) (h1 : bs.length ≤ 1000) (h2 : l.length ≤ 1000) :
    Calls Tryd.prog 54 #[v, u] w fun e w' => ∃ v', e = .returned v' ∧ Hid (Held w' B v' (bv (bs ++ encR l))) ∧ Hid (Below B w w') :=
  (bput_any w B v bs u l hv hB hu h1 h2).mono fun _ _ ⟨v', h1, h2, h3⟩ => ⟨v', h1, Lib.hid h2, Lib.hid (h3.below hv hB)⟩

/-- A message's Target, as append's source. -/
theorem src_target {w : World} {g : Nat} {M : Msg} {sl : Value} (h : Blk w g 32 (mc M sl)) (hf : M.Fits) : Src Tryd.prog 1 86 (.slice (some ⟨g, 2, none⟩) 32 32) 32 (bv M.T) w := by
  refine Src.ofSlice _ Tryd.underlying86 _ 32 32 _ (by rw [bv_length, hf.T]) (fun j u hj => ?_) (bv_one _)
  rw [Addr.add_lit, h.cell]
  exact mc_T sl j u hj

theorem hid_str {w : World} {B : Nat} {v : Value} {l r : List UInt8} (h : Held w B v (bv l)) (e : l = r) : Sem.run Tryd.prog (convert 86 9 v) w = .ok (.string ⟨r.toArray⟩) w := by
  subst e
  exact h.string (P := Tryd.prog) 86 9 5 Tryd.underlying86 Tryd.underlying5 Tryd.underlying9

set_option maxHeartbeats 4000000 in
theorem wplain_any (w : World) (M : Msg) (sl : Value) (hm : M.Ranged) (hr : BRow w w.heap.size sl M.l) (hl : M.l.length ≤ 1000) :
    Calls Tryd.prog 36 #[.agg (mc M sl).toArray] w fun e w' => e = .returned (.string ⟨(msgP M).toArray⟩) ∧ Below w.heap.size w w' := by
  obtain ⟨i0, hi, hz0, hz1, hz2⟩ := info_parts Tryd.infoU8
  have hk0 := Blk.new w 32 (mc M sl).toArray
  have hb0 := (Below.refl w.heap.size w).alloc (Nat.le_refl _) (.cells (mc M sl).toArray 32)
  have HR := Lib.hid (hr.bits hb0)
  have HF := Lib.hid hm.fits
  have HM := Lib.hid hm
  obtain ⟨ao, cap, hsl⟩ := hr.form
  have HSL := Lib.hid hsl
  obtain ⟨K, hK⟩ : ∃ K : Nat, M.k = K := ⟨M.k.toNat, by have := hm.k; omega⟩
  obtain ⟨S, hS⟩ : ∃ S : Nat, M.s = S := ⟨M.s.toNat, by have := hm.s; omega⟩
  obtain ⟨m, hmm⟩ : ∃ m : Nat, M.m = m := ⟨M.m.toNat, by have := hm.m; omega⟩
  have hKb : K ≤ 3 := by have := hm.k; omega
  have hSb : S < 4294967296 := by have := hm.s; omega
  have hmb : m < 65536 := by have := hm.m; omega
  have hbb := hm.fits.b
  have HKE := Lib.hid hK
  have HSE := Lib.hid hS
  have HME := Lib.hid hmm
  have HBL := Lib.hid hb0
  have HK0 := Lib.hid hk0
  have hlt0 := hk0.lt
  generalize hw0 : w.alloc (.cells (mc M sl).toArray 32) = w0 at *
  obtain ⟨g, hg⟩ : ∃ g, g = w.heap.size := ⟨_, rfl⟩
  have HW0 := Lib.hid hw0
  have HG := Lib.hid hg
  rw [← hg] at HK0 hlt0 HBL
  clear hk0 hb0 hr hm hsl hK hS hmm hw0
  have u1 : IntKind.u64.wrap (K : Int) = (K : Int) := by rw [IntKind.wrap_u64]; omega
  have u2 : IntKind.u64.wrap (S : Int) = (S : Int) := by rw [IntKind.wrap_u64]; omega
  have u3 : IntKind.u64.wrap (m : Int) = (m : Int) := by rw [IntKind.wrap_u64]; omega
  rw [← hg]
  clear hg
  go_enter Tryd.func36, Tryd.ntmps36
  go_upto_region 1 with fail
  rw [HW0.out, ← HG.out]
  obtain ⟨c0, c1, c34, c35, c36⟩ := HK0.out.msg HF.out
  rw [HKE.out] at c0
  go_wp2_with fail
  refine (put_step w0 w0.heap.size _ [] K 1 (by omega) (by omega) (Held.nil _ _) (Nat.le_refl _) (by simp)).mono ?_
  rintro e w1 ⟨v1, rfl, HH1, HB1⟩
  clear c0 c1 c34 c35 c36
  obtain ⟨c0, c1, c34, c35, c36⟩ := (HK0.out.below HB1.out hlt0).msg HF.out
  rw [HSE.out] at c1
  go_wp2_with fail
  refine (put_step w1 w0.heap.size v1 _ S 4 (by omega) (by omega) HH1.out HB1.out.size (by rw [List.length_append, leB_length]; simp)).mono ?_
  rintro e w2 ⟨v2, rfl, HH2, HB2'⟩
  have HB2 := Lib.hid (HB1.out.trans HB2'.out)
  clear c0 c1 c34 c35 c36 HH1 HB1 HB2'
  have HSrc := Lib.hid (src_target (HK0.out.below HB2.out hlt0) HF.out)
  have hLen : (bv ([] ++ leB K 1 ++ leB S 4)).length = 5 := by rw [bv_length]; simp [leB_length]
  go_wp2_with (at_builtin; refine wpList_append_held rfl _ _ 86 86 rfl rfl HH2.out 5 i0 (.int .u8 0) 1 Tryd.underlying86 hi hz0 hz1 hz2 rfl _ rfl 32 (bv M.T) HSrc.out ?c2 ?c3 ?c4 ?_)
  case c2 => unfold maxLen; omega
  case c3 => omega
  case c4 => exact HB2.out.size
  intro v3 w3 hh3 hg3
  have HB3 := Lib.hid (HB2.out.trans (hg3.below HH2.out HB2.out.size))
  have HH3 := Lib.hid (show Held w3 w0.heap.size v3 (bv (leB K 1 ++ leB S 4 ++ M.T)) by rw [bv_append _ M.T]; exact hh3)
  have hl3 : (leB K 1 ++ leB S 4 ++ M.T).length = 37 := by simp [leB_length, HF.out.T]
  clear hh3 hg3 HH2 HB2 HSrc hLen
  obtain ⟨c0, c1, c34, c35, c36⟩ := (HK0.out.below HB3.out hlt0).msg HF.out
  rw [HKE.out] at c0
  rw [HME.out] at c34
  rcases HM.out.k with q | q | q
  · obtain rfl : K = 1 := by have := HKE.out; omega
    have HP := Lib.hid (show leB 1 1 ++ leB S 4 ++ M.T ++ leB m 2 ++ leB M.b 8 = msgP M by
      simp only [msgP, msgR, q, HSE.out, HME.out, if_true, List.append_assoc]; rfl)
    clear q c1 c35 c36
    go_wp2_with fail
    refine (put_step w3 w0.heap.size v3 _ m 2 (by omega) (by omega) HH3.out HB3.out.size (by omega)).mono ?_
    rintro e w4 ⟨v4, rfl, HH4, HB4'⟩
    have HB4 := Lib.hid (HB3.out.trans HB4'.out)
    clear c0 c34 HH3 HB3 HB4'
    obtain ⟨_, _, _, c35, _⟩ := (HK0.out.below HB4.out hlt0).msg HF.out
    go_wp2_with fail
    refine (put_step w4 w0.heap.size v4 _ M.b 8 (by omega) hbb HH4.out HB4.out.size (by rw [List.length_append, leB_length]; omega)).mono ?_
    rintro e w5 ⟨v5, rfl, HH5, HB5'⟩
    have HB5 := Lib.hid (HB4.out.trans HB5'.out)
    have hs := hid_str HH5.out HP.out
    clear c35 HH4 HB4 HB5'
    go_wp2_with fail
    go_ret
    exact ⟨rfl, HBL.out.trans (HB5.out.mono (by omega))⟩
  · obtain rfl : K = 2 := by have := HKE.out; omega
    have HP := Lib.hid (show leB 2 1 ++ leB S 4 ++ M.T ++ leB m 2 = msgP M by
      simp only [msgP, msgR, q, HSE.out, HME.out, List.append_assoc]; rfl)
    clear q c1 c35 c36
    go_wp2_with fail
    refine (put_step w3 w0.heap.size v3 _ m 2 (by omega) (by omega) HH3.out HB3.out.size (by omega)).mono ?_
    rintro e w4 ⟨v4, rfl, HH4, HB4'⟩
    have HB4 := Lib.hid (HB3.out.trans HB4'.out)
    have hs := hid_str HH4.out HP.out
    clear c0 c34 HH3 HB3 HB4'
    go_wp2_with fail
    go_ret
    exact ⟨rfl, HBL.out.trans (HB4.out.mono (by omega))⟩
  · obtain rfl : K = 3 := by have := HKE.out; omega
    have HP := Lib.hid (show leB 3 1 ++ leB S 4 ++ M.T ++ encR M.l = msgP M by
      simp only [msgP, msgR, q, HSE.out, List.append_assoc]; rfl)
    clear q c1 c34 c35
    go_wp2_with fail
    refine (bput_step w3 w0.heap.size v3 _ sl M.l HH3.out HB3.out.size (HR.out.keep HB3.out) (by omega) hl).mono ?_
    rintro e w4 ⟨v4, rfl, HH4, HB4'⟩
    have HB4 := Lib.hid (HB3.out.trans HB4'.out)
    have hs := hid_str HH4.out HP.out
    clear c0 c36 HH3 HB3 HB4'
    go_wp2_with fail
    go_ret
    exact ⟨rfl, HBL.out.trans (HB4.out.mono (by omega))⟩
end Go.Proofs.YtnbdpalbompjlaaDoor
