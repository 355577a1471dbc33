/-
  The texts Sha, State, one behind the other.
-/
import Derived.Test.YtnbdpalbompjlaaDoorMix
/-
  Blocks of 64 bytes, one behind the other: plain mathematics.
-/
namespace Go.Proofs.YtnbdpalbompjlaaDoor

def compress (h : List Nat) (b : List UInt8) : List Nat := mixed h (spw b 64)
/-- Block number i of the bytes. -/
def blockAt (bs : List UInt8) (i : Nat) : List UInt8 := (bs.drop (64 * i)).take 64
/-- The words behind the first n blocks. -/
def runN (h : List Nat) (bs : List UInt8) : Nat → List Nat
  | 0 => h
  | n + 1 => compress (runN h bs n) (blockAt bs n)

theorem runN_length (h : List Nat) (bs : List UInt8) (hh : h.length = 8) : ∀ n, (runN h bs n).length = 8
  | 0 => hh
  | n + 1 => mixed_length _ _ (runN_length h bs hh n)

theorem blockAt_append (bs cs : List UInt8) (i : Nat) (h : 64 * (i + 1) ≤ bs.length) : blockAt (bs ++ cs) i = blockAt bs i := by
  rw [blockAt, blockAt, List.drop_append_of_le_length (by omega), List.take_append_of_le_length (by rw [List.length_drop]; omega)]

theorem runN_append (h : List Nat) (bs cs : List UInt8) : ∀ n, 64 * n ≤ bs.length → runN h (bs ++ cs) n = runN h bs n
  | 0, _ => rfl
  | n + 1, hn => by rw [runN, runN, runN_append h bs cs n (by omega), blockAt_append bs cs n hn]

/-- What is kept of bytes: the words behind the whole blocks, and a block that begins with what is left over. -/
structure StP (bs : List UInt8) (h : List Nat) (blk : List UInt8) : Prop where
  words : h = runN firstL bs (bs.length / 64)
  len : blk.length = 64
  part : blk.take (bs.length % 64) = bs.drop (64 * (bs.length / 64))

theorem splice_take {α : Type} (l cs : List α) (k : Nat) (hk : k + cs.length ≤ l.length) : (splice l k cs).take (k + cs.length) = l.take k ++ cs := by
  rw [splice, ← List.append_assoc, List.take_append_of_le_length (by simp; omega), List.take_of_length_le (by simp; omega)]

theorem StP.step {bs : List UInt8} {h : List Nat} {blk cs : List UInt8} (s : StP bs h blk) (hc : bs.length % 64 + cs.length < 64) : StP (bs ++ cs) h (splice blk (bs.length % 64) cs) := by
  have hl : (bs ++ cs).length = bs.length + cs.length := by simp
  have hq : (bs ++ cs).length / 64 = bs.length / 64 := by omega
  have hr : (bs ++ cs).length % 64 = bs.length % 64 + cs.length := by omega
  have hb := s.len
  refine ⟨by rw [hq, runN_append _ _ _ _ (by omega)]; exact s.words, by rw [length_splice _ _ _ (by omega)]; exact hb, ?_⟩
  rw [hr, hq, splice_take _ _ _ (by omega), s.part, List.drop_append_of_le_length (by omega)]

theorem StP.full {bs : List UInt8} {h : List Nat} {blk cs : List UInt8} (s : StP bs h blk) (hc : bs.length % 64 + cs.length = 64) : StP (bs ++ cs) (compress h (splice blk (bs.length % 64) cs)) (splice blk (bs.length % 64) cs) := by
  have hl : (bs ++ cs).length = bs.length + cs.length := by simp
  have hq : (bs ++ cs).length / 64 = bs.length / 64 + 1 := by omega
  have hr : (bs ++ cs).length % 64 = 0 := by omega
  have hb := s.len
  have hsl : (splice blk (bs.length % 64) cs).length = 64 := by rw [length_splice _ _ _ (by omega)]; exact hb
  have hbl : blockAt (bs ++ cs) (bs.length / 64) = splice blk (bs.length % 64) cs := by
    have h1 := splice_take blk cs (bs.length % 64) (by omega)
    rw [hc, List.take_of_length_le (by omega), s.part] at h1
    rw [h1, blockAt, List.drop_append_of_le_length (by omega)]
    exact List.take_of_length_le (by simp; omega)
  refine ⟨?_, hsl, ?_⟩
  · rw [hq, runN, hbl, runN_append _ _ _ _ (by omega), ← s.words]
  · rw [hr, hq]
    simp
    omega

theorem StP.start (blk : List UInt8) (h : blk.length = 64) : StP [] firstL blk := ⟨rfl, h, by simp⟩
theorem StP.wlen {bs : List UInt8} {h : List Nat} {blk : List UInt8} (s : StP bs h blk) : h.length = 8 := by rw [s.words]; exact runN_length _ _ rfl _

/-- So many bytes 0 are filled in behind the mark. -/
def padN (n : Nat) : Nat := (55 + 64 - n % 64) % 64
/-- Eight bytes of a number, the highest first. -/
def be8 (x : Nat) : List UInt8 := be4 (x / 4294967296) ++ be4 x
def padded (bs : List UInt8) : List UInt8 := bs ++ ([128] ++ List.replicate (padN bs.length) 0) ++ be8 (bs.length * 8 % 18446744073709551616)
/-- The digest's bytes. -/
def digest (bs : List UInt8) : List UInt8 := (runN firstL (padded bs) ((padded bs).length / 64)).flatMap be4

theorem be4_length (x : Nat) : (be4 x).length = 4 := rfl
theorem be8_length (x : Nat) : (be8 x).length = 8 := rfl
theorem padded_length (bs : List UInt8) : (padded bs).length % 64 = 0 := by simp [padded, padN, be8_length]; omega

/-- The digest as its digits. -/
def hexd (n : Nat) : UInt8 := if n < 10 then UInt8.ofNat (48 + n) else UInt8.ofNat (87 + n)
def show_ (l : List UInt8) : List UInt8 := l.flatMap fun b => [hexd (b.toNat / 16), hexd (b.toNat % 16)]

def abcShown : List UInt8 := [98, 97, 55, 56, 49, 54, 98, 102, 56, 102, 48, 49, 99, 102, 101, 97, 52, 49, 52, 49, 52, 48, 100, 101, 53, 100, 97, 101, 50, 50, 50, 51, 98, 48, 48, 51, 54, 49, 97, 51, 57, 54, 49, 55, 55, 97, 57, 99, 98, 52, 49, 48, 102, 102, 54, 49, 102, 50, 48, 48, 49, 53, 97, 100]

set_option maxRecDepth 100000 in
theorem abc_shown : show_ (digest [97, 98, 99]) = abcShown := by decide +kernel
end Go.Proofs.YtnbdpalbompjlaaDoor

/-
  What is kept between texts, as cells; what a call that turns one block alone leaves.
-/
namespace Go.Proofs.YtnbdpalbompjlaaDoor
open Go.RowKit
set_option maxRecDepth 10000

/-- The state's cells. -/
def stc (h : List Nat) (blk : List UInt8) (n m : Nat) : List Value := uv h ++ (bv blk ++ [.int .i64 (n : Int), .int .u64 (m : Int)])

theorem stc_length {h : List Nat} {blk : List UInt8} {n m : Nat} (hh : h.length = 8) (hb : blk.length = 64) : (stc h blk n m).length = 74 := by simp [stc, uv_length, bv_length, hh, hb]
theorem stc_72 {h : List Nat} {blk : List UInt8} {n m : Nat} (hh : h.length = 8) (hb : blk.length = 64) : (stc h blk n m)[72]? = some (.int .i64 (n : Int)) := by
  rw [stc, List.getElem?_append_right (by rw [uv_length]; omega), List.getElem?_append_right (by rw [uv_length, bv_length]; omega), uv_length, bv_length, hh, hb]; rfl
theorem stc_73 {h : List Nat} {blk : List UInt8} {n m : Nat} (hh : h.length = 8) (hb : blk.length = 64) : (stc h blk n m)[73]? = some (.int .u64 (m : Int)) := by
  rw [stc, List.getElem?_append_right (by rw [uv_length]; omega), List.getElem?_append_right (by rw [uv_length, bv_length]; omega), uv_length, bv_length, hh, hb]; rfl
theorem stc_words {h : List Nat} {blk : List UInt8} {n m : Nat} : ∀ j v, (uv h)[j]? = some v → (stc h blk n m)[0 + j]? = some v := fun j v hj => by
  rw [Nat.zero_add, stc, List.getElem?_append_left (List.getElem?_eq_some_iff.1 hj).1]; exact hj
theorem stc_blk {h : List Nat} {blk : List UInt8} {n m : Nat} (hh : h.length = 8) : ∀ j v, (bv blk)[j]? = some v → (stc h blk n m)[8 + j]? = some v := fun j v hj => by
  rw [stc, List.getElem?_append_right (by rw [uv_length]; omega), uv_length, hh, Nat.add_sub_cancel_left, List.getElem?_append_left (List.getElem?_eq_some_iff.1 hj).1]; exact hj
theorem stc_set72 {h : List Nat} {blk : List UInt8} {n m : Nat} (hh : h.length = 8) (hb : blk.length = 64) (n' : Nat) : (stc h blk n m).set 72 (.int .i64 (n' : Int)) = stc h blk n' m := by
  rw [stc, List.set_append_right _ _ (by rw [uv_length]; omega), List.set_append_right _ _ (by rw [uv_length, bv_length]; omega), uv_length, bv_length, hh, hb]; rfl
theorem stc_set73 {h : List Nat} {blk : List UInt8} {n m : Nat} (hh : h.length = 8) (hb : blk.length = 64) (m' : Nat) : (stc h blk n m).set 73 (.int .u64 (m' : Int)) = stc h blk n m' := by
  rw [stc, List.set_append_right _ _ (by rw [uv_length]; omega), List.set_append_right _ _ (by rw [uv_length, bv_length]; omega), uv_length, bv_length, hh, hb]; rfl
theorem stc_spliceW {h h' : List Nat} {blk : List UInt8} {n m : Nat} (hh : h.length = 8) (hh' : h'.length = 8) : splice (stc h blk n m) 0 (uv h') = stc h' blk n m := by
  rw [splice, List.take_zero, List.nil_append, stc, List.drop_append_of_le_length (by rw [uv_length, uv_length]; omega), List.drop_of_length_le (by rw [uv_length, uv_length]; omega), List.nil_append, stc]
theorem stc_spliceB {h : List Nat} {blk : List UInt8} {n m : Nat} (hh : h.length = 8) (hb : blk.length = 64) (k : Nat) (cs : List UInt8) (hk : k + cs.length ≤ 64) : splice (stc h blk n m) (8 + k) (bv cs) = stc h (splice blk k cs) n m := by
  have h1 : (stc h blk n m).take (8 + k) = uv h ++ bv (blk.take k) := by
    rw [stc, List.take_append, uv_length, hh, List.take_of_length_le (by rw [uv_length]; omega), Nat.add_sub_cancel_left, List.take_append_of_le_length (by rw [bv_length]; omega)]
    simp [bv, List.map_take]
  have h2 : (stc h blk n m).drop (8 + k + (bv cs).length) = bv (blk.drop (k + cs.length)) ++ [.int .i64 (n : Int), .int .u64 (m : Int)] := by
    rw [bv_length, stc, List.drop_append, uv_length, hh, List.drop_of_length_le (by rw [uv_length]; omega), List.nil_append, show 8 + k + cs.length - 8 = k + cs.length by omega, List.drop_append_of_le_length (by rw [bv_length]; omega)]
    simp [bv, List.map_drop]
  rw [splice, h1, h2, stc, splice, bv_append, bv_append]
  simp

/-- Block g alone has turned; others may be new. -/
def Kept (g : Nat) (w w' : World) : Prop := w.grownBy w' (some g)

theorem Kept.refl (g : Nat) (w : World) : Kept g w w := ⟨rfl, rfl, rfl, Nat.le_refl _, fun _ _ _ => rfl⟩
theorem Kept.trans {g : Nat} {w w1 w2 : World} (a : Kept g w w1) (b : Kept g w1 w2) : Kept g w w2 :=
  ⟨b.os.trans a.os, b.tape.trans a.tape, b.output.trans a.output, Nat.le_trans a.size b.size, fun k hk hne => (b.block k (Nat.lt_of_lt_of_le hk a.size) hne).trans (a.block k hk hne)⟩
theorem Kept.below {g : Nat} {w w1 w2 : World} (a : Kept g w w1) (b : Below w1.heap.size w1 w2) : Kept g w w2 :=
  ⟨b.os.trans a.os, b.tape.trans a.tape, b.output.trans a.output, Nat.le_trans a.size b.size, fun k hk hne => (b.block k (Nat.lt_of_lt_of_le hk a.size)).trans (a.block k hk hne)⟩
theorem Kept.drew {g : Nat} {w w1 : World} (a : Kept g w w1) : Kept g w w1.drew := a.below (Below.refl _ _).drew
theorem Kept.drewN {g : Nat} {w w1 : World} (a : Kept g w w1) (k : Nat) : Kept g w (w1.drewN k) := a.below (below_drewN' (Below.refl _ _) k)
theorem Kept.setCell {g : Nat} {w w1 : World} (a : Kept g w w1) (j : Nat) (v : Value) : Kept g w (w1.setCell ⟨g, j, none⟩ v) :=
  a.trans ⟨rfl, rfl, rfl, by simp [World.setCell], fun k _ hne => heap_setCell_other w1 _ k v (fun e => hne (by simp at e; rw [e]))⟩
theorem Kept.setRow {g : Nat} {w w1 : World} (a : Kept g w w1) (cs : Array Value) : Kept g w (w1.setRow g cs) :=
  a.trans ⟨rfl, rfl, rfl, by simp [World.setRow], fun k _ hne => Go.setRow_other w1 g k cs (fun e => hne (by rw [e]))⟩
theorem Kept.lower {g B : Nat} {w w' : World} (a : Kept g w w') (h : B ≤ g) (hs : B ≤ w.heap.size) : Below B w w' :=
  ⟨a.os, a.tape, a.output, a.size, fun k hk => a.block k (by omega) (fun e => by cases e; omega)⟩
theorem Kept.blk {g k : Nat} {w w' : World} {t : TypeId} {vs : List Value} (a : Kept g w w') (h : Blk w k t vs) (hne : k ≠ g) : Blk w' k t vs :=
  (a.block k h.lt (fun e => hne (by cases e; rfl))).trans h
theorem Kept.tabs {g : Nat} {w w' : World} (a : Kept g w w') (h : Tabs w) (hg : 2 ≤ g) : Tabs w' := h.below (a.lower hg h.size) (Nat.le_refl _)

/-- The state in block g: of bytes bs, with m as the number of all bytes. -/
structure StM (w : World) (g : Nat) (bs : List UInt8) (m : Nat) (h : List Nat) (blk : List UInt8) : Prop where
  row : Blk w g 108 (stc h blk (bs.length % 64) m)
  ok : StP bs h blk

def St (w : World) (g : Nat) (bs : List UInt8) : Prop := ∃ h blk, StM w g bs (bs.length % 18446744073709551616) h blk

theorem run_copy_blk_string {P : Program} (w : World) (dT sT ty elem : TypeId) (g o dLen dCap : Nat) (l : List UInt8) (k : Nat) (hk : min l.length dLen = k) (vs : List Value) (t : TypeId) (hg : Blk w g t vs)
    (hu : P.underlying dT = some (.slice elem)) (hs : (P.info? elem).map (·.size) = some 1) (hfit : o + k ≤ vs.length) :
    (Builtin.copy_ #[dT, sT] ty #[.slice (some ⟨g, o, none⟩) dLen dCap, .string ⟨l.toArray⟩]).run P w = .ok (goInt (k : Int)) (w.setRow g (splice vs o (bv (l.take k))).toArray) := by
  have hlen : (bv (l.take k)).length = k := by rw [bv_length, List.length_take]; omega
  have hst := run_storeCells_at P g o t (bv (l.take k)) 0 vs.toArray w hg (by rw [hlen]; simpa using hfit) (bv_one _)
  have hsz : (ByteArray.mk l.toArray).size = l.length := by simp [ByteArray.size]
  have htk : List.take k (List.map (fun b : UInt8 => Value.int IntKind.u8 (b.toNat : Int)) l) = bv (l.take k) := by
    rw [bv, List.map_take]
  simp only [Nat.add_zero] at hst
  have hmin : Nat.min l.length dLen = k := hk
  cases hq : P.info? elem with
  | none => simp [hq] at hs
  | some i =>
    simp [Builtin.copy_, run_underlying hu, Builtin.lenOf, Builtin.firstCells, sizeOf, typeInfo, hq, hsz, hmin]
    rw [htk, hst]
    simp [Result.andThen, splice]

theorem wpList_copy_string {P : Program} {w : World} {ops : Array Oper} {rest : List Oper} {o : Oper} {a : Act} {Q : Exit → Act → World → Prop} (hgd : o.guard = none) (d s : Operand) (dT sT : TypeId)
    (ho : o.op = .call { callee := .builtin .copy, args := #[d, s], argTypes := #[dT, sT] }) (elem : TypeId) (hu : P.underlying dT = some (.slice elem)) (hsz : (P.info? elem).map (·.size) = some 1)
    (g off dLen dCap : Nat) (l : List UInt8) (k : Nat) (hk : min l.length dLen = k) (hd : a.eval d = .slice (some ⟨g, off, none⟩) dLen dCap) (hs : a.eval s = .string ⟨l.toArray⟩) (vs : List Value) (t : TypeId) (hg : Blk w g t vs) (hfit : off + k ≤ vs.length)
    (h : wpList P ops Q rest (a.put o.dst (goInt (k : Int))) (w.setRow g (splice vs off (bv (l.take k))).toArray)) : wpList P ops Q (o :: rest) a w := by
  refine wpList_plain hgd fun K hK => ?_
  have hrun := run_copy_blk_string (P := P) w dT sT o.type elem g off dLen dCap l k hk vs t hg hu hsz hfit
  unfold Oper.wp
  simp only [execOp, ho, resolve, invoke, builtin, Sem.run_bind]
  simp [hd, hs, hrun, Result.andThen]
  exact hK _ _ h

def add64 (x y : Nat) : Nat := (x + y) % 18446744073709551616
theorem rule_add64 (x y : Nat) : IntKind.u64.wrap ((x : Int) + (y : Int)) = ((add64 x y : Nat) : Int) := by
  simp [IntKind.wrap, IntKind.bits, IntKind.signed, add64]
end Go.Proofs.YtnbdpalbompjlaaDoor
