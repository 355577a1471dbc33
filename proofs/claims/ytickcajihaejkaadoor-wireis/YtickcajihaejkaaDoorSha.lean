/-
  Blocks of 64 bytes, one behind the other: plain mathematics.
-/
import Derived.Test.YtickcajihaejkaaDoorMix
namespace Go.Proofs.YtickcajihaejkaaDoor

def compress (h : List Nat) (b : List UInt8) : List Nat := mixed h (spw b 64)
/-- Block number i of the bytes. -/
def blockAt (bs : List UInt8) (i : Nat) : List UInt8 := (bs.drop (64 * i)).take 64
/-- The words behind the first n blocks. -/
def runN (h : List Nat) (bs : List UInt8) : Nat → List Nat
  | 0 => h
  | n + 1 => compress (runN h bs n) (blockAt bs n)

theorem runN_length (h : List Nat) (bs : List UInt8) (hh : h.length = 8) : ∀ n, (runN h bs n).length = 8
  | 0 => hh
  | n + 1 => mixed_length _ _ (runN_length h bs hh n)

theorem blockAt_append (bs cs : List UInt8) (i : Nat) (h : 64 * (i + 1) ≤ bs.length) : blockAt (bs ++ cs) i = blockAt bs i := by
  rw [blockAt, blockAt, List.drop_append_of_le_length (by omega), List.take_append_of_le_length (by rw [List.length_drop]; omega)]

theorem runN_append (h : List Nat) (bs cs : List UInt8) : ∀ n, 64 * n ≤ bs.length → runN h (bs ++ cs) n = runN h bs n
  | 0, _ => rfl
  | n + 1, hn => by rw [runN, runN, runN_append h bs cs n (by omega), blockAt_append bs cs n hn]

/-- What is kept of bytes: the words behind the whole blocks, and a block that begins with what is left over. -/
structure StP (bs : List UInt8) (h : List Nat) (blk : List UInt8) : Prop where
  words : h = runN firstL bs (bs.length / 64)
  len : blk.length = 64
  part : blk.take (bs.length % 64) = bs.drop (64 * (bs.length / 64))

theorem splice_take {α : Type} (l cs : List α) (k : Nat) (hk : k + cs.length ≤ l.length) : (splice l k cs).take (k + cs.length) = l.take k ++ cs := by
  rw [splice, ← List.append_assoc, List.take_append_of_le_length (by simp; omega), List.take_of_length_le (by simp; omega)]

theorem StP.step {bs : List UInt8} {h : List Nat} {blk cs : List UInt8} (s : StP bs h blk) (hc : bs.length % 64 + cs.length < 64) : StP (bs ++ cs) h (splice blk (bs.length % 64) cs) := by
  have hl : (bs ++ cs).length = bs.length + cs.length := by simp
  have hq : (bs ++ cs).length / 64 = bs.length / 64 := by omega
  have hr : (bs ++ cs).length % 64 = bs.length % 64 + cs.length := by omega
  have hb := s.len
  refine ⟨by rw [hq, runN_append _ _ _ _ (by omega)]; exact s.words, by rw [length_splice _ _ _ (by omega)]; exact hb, ?_⟩
  rw [hr, hq, splice_take _ _ _ (by omega), s.part, List.drop_append_of_le_length (by omega)]

theorem StP.full {bs : List UInt8} {h : List Nat} {blk cs : List UInt8} (s : StP bs h blk) (hc : bs.length % 64 + cs.length = 64) : StP (bs ++ cs) (compress h (splice blk (bs.length % 64) cs)) (splice blk (bs.length % 64) cs) := by
  have hl : (bs ++ cs).length = bs.length + cs.length := by simp
  have hq : (bs ++ cs).length / 64 = bs.length / 64 + 1 := by omega
  have hr : (bs ++ cs).length % 64 = 0 := by omega
  have hb := s.len
  have hsl : (splice blk (bs.length % 64) cs).length = 64 := by rw [length_splice _ _ _ (by omega)]; exact hb
  have hbl : blockAt (bs ++ cs) (bs.length / 64) = splice blk (bs.length % 64) cs := by
    have h1 := splice_take blk cs (bs.length % 64) (by omega)
    rw [hc, List.take_of_length_le (by omega), s.part] at h1
    rw [h1, blockAt, List.drop_append_of_le_length (by omega)]
    exact List.take_of_length_le (by simp; omega)
  refine ⟨?_, hsl, ?_⟩
  · rw [hq, runN, hbl, runN_append _ _ _ _ (by omega), ← s.words]
  · rw [hr, hq]
    simp
    omega

theorem StP.start (blk : List UInt8) (h : blk.length = 64) : StP [] firstL blk := ⟨rfl, h, by simp⟩
theorem StP.wlen {bs : List UInt8} {h : List Nat} {blk : List UInt8} (s : StP bs h blk) : h.length = 8 := by rw [s.words]; exact runN_length _ _ rfl _

/-- So many bytes 0 are filled in behind the mark. -/
def padN (n : Nat) : Nat := (55 + 64 - n % 64) % 64
/-- Eight bytes of a number, the highest first. -/
def be8 (x : Nat) : List UInt8 := be4 (x / 4294967296) ++ be4 x
def padded (bs : List UInt8) : List UInt8 := bs ++ ([128] ++ List.replicate (padN bs.length) 0) ++ be8 (bs.length * 8 % 18446744073709551616)
/-- The digest's bytes. -/
def digest (bs : List UInt8) : List UInt8 := (runN firstL (padded bs) ((padded bs).length / 64)).flatMap be4

theorem be4_length (x : Nat) : (be4 x).length = 4 := rfl
theorem be8_length (x : Nat) : (be8 x).length = 8 := rfl
theorem padded_length (bs : List UInt8) : (padded bs).length % 64 = 0 := by simp [padded, padN, be8_length]; omega

/-- The digest as its digits. -/
def hexd (n : Nat) : UInt8 := if n < 10 then UInt8.ofNat (48 + n) else UInt8.ofNat (87 + n)
def show_ (l : List UInt8) : List UInt8 := l.flatMap fun b => [hexd (b.toNat / 16), hexd (b.toNat % 16)]

def abcShown : List UInt8 := [98, 97, 55, 56, 49, 54, 98, 102, 56, 102, 48, 49, 99, 102, 101, 97, 52, 49, 52, 49, 52, 48, 100, 101, 53, 100, 97, 101, 50, 50, 50, 51, 98, 48, 48, 51, 54, 49, 97, 51, 57, 54, 49, 55, 55, 97, 57, 99, 98, 52, 49, 48, 102, 102, 54, 49, 102, 50, 48, 48, 49, 53, 97, 100]

set_option maxRecDepth 100000 in
theorem abc_shown : show_ (digest [97, 98, 99]) = abcShown := by decide +kernel
end Go.Proofs.YtickcajihaejkaaDoor
