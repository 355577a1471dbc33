/-
  What plays no part in a message's tag: plain mathematics.
-/
import Derived.Test.YtnbdpalbompjlaaDoorM7
import Derived.Test.YtnbdpalbompjlaaDoorSealSign
namespace Go.Proofs.YtnbdpalbompjlaaDoor
open Go.RowKit
set_option maxRecDepth 10000

theorem bytes_comm (a b : List UInt8) : (a == b) = (b == a) := by rw [Bool.eq_iff_iff, beq_iff_eq, beq_iff_eq, eq_comm]
theorem good_own (M : Msg) (t : List UInt8) : msgGood { M with G := t } = msgGood M := rfl
theorem spk_tagless (K : List Nat) (M : Msg) (t : List UInt8) : spk K { M with G := t } = spk K M := rfl
theorem part_tagless (M : Msg) (t : List UInt8) (i : Nat) : msgP (partM { M with G := t } i) = msgP (partM M i) := by
  unfold partM
  by_cases k : M.k = 3
  · rw [if_pos (show ({ M with G := t } : Msg).k = 3 from k), if_pos k]; rfl
  · rw [if_neg (show ¬ ({ M with G := t } : Msg).k = 3 from k), if_neg k]; rfl
theorem tags_tagless (vs : List (Int × ByteArray)) (M : Msg) (t : List UInt8) (l : List Nat) : tagsM vs { M with G := t } l = tagsM vs M l := by
  unfold tagsM
  refine List.map_congr_left fun i _ => ?_
  rw [tagOne, tagOne, part_tagless]
theorem sealT_tagless (vs : List (Int × ByteArray)) (K : List Nat) (M : Msg) (t : List UInt8) : sealT vs K { M with G := t } = sealT vs K M := by
  unfold sealT
  rw [spk_tagless]
  split
  · rw [tags_tagless]
  · rfl
theorem votes_tagless (K : List Nat) (M : Msg) (t : List UInt8) : votesM K { M with G := t } = votesM K M := rfl
theorem sealC_tag (vs : List (Int × ByteArray)) (K : List Nat) (M : Msg) (t : List UInt8) : sealC vs K { M with G := t } = ((spk K M).isSome && (sealT vs K M == t)) := by
  rw [sealC, sealT_tagless, spk_tagless]
/-- What is signed is checked. -/
theorem signM_yes {vs : List (Int × ByteArray)} {K : List Nat} {M : Msg} (h : (spk K M).isSome = true) : signM vs K M = { M with G := sealT vs K M } := by rw [signM, if_pos h]
theorem sealC_sign {vs : List (Int × ByteArray)} {K : List Nat} {M : Msg} (h : (spk K M).isSome = true) : sealC vs K (signM vs K M) = true := by
  rw [signM_yes h, sealC_tag, h]; simp
end Go.Proofs.YtnbdpalbompjlaaDoor
