/-
  '[]byte(s)' under names of its own, and Put behind it.
-/
import Derived.Test.YtickcajihaejkaaPut
namespace Go.Proofs.Ytickcajihaejkaa
open Go.RowKit
set_option maxRecDepth 10000

/-- What '[]byte(s)' answers, and the world behind it, under names of their own. -/
def bytesVal (W : World) (s : ByteArray) : Value := .slice (some ⟨W.heap.size, 0, none⟩) s.size (grownCap W s.size 0 5)
def bytesWorld (W : World) (s : ByteArray) : World :=
  W.drew.alloc (.cells (bytesRow s (grownCap W s.size 0 5)) 5 ((bytesRow s (grownCap W s.size 0 5)).size, (bytesRow s (grownCap W s.size 0 5)).size + 1))

theorem bytes_run (W : World) (s : ByteArray) : Sem.run Try.prog (convert 9 41 (.string s)) W = .ok (bytesVal W s) (bytesWorld W s) :=
  run_bytes_of_string (P := Try.prog) W 9 41 5 s Try.underlying9 Try.underlying41 Try.underlying5

theorem bytes_held (W : World) (s : ByteArray) (hm : s.size ≤ maxLen) : Held (bytesWorld W s) W.heap.size (bytesVal W s) (bv s.data.toList) ∧ Below W.heap.size W (bytesWorld W s) := by
  obtain ⟨v, w', hr, hh, hb⟩ := held_bytes (P := Try.prog) W 9 41 5 s Try.underlying9 Try.underlying41 Try.underlying5 hm
  rw [bytes_run] at hr
  cases hr
  exact ⟨hh, hb⟩

theorem join_bytes (s : ByteArray) (l : List UInt8) : (⟨(s.data.toList ++ l).toArray⟩ : ByteArray) = s ++ ⟨l.toArray⟩ := by
  apply ByteArray.ext
  simp

theorem put_bytes (W : World) (s : ByteArray) (n : Nat) (width : Int) (hn : n < 2 ^ 64) (hs : s.size ≤ 1000) :
    Calls Try.prog 29 #[bytesVal W s, .int .u64 n, .int .i64 width] (bytesWorld W s) fun e w' => ∃ v', e = .returned v' ∧ Held w' W.heap.size v' (bv (s.data.toList ++ leB n (wid width))) ∧ Below W.heap.size W w' := by
  have hm : s.size ≤ maxLen := by unfold maxLen; omega
  obtain ⟨hh, hb⟩ := bytes_held W s hm
  refine (put_any (bytesWorld W s) W.heap.size (bytesVal W s) s.data.toList n width hn hh hb.size ?_).mono fun e w' ⟨v', h1, h2, h3⟩ => ⟨v', h1, h2, hb.trans ((Below.refl _ _).grown h3.grown hb.size ?_)⟩
  · have : s.data.toList.length = s.size := Array.length_toList
    omega
  · intro k hk
    unfold bytesVal Value.ownBlock at hk
    cases hk
    exact Nat.le_refl _

end Go.Proofs.Ytickcajihaejkaa
