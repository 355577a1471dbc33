/-
  No cell of these rows narrows 'for every input' (looked for: loops, veiled, ifaces, maps, wideKeys, modest, calm, conditions, laid).
  DERIVED. THE GIVEN ROWS OF THIS SEAT. 4 by the template 'for every input the law returns true; each argument reads behind the call as it read before'; 0 by the template 'total and deterministic' (their statements: YtanpckikgfmgoaaTotals.lean).
  GIVEN WITH THE SEED: the statements are not yours to turn. If you find one false, say at which input.
  Laid BY PROGRAM, IN A SANDBOX (cutbox-rows.mjs): the forced cells as the released guide's own fill.sh prints them over the translation ce1b52a44bcb6752… (all of the seat's roots in one cut). By AI agents, Wed Nov 11 2026. No macro, syntax, notation, axiom, sorry.
-/
import Derived.Test.YtanpckikgfmgoaaChecked
import GoSem.Claim
import GoSem.ClaimJoined
import GoSem.ClaimMapViews
import Derived.JoinedTies
import Derived.KernelRfl
namespace Go.Proofs.Ytanpckikgfmgoaa
/- THE CELL 'sum', in the pinned program and in every row, IS THE sha256 OF THE DUMP (.gsa) THAT YtanpckikgfmgoaaProg.lean LOADS. Nothing in Lean hashes anything: it is a label: what it is worth is what the hold of that sum in a sandbox is worth. -/
noncomputable def Try.pinned : Pinned := { name := "ytanpckikgfmgoaa", sum := "ce1b52a44bcb6752f71275c548ae1daa1f2b1b8692a39a6b60d6338dbb2aba2d", checked := Try.checked }
namespace Rows
def none {H : Type} : Left H := { results := [], args := [] }

/-- 'tollerlaw09.ClockIs': WHATEVER THE INPUT: true; the input reads as it did. -/
def clockIsSpec : ChangeSpec := { name := "clockIs", fn := fun _ => fun
  | [d1, d2, d3, d4] => { results := [.lit (.bool true)], args := [d1, d2, d3, d4] }
  | _ => none }
def clockIsRow : OpenClaim := { program := "ytanpckikgfmgoaa", sum := "ce1b52a44bcb6752f71275c548ae1daa1f2b1b8692a39a6b60d6338dbb2aba2d", func := "toller/tollerlaw09.ClockIs", spec := "clockIs", apart := false }
def ClockIsSaid : Prop := clockIsRow.holds Try.pinned (OpenSpec.ofChange clockIsSpec)

/-- ITS FALSE NEIGHBOUR: 'it returns false'. Refute it at one input. -/
def clockIsWrong : ChangeSpec := { name := "clockIs", fn := fun _ => fun
  | [d1, d2, d3, d4] => { results := [.lit (.bool false)], args := [d1, d2, d3, d4] }
  | _ => none }
def ClockIsWrongFalsely : Prop := clockIsRow.holds Try.pinned (OpenSpec.ofChange clockIsWrong)

/-- 'tollerlaw09.ClockRipens': WHATEVER THE INPUT: true; the input reads as it did. -/
def clockRipensSpec : ChangeSpec := { name := "clockRipens", fn := fun _ => fun
  | [d1, d2, d3] => { results := [.lit (.bool true)], args := [d1, d2, d3] }
  | _ => none }
def clockRipensRow : OpenClaim := { program := "ytanpckikgfmgoaa", sum := "ce1b52a44bcb6752f71275c548ae1daa1f2b1b8692a39a6b60d6338dbb2aba2d", func := "toller/tollerlaw09.ClockRipens", spec := "clockRipens", apart := false }
def ClockRipensSaid : Prop := clockRipensRow.holds Try.pinned (OpenSpec.ofChange clockRipensSpec)

/-- ITS FALSE NEIGHBOUR: 'it returns false'. Refute it at one input. -/
def clockRipensWrong : ChangeSpec := { name := "clockRipens", fn := fun _ => fun
  | [d1, d2, d3] => { results := [.lit (.bool false)], args := [d1, d2, d3] }
  | _ => none }
def ClockRipensWrongFalsely : Prop := clockRipensRow.holds Try.pinned (OpenSpec.ofChange clockRipensWrong)

/-- 'tollerlaw09.ClockCounts': WHATEVER THE INPUT: true; the input reads as it did. -/
def clockCountsSpec : ChangeSpec := { name := "clockCounts", fn := fun _ => fun
  | [d1, d2, d3] => { results := [.lit (.bool true)], args := [d1, d2, d3] }
  | _ => none }
def clockCountsRow : OpenClaim := { program := "ytanpckikgfmgoaa", sum := "ce1b52a44bcb6752f71275c548ae1daa1f2b1b8692a39a6b60d6338dbb2aba2d", func := "toller/tollerlaw09.ClockCounts", spec := "clockCounts", apart := false }
def ClockCountsSaid : Prop := clockCountsRow.holds Try.pinned (OpenSpec.ofChange clockCountsSpec)

/-- ITS FALSE NEIGHBOUR: 'it returns false'. Refute it at one input. -/
def clockCountsWrong : ChangeSpec := { name := "clockCounts", fn := fun _ => fun
  | [d1, d2, d3] => { results := [.lit (.bool false)], args := [d1, d2, d3] }
  | _ => none }
def ClockCountsWrongFalsely : Prop := clockCountsRow.holds Try.pinned (OpenSpec.ofChange clockCountsWrong)

/-- 'tollerlaw09.ClockStays': WHATEVER THE INPUT: true; the input reads as it did. -/
def clockStaysSpec : ChangeSpec := { name := "clockStays", fn := fun _ => fun
  | [d1, d2, d3, d4, d5] => { results := [.lit (.bool true)], args := [d1, d2, d3, d4, d5] }
  | _ => none }
def clockStaysRow : OpenClaim := { program := "ytanpckikgfmgoaa", sum := "ce1b52a44bcb6752f71275c548ae1daa1f2b1b8692a39a6b60d6338dbb2aba2d", func := "toller/tollerlaw09.ClockStays", spec := "clockStays", apart := false }
def ClockStaysSaid : Prop := clockStaysRow.holds Try.pinned (OpenSpec.ofChange clockStaysSpec)

/-- ITS FALSE NEIGHBOUR: 'it returns false'. Refute it at one input. -/
def clockStaysWrong : ChangeSpec := { name := "clockStays", fn := fun _ => fun
  | [d1, d2, d3, d4, d5] => { results := [.lit (.bool false)], args := [d1, d2, d3, d4, d5] }
  | _ => none }
def ClockStaysWrongFalsely : Prop := clockStaysRow.holds Try.pinned (OpenSpec.ofChange clockStaysWrong)

/- THE SECOND FORM. 'bulk': how many values and letters a reading holds, each counted each time it is reached (what is shared counts as often as it is met; a slice's spare places count too). A statement '..UptoSaid' is the law's where the arguments, and the package variables that the reading takes, are together of bulk at most 1048576: NARROWER than '..Said'. Prove '..Said' where nothing that the law and all that it calls make is longer than what came in: it says more and counts as full. Else prove '..UptoSaid'. A law counts once. -/
mutual
def uptoBulk {H : Type} : DataW H → Nat
  | .lit (.string bytes) => bytes.length + 1
  | .lit _ => 1
  | .nil => 1
  | .ptr d => uptoBulk d + 1
  | .slice elems spare => uptoBulkAll elems + uptoBulkAll spare + 1
  | .agg parts => uptoBulkAll parts + 1
  | .iface _ d => uptoBulk d + 1
  | .map entries => uptoBulkEntries entries + 1
  | .held _ => 1
def uptoBulkAll {H : Type} : List (DataW H) → Nat
  | [] => 0
  | d :: r => uptoBulk d + uptoBulkAll r
def uptoBulkEntries {H : Type} : List (Lit × DataW H) → Nat
  | [] => 0
  | x :: r => uptoBulkEntry x + uptoBulkEntries r
def uptoBulkEntry {H : Type} : Lit × DataW H → Nat
  | (.string bytes, d) => bytes.length + uptoBulk d + 1
  | (_, d) => uptoBulk d + 1
 end
def uptoSmall : (H : Type) → List (DataW H) → Bool := fun _ ds => decide (uptoBulkAll ds ≤ 1048576)
def OpenSpec.upto (s : _root_.Go.ChangeSpec) : _root_.Go.OpenSpec := { _root_.Go.OpenSpec.ofChange s with cond := some uptoSmall }

/-- 'tollerlaw09.ClockIs', WHERE WHAT IT READS IS OF BULK AT MOST 1048576: true; the input reads as it did. -/
def clockIsUptoRow : OpenClaim := { program := "ytanpckikgfmgoaa", sum := "ce1b52a44bcb6752f71275c548ae1daa1f2b1b8692a39a6b60d6338dbb2aba2d", func := "toller/tollerlaw09.ClockIs", spec := "clockIs", apart := false, narrowed := true }
def ClockIsUptoSaid : Prop := clockIsUptoRow.holds Try.pinned (OpenSpec.upto clockIsSpec)

/-- 'tollerlaw09.ClockRipens', WHERE WHAT IT READS IS OF BULK AT MOST 1048576: true; the input reads as it did. -/
def clockRipensUptoRow : OpenClaim := { program := "ytanpckikgfmgoaa", sum := "ce1b52a44bcb6752f71275c548ae1daa1f2b1b8692a39a6b60d6338dbb2aba2d", func := "toller/tollerlaw09.ClockRipens", spec := "clockRipens", apart := false, narrowed := true }
def ClockRipensUptoSaid : Prop := clockRipensUptoRow.holds Try.pinned (OpenSpec.upto clockRipensSpec)

/-- 'tollerlaw09.ClockCounts', WHERE WHAT IT READS IS OF BULK AT MOST 1048576: true; the input reads as it did. -/
def clockCountsUptoRow : OpenClaim := { program := "ytanpckikgfmgoaa", sum := "ce1b52a44bcb6752f71275c548ae1daa1f2b1b8692a39a6b60d6338dbb2aba2d", func := "toller/tollerlaw09.ClockCounts", spec := "clockCounts", apart := false, narrowed := true }
def ClockCountsUptoSaid : Prop := clockCountsUptoRow.holds Try.pinned (OpenSpec.upto clockCountsSpec)

/-- 'tollerlaw09.ClockStays', WHERE WHAT IT READS IS OF BULK AT MOST 1048576: true; the input reads as it did. -/
def clockStaysUptoRow : OpenClaim := { program := "ytanpckikgfmgoaa", sum := "ce1b52a44bcb6752f71275c548ae1daa1f2b1b8692a39a6b60d6338dbb2aba2d", func := "toller/tollerlaw09.ClockStays", spec := "clockStays", apart := false, narrowed := true }
def ClockStaysUptoSaid : Prop := clockStaysUptoRow.holds Try.pinned (OpenSpec.upto clockStaysSpec)

end Rows
end Go.Proofs.Ytanpckikgfmgoaa
