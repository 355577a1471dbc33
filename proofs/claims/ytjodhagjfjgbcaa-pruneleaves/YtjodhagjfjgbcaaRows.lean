/-
  No cell of these rows narrows 'for every input' (looked for: loops, veiled, ifaces, maps, wideKeys, modest, calm, conditions, laid).
  DERIVED. THE GIVEN ROWS OF THIS SEAT. 5 by the template 'for every input the law returns true; each argument reads behind the call as it read before'; 0 by the template 'total and deterministic' (their statements: YtjodhagjfjgbcaaTotals.lean).
  GIVEN WITH THE SEED: the statements are not yours to turn. If you find one false, say at which input.
  Laid BY PROGRAM, IN A SANDBOX (cutbox-rows.mjs): the forced cells as the released guide's own fill.sh prints them over the translation 5f132d2586e3ec46… (all of the seat's roots in one cut). By AI agents, Wed Nov 11 2026. No macro, syntax, notation, axiom, sorry.
-/
import Derived.Test.YtjodhagjfjgbcaaChecked
import GoSem.Claim
import GoSem.ClaimJoined
import GoSem.ClaimMapViews
import Derived.JoinedTies
import Derived.KernelRfl
namespace Go.Proofs.Ytjodhagjfjgbcaa
/- THE CELL 'sum', in the pinned program and in every row, IS THE sha256 OF THE DUMP (.gsa) THAT YtjodhagjfjgbcaaProg.lean LOADS. Nothing in Lean hashes anything: it is a label: what it is worth is what the hold of that sum in a sandbox is worth. -/
noncomputable def Try.pinned : Pinned := { name := "ytjodhagjfjgbcaa", sum := "5f132d2586e3ec46603d1c5b6bf6ea4d0a609b2e07269a1a50ad32dc397d439d", checked := Try.checked }
namespace Rows
def none {H : Type} : Left H := { results := [], args := [] }

/-- 'tollerlaw12.PruneIs': WHATEVER THE INPUT: true; the input reads as it did. -/
def pruneIsSpec : ChangeSpec := { name := "pruneIs", fn := fun _ => fun
  | [d1, d2, d3] => { results := [.lit (.bool true)], args := [d1, d2, d3] }
  | _ => none }
def pruneIsRow : OpenClaim := { program := "ytjodhagjfjgbcaa", sum := "5f132d2586e3ec46603d1c5b6bf6ea4d0a609b2e07269a1a50ad32dc397d439d", func := "toller/tollerlaw12.PruneIs", spec := "pruneIs", inPlace := ["internal/bytealg.Compare"], unfollowed := true, recurses := true, plainKeys := false, apart := false }
def PruneIsSaid : Prop := pruneIsRow.holds Try.pinned (OpenSpec.ofChange pruneIsSpec)

/-- ITS FALSE NEIGHBOUR: 'it returns false'. Refute it at one input. -/
def pruneIsWrong : ChangeSpec := { name := "pruneIs", fn := fun _ => fun
  | [d1, d2, d3] => { results := [.lit (.bool false)], args := [d1, d2, d3] }
  | _ => none }
def PruneIsWrongFalsely : Prop := pruneIsRow.holds Try.pinned (OpenSpec.ofChange pruneIsWrong)

/-- 'tollerlaw12.PruneKeeps': WHATEVER THE INPUT: true; the input reads as it did. -/
def pruneKeepsSpec : ChangeSpec := { name := "pruneKeeps", fn := fun _ => fun
  | [d1, d2] => { results := [.lit (.bool true)], args := [d1, d2] }
  | _ => none }
def pruneKeepsRow : OpenClaim := { program := "ytjodhagjfjgbcaa", sum := "5f132d2586e3ec46603d1c5b6bf6ea4d0a609b2e07269a1a50ad32dc397d439d", func := "toller/tollerlaw12.PruneKeeps", spec := "pruneKeeps", inPlace := ["internal/bytealg.Compare"], unfollowed := true, recurses := true, plainKeys := false, apart := false }
def PruneKeepsSaid : Prop := pruneKeepsRow.holds Try.pinned (OpenSpec.ofChange pruneKeepsSpec)

/-- ITS FALSE NEIGHBOUR: 'it returns false'. Refute it at one input. -/
def pruneKeepsWrong : ChangeSpec := { name := "pruneKeeps", fn := fun _ => fun
  | [d1, d2] => { results := [.lit (.bool false)], args := [d1, d2] }
  | _ => none }
def PruneKeepsWrongFalsely : Prop := pruneKeepsRow.holds Try.pinned (OpenSpec.ofChange pruneKeepsWrong)

/-- 'tollerlaw12.PruneTwice': WHATEVER THE INPUT: true; the input reads as it did. -/
def pruneTwiceSpec : ChangeSpec := { name := "pruneTwice", fn := fun _ => fun
  | [d1, d2, d3] => { results := [.lit (.bool true)], args := [d1, d2, d3] }
  | _ => none }
def pruneTwiceRow : OpenClaim := { program := "ytjodhagjfjgbcaa", sum := "5f132d2586e3ec46603d1c5b6bf6ea4d0a609b2e07269a1a50ad32dc397d439d", func := "toller/tollerlaw12.PruneTwice", spec := "pruneTwice", inPlace := ["internal/bytealg.Compare"], unfollowed := true, recurses := true, plainKeys := false, apart := false }
def PruneTwiceSaid : Prop := pruneTwiceRow.holds Try.pinned (OpenSpec.ofChange pruneTwiceSpec)

/-- ITS FALSE NEIGHBOUR: 'it returns false'. Refute it at one input. -/
def pruneTwiceWrong : ChangeSpec := { name := "pruneTwice", fn := fun _ => fun
  | [d1, d2, d3] => { results := [.lit (.bool false)], args := [d1, d2, d3] }
  | _ => none }
def PruneTwiceWrongFalsely : Prop := pruneTwiceRow.holds Try.pinned (OpenSpec.ofChange pruneTwiceWrong)

/-- 'tollerlaw12.PruneFirst': WHATEVER THE INPUT: true; the input reads as it did. -/
def pruneFirstSpec : ChangeSpec := { name := "pruneFirst", fn := fun _ => fun
  | [d] => { results := [.lit (.bool true)], args := [d] }
  | _ => none }
def pruneFirstRow : OpenClaim := { program := "ytjodhagjfjgbcaa", sum := "5f132d2586e3ec46603d1c5b6bf6ea4d0a609b2e07269a1a50ad32dc397d439d", func := "toller/tollerlaw12.PruneFirst", spec := "pruneFirst", inPlace := ["internal/bytealg.Compare"], unfollowed := true, recurses := true, plainKeys := false, apart := false }
def PruneFirstSaid : Prop := pruneFirstRow.holds Try.pinned (OpenSpec.ofChange pruneFirstSpec)

/-- ITS FALSE NEIGHBOUR: 'it returns false'. Refute it at one input. -/
def pruneFirstWrong : ChangeSpec := { name := "pruneFirst", fn := fun _ => fun
  | [d] => { results := [.lit (.bool false)], args := [d] }
  | _ => none }
def PruneFirstWrongFalsely : Prop := pruneFirstRow.holds Try.pinned (OpenSpec.ofChange pruneFirstWrong)

/-- 'tollerlaw12.PruneLeaves': WHATEVER THE INPUT: true; the input reads as it did. -/
def pruneLeavesSpec : ChangeSpec := { name := "pruneLeaves", fn := fun _ => fun
  | [d] => { results := [.lit (.bool true)], args := [d] }
  | _ => none }
def pruneLeavesRow : OpenClaim := { program := "ytjodhagjfjgbcaa", sum := "5f132d2586e3ec46603d1c5b6bf6ea4d0a609b2e07269a1a50ad32dc397d439d", func := "toller/tollerlaw12.PruneLeaves", spec := "pruneLeaves", inPlace := ["internal/bytealg.Compare"], unfollowed := true, recurses := true, plainKeys := false, apart := false }
def PruneLeavesSaid : Prop := pruneLeavesRow.holds Try.pinned (OpenSpec.ofChange pruneLeavesSpec)

/-- ITS FALSE NEIGHBOUR: 'it returns false'. Refute it at one input. -/
def pruneLeavesWrong : ChangeSpec := { name := "pruneLeaves", fn := fun _ => fun
  | [d] => { results := [.lit (.bool false)], args := [d] }
  | _ => none }
def PruneLeavesWrongFalsely : Prop := pruneLeavesRow.holds Try.pinned (OpenSpec.ofChange pruneLeavesWrong)

/- THE SECOND FORM. 'bulk': how many values and letters a reading holds, each counted each time it is reached (what is shared counts as often as it is met; a slice's spare places count too). A statement '..UptoSaid' is the law's where the arguments, and the package variables that the reading takes, are together of bulk at most 1048576: NARROWER than '..Said'. Prove '..Said' where nothing that the law and all that it calls make is longer than what came in: it says more and counts as full. Else prove '..UptoSaid'. A law counts once. -/
mutual
def uptoBulk {H : Type} : DataW H → Nat
  | .lit (.string bytes) => bytes.length + 1
  | .lit _ => 1
  | .nil => 1
  | .ptr d => uptoBulk d + 1
  | .slice elems spare => uptoBulkAll elems + uptoBulkAll spare + 1
  | .agg parts => uptoBulkAll parts + 1
  | .iface _ d => uptoBulk d + 1
  | .map entries => uptoBulkEntries entries + 1
  | .held _ => 1
def uptoBulkAll {H : Type} : List (DataW H) → Nat
  | [] => 0
  | d :: r => uptoBulk d + uptoBulkAll r
def uptoBulkEntries {H : Type} : List (Lit × DataW H) → Nat
  | [] => 0
  | x :: r => uptoBulkEntry x + uptoBulkEntries r
def uptoBulkEntry {H : Type} : Lit × DataW H → Nat
  | (.string bytes, d) => bytes.length + uptoBulk d + 1
  | (_, d) => uptoBulk d + 1
 end
def uptoSmall : (H : Type) → List (DataW H) → Bool := fun _ ds => decide (uptoBulkAll ds ≤ 1048576)
def OpenSpec.upto (s : _root_.Go.ChangeSpec) : _root_.Go.OpenSpec := { _root_.Go.OpenSpec.ofChange s with cond := some uptoSmall }

/-- 'tollerlaw12.PruneIs', WHERE WHAT IT READS IS OF BULK AT MOST 1048576: true; the input reads as it did. -/
def pruneIsUptoRow : OpenClaim := { program := "ytjodhagjfjgbcaa", sum := "5f132d2586e3ec46603d1c5b6bf6ea4d0a609b2e07269a1a50ad32dc397d439d", func := "toller/tollerlaw12.PruneIs", spec := "pruneIs", inPlace := ["internal/bytealg.Compare"], unfollowed := true, recurses := true, plainKeys := false, apart := false, narrowed := true }
def PruneIsUptoSaid : Prop := pruneIsUptoRow.holds Try.pinned (OpenSpec.upto pruneIsSpec)

/-- 'tollerlaw12.PruneKeeps', WHERE WHAT IT READS IS OF BULK AT MOST 1048576: true; the input reads as it did. -/
def pruneKeepsUptoRow : OpenClaim := { program := "ytjodhagjfjgbcaa", sum := "5f132d2586e3ec46603d1c5b6bf6ea4d0a609b2e07269a1a50ad32dc397d439d", func := "toller/tollerlaw12.PruneKeeps", spec := "pruneKeeps", inPlace := ["internal/bytealg.Compare"], unfollowed := true, recurses := true, plainKeys := false, apart := false, narrowed := true }
def PruneKeepsUptoSaid : Prop := pruneKeepsUptoRow.holds Try.pinned (OpenSpec.upto pruneKeepsSpec)

/-- 'tollerlaw12.PruneTwice', WHERE WHAT IT READS IS OF BULK AT MOST 1048576: true; the input reads as it did. -/
def pruneTwiceUptoRow : OpenClaim := { program := "ytjodhagjfjgbcaa", sum := "5f132d2586e3ec46603d1c5b6bf6ea4d0a609b2e07269a1a50ad32dc397d439d", func := "toller/tollerlaw12.PruneTwice", spec := "pruneTwice", inPlace := ["internal/bytealg.Compare"], unfollowed := true, recurses := true, plainKeys := false, apart := false, narrowed := true }
def PruneTwiceUptoSaid : Prop := pruneTwiceUptoRow.holds Try.pinned (OpenSpec.upto pruneTwiceSpec)

/-- 'tollerlaw12.PruneFirst', WHERE WHAT IT READS IS OF BULK AT MOST 1048576: true; the input reads as it did. -/
def pruneFirstUptoRow : OpenClaim := { program := "ytjodhagjfjgbcaa", sum := "5f132d2586e3ec46603d1c5b6bf6ea4d0a609b2e07269a1a50ad32dc397d439d", func := "toller/tollerlaw12.PruneFirst", spec := "pruneFirst", inPlace := ["internal/bytealg.Compare"], unfollowed := true, recurses := true, plainKeys := false, apart := false, narrowed := true }
def PruneFirstUptoSaid : Prop := pruneFirstUptoRow.holds Try.pinned (OpenSpec.upto pruneFirstSpec)

/-- 'tollerlaw12.PruneLeaves', WHERE WHAT IT READS IS OF BULK AT MOST 1048576: true; the input reads as it did. -/
def pruneLeavesUptoRow : OpenClaim := { program := "ytjodhagjfjgbcaa", sum := "5f132d2586e3ec46603d1c5b6bf6ea4d0a609b2e07269a1a50ad32dc397d439d", func := "toller/tollerlaw12.PruneLeaves", spec := "pruneLeaves", inPlace := ["internal/bytealg.Compare"], unfollowed := true, recurses := true, plainKeys := false, apart := false, narrowed := true }
def PruneLeavesUptoSaid : Prop := pruneLeavesUptoRow.holds Try.pinned (OpenSpec.upto pruneLeavesSpec)

end Rows
end Go.Proofs.Ytjodhagjfjgbcaa
