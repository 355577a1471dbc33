/-
  No cell of these rows narrows 'for every input' (looked for: loops, veiled, ifaces, maps, wideKeys, modest, calm, conditions, laid).
  DERIVED. THE GIVEN ROWS OF THIS SEAT. 5 by the template 'for every input the law returns true; each argument reads behind the call as it read before'; 0 by the template 'total and deterministic' (their statements: YtacoaiaddnlnaaaTotals.lean).
  GIVEN WITH THE SEED: the statements are not yours to turn. If you find one false, say at which input.
  Laid BY PROGRAM, IN A SANDBOX (cutbox-rows.mjs): the forced cells as the released guide's own fill.sh prints them over the translation 67fa0ac96c12030e… (all of the seat's roots in one cut). By AI agents, Wed Nov 11 2026. No macro, syntax, notation, axiom, sorry.
-/
import Derived.Test.YtacoaiaddnlnaaaChecked
import GoSem.Claim
import GoSem.ClaimJoined
import GoSem.ClaimMapViews
import Derived.JoinedTies
import Derived.KernelRfl
namespace Go.Proofs.Ytacoaiaddnlnaaa
/- THE CELL 'sum', in the pinned program and in every row, IS THE sha256 OF THE DUMP (.gsa) THAT YtacoaiaddnlnaaaProg.lean LOADS. Nothing in Lean hashes anything: it is a label: what it is worth is what the hold of that sum in a sandbox is worth. -/
noncomputable def Try.pinned : Pinned := { name := "ytacoaiaddnlnaaa", sum := "67fa0ac96c12030ef70c3e3f16bbb031ad3870c9b88287394668ccb6124aa965", checked := Try.checked }
namespace Rows
def none {H : Type} : Left H := { results := [], args := [] }

/-- 'tollerlaw05.GenesisIs': WHATEVER THE INPUT: true; the input reads as it did. -/
def genesisIsSpec : ChangeSpec := { name := "genesisIs", fn := fun _ => fun
  | [d] => { results := [.lit (.bool true)], args := [d] }
  | _ => none }
def genesisIsRow : OpenClaim := { program := "ytacoaiaddnlnaaa", sum := "67fa0ac96c12030ef70c3e3f16bbb031ad3870c9b88287394668ccb6124aa965", func := "toller/tollerlaw05.GenesisIs", spec := "genesisIs", apart := false }
def GenesisIsSaid : Prop := genesisIsRow.holds Try.pinned (OpenSpec.ofChange genesisIsSpec)

/-- ITS FALSE NEIGHBOUR: 'it returns false'. Refute it at one input. -/
def genesisIsWrong : ChangeSpec := { name := "genesisIs", fn := fun _ => fun
  | [d] => { results := [.lit (.bool false)], args := [d] }
  | _ => none }
def GenesisIsWrongFalsely : Prop := genesisIsRow.holds Try.pinned (OpenSpec.ofChange genesisIsWrong)

/-- 'tollerlaw05.GenesisOne': WHATEVER THE INPUT: true; the input reads as it did. -/
def genesisOneSpec : ChangeSpec := { name := "genesisOne", fn := fun _ => fun
  | [d1, d2] => { results := [.lit (.bool true)], args := [d1, d2] }
  | _ => none }
def genesisOneRow : OpenClaim := { program := "ytacoaiaddnlnaaa", sum := "67fa0ac96c12030ef70c3e3f16bbb031ad3870c9b88287394668ccb6124aa965", func := "toller/tollerlaw05.GenesisOne", spec := "genesisOne", apart := false }
def GenesisOneSaid : Prop := genesisOneRow.holds Try.pinned (OpenSpec.ofChange genesisOneSpec)

/-- ITS FALSE NEIGHBOUR: 'it returns false'. Refute it at one input. -/
def genesisOneWrong : ChangeSpec := { name := "genesisOne", fn := fun _ => fun
  | [d1, d2] => { results := [.lit (.bool false)], args := [d1, d2] }
  | _ => none }
def GenesisOneWrongFalsely : Prop := genesisOneRow.holds Try.pinned (OpenSpec.ofChange genesisOneWrong)

/-- 'tollerlaw05.GenesisTotals': WHATEVER THE INPUT: true; the input reads as it did. -/
def genesisTotalsSpec : ChangeSpec := { name := "genesisTotals", fn := fun _ => fun
  | [d1, d2] => { results := [.lit (.bool true)], args := [d1, d2] }
  | _ => none }
def genesisTotalsRow : OpenClaim := { program := "ytacoaiaddnlnaaa", sum := "67fa0ac96c12030ef70c3e3f16bbb031ad3870c9b88287394668ccb6124aa965", func := "toller/tollerlaw05.GenesisTotals", spec := "genesisTotals", apart := false }
def GenesisTotalsSaid : Prop := genesisTotalsRow.holds Try.pinned (OpenSpec.ofChange genesisTotalsSpec)

/-- ITS FALSE NEIGHBOUR: 'it returns false'. Refute it at one input. -/
def genesisTotalsWrong : ChangeSpec := { name := "genesisTotals", fn := fun _ => fun
  | [d1, d2] => { results := [.lit (.bool false)], args := [d1, d2] }
  | _ => none }
def GenesisTotalsWrongFalsely : Prop := genesisTotalsRow.holds Try.pinned (OpenSpec.ofChange genesisTotalsWrong)

/-- 'tollerlaw05.GenesisEpochs': WHATEVER THE INPUT: true; the input reads as it did. -/
def genesisEpochsSpec : ChangeSpec := { name := "genesisEpochs", fn := fun _ => fun
  | [d1, d2] => { results := [.lit (.bool true)], args := [d1, d2] }
  | _ => none }
def genesisEpochsRow : OpenClaim := { program := "ytacoaiaddnlnaaa", sum := "67fa0ac96c12030ef70c3e3f16bbb031ad3870c9b88287394668ccb6124aa965", func := "toller/tollerlaw05.GenesisEpochs", spec := "genesisEpochs", apart := false }
def GenesisEpochsSaid : Prop := genesisEpochsRow.holds Try.pinned (OpenSpec.ofChange genesisEpochsSpec)

/-- ITS FALSE NEIGHBOUR: 'it returns false'. Refute it at one input. -/
def genesisEpochsWrong : ChangeSpec := { name := "genesisEpochs", fn := fun _ => fun
  | [d1, d2] => { results := [.lit (.bool false)], args := [d1, d2] }
  | _ => none }
def GenesisEpochsWrongFalsely : Prop := genesisEpochsRow.holds Try.pinned (OpenSpec.ofChange genesisEpochsWrong)

/-- 'tollerlaw05.GenesisLess': WHATEVER THE INPUT: true; the input reads as it did. -/
def genesisLessSpec : ChangeSpec := { name := "genesisLess", fn := fun _ => fun
  | [d1, d2] => { results := [.lit (.bool true)], args := [d1, d2] }
  | _ => none }
def genesisLessRow : OpenClaim := { program := "ytacoaiaddnlnaaa", sum := "67fa0ac96c12030ef70c3e3f16bbb031ad3870c9b88287394668ccb6124aa965", func := "toller/tollerlaw05.GenesisLess", spec := "genesisLess", apart := false }
def GenesisLessSaid : Prop := genesisLessRow.holds Try.pinned (OpenSpec.ofChange genesisLessSpec)

/-- ITS FALSE NEIGHBOUR: 'it returns false'. Refute it at one input. -/
def genesisLessWrong : ChangeSpec := { name := "genesisLess", fn := fun _ => fun
  | [d1, d2] => { results := [.lit (.bool false)], args := [d1, d2] }
  | _ => none }
def GenesisLessWrongFalsely : Prop := genesisLessRow.holds Try.pinned (OpenSpec.ofChange genesisLessWrong)

/- THE SECOND FORM. 'bulk': how many values and letters a reading holds, each counted each time it is reached (what is shared counts as often as it is met; a slice's spare places count too). A statement '..UptoSaid' is the law's where the arguments, and the package variables that the reading takes, are together of bulk at most 1048576: NARROWER than '..Said'. Prove '..Said' where nothing that the law and all that it calls make is longer than what came in: it says more and counts as full. Else prove '..UptoSaid'. A law counts once. -/
mutual
def uptoBulk {H : Type} : DataW H → Nat
  | .lit (.string bytes) => bytes.length + 1
  | .lit _ => 1
  | .nil => 1
  | .ptr d => uptoBulk d + 1
  | .slice elems spare => uptoBulkAll elems + uptoBulkAll spare + 1
  | .agg parts => uptoBulkAll parts + 1
  | .iface _ d => uptoBulk d + 1
  | .map entries => uptoBulkEntries entries + 1
  | .held _ => 1
def uptoBulkAll {H : Type} : List (DataW H) → Nat
  | [] => 0
  | d :: r => uptoBulk d + uptoBulkAll r
def uptoBulkEntries {H : Type} : List (Lit × DataW H) → Nat
  | [] => 0
  | x :: r => uptoBulkEntry x + uptoBulkEntries r
def uptoBulkEntry {H : Type} : Lit × DataW H → Nat
  | (.string bytes, d) => bytes.length + uptoBulk d + 1
  | (_, d) => uptoBulk d + 1
 end
def uptoSmall : (H : Type) → List (DataW H) → Bool := fun _ ds => decide (uptoBulkAll ds ≤ 1048576)
def OpenSpec.upto (s : _root_.Go.ChangeSpec) : _root_.Go.OpenSpec := { _root_.Go.OpenSpec.ofChange s with cond := some uptoSmall }

/-- 'tollerlaw05.GenesisIs', WHERE WHAT IT READS IS OF BULK AT MOST 1048576: true; the input reads as it did. -/
def genesisIsUptoRow : OpenClaim := { program := "ytacoaiaddnlnaaa", sum := "67fa0ac96c12030ef70c3e3f16bbb031ad3870c9b88287394668ccb6124aa965", func := "toller/tollerlaw05.GenesisIs", spec := "genesisIs", apart := false, narrowed := true }
def GenesisIsUptoSaid : Prop := genesisIsUptoRow.holds Try.pinned (OpenSpec.upto genesisIsSpec)

/-- 'tollerlaw05.GenesisOne', WHERE WHAT IT READS IS OF BULK AT MOST 1048576: true; the input reads as it did. -/
def genesisOneUptoRow : OpenClaim := { program := "ytacoaiaddnlnaaa", sum := "67fa0ac96c12030ef70c3e3f16bbb031ad3870c9b88287394668ccb6124aa965", func := "toller/tollerlaw05.GenesisOne", spec := "genesisOne", apart := false, narrowed := true }
def GenesisOneUptoSaid : Prop := genesisOneUptoRow.holds Try.pinned (OpenSpec.upto genesisOneSpec)

/-- 'tollerlaw05.GenesisTotals', WHERE WHAT IT READS IS OF BULK AT MOST 1048576: true; the input reads as it did. -/
def genesisTotalsUptoRow : OpenClaim := { program := "ytacoaiaddnlnaaa", sum := "67fa0ac96c12030ef70c3e3f16bbb031ad3870c9b88287394668ccb6124aa965", func := "toller/tollerlaw05.GenesisTotals", spec := "genesisTotals", apart := false, narrowed := true }
def GenesisTotalsUptoSaid : Prop := genesisTotalsUptoRow.holds Try.pinned (OpenSpec.upto genesisTotalsSpec)

/-- 'tollerlaw05.GenesisEpochs', WHERE WHAT IT READS IS OF BULK AT MOST 1048576: true; the input reads as it did. -/
def genesisEpochsUptoRow : OpenClaim := { program := "ytacoaiaddnlnaaa", sum := "67fa0ac96c12030ef70c3e3f16bbb031ad3870c9b88287394668ccb6124aa965", func := "toller/tollerlaw05.GenesisEpochs", spec := "genesisEpochs", apart := false, narrowed := true }
def GenesisEpochsUptoSaid : Prop := genesisEpochsUptoRow.holds Try.pinned (OpenSpec.upto genesisEpochsSpec)

/-- 'tollerlaw05.GenesisLess', WHERE WHAT IT READS IS OF BULK AT MOST 1048576: true; the input reads as it did. -/
def genesisLessUptoRow : OpenClaim := { program := "ytacoaiaddnlnaaa", sum := "67fa0ac96c12030ef70c3e3f16bbb031ad3870c9b88287394668ccb6124aa965", func := "toller/tollerlaw05.GenesisLess", spec := "genesisLess", apart := false, narrowed := true }
def GenesisLessUptoSaid : Prop := genesisLessUptoRow.holds Try.pinned (OpenSpec.upto genesisLessSpec)

end Rows
end Go.Proofs.Ytacoaiaddnlnaaa
