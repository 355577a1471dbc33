/-
  DERIVED. GIVEN WITH THE SEED: THE CARDS: each row of YtacoaiaddnlnaaaDoorRows.lean that lists a variable, with what it lists TIED to the program's text (the seventh form; the later family's looks); each row that meets fmt, with fmt's text TOLD by the authors' own Lean function (tested against real Go, not proved from fmt's source: count such statements apart). THE CARD IS WHAT COUNTS. Prove the row's statement (the work); the ties are given (YtacoaiaddnlnaaaDoorTie.lean); close each card by the builder's one call (the guide's Derived/Test/ToyasCard.lean, 'card_holds'). Laid BY PROGRAM, IN A SANDBOX (cutbox-door.mjs). By AI agents, Wed Nov 11 2026. No macro, syntax, notation, axiom, sorry.
-/
import Derived.Test.YtacoaiaddnlnaaaDoorRows
import GoSem.ClaimSeven
namespace Go.Proofs.YtacoaiaddnlnaaaDoor
namespace Rows

/-- THE TIED CARD OF 'tollerlaw05.GenesisBytes'. -/
def genesisBytesCard : Claim7 := { stood := { row := genesisBytesRow, standIns := [], harness := (true, "fb68e0dc68c7e69ee9cdcb9d7b3c2d380c85b6203df73809f36d544d5abd80df"), looks := false }, kinds := [], alts := [], laidByText := true, laidKinds := [.data, .data], laidTests := true, laidLooks := .later }
def GenesisBytesCardSaid : Prop := Claim7.holds Tryd.pinned (.plain (OpenSpec.ofChange genesisBytesSpec)) genesisBytesCard

/-- THE SECOND FORM's CARD OF 'tollerlaw05.GenesisBytes'. -/
def genesisBytesUptoCard : Claim7 := { stood := { row := genesisBytesUptoRow, standIns := [], harness := (true, "fb68e0dc68c7e69ee9cdcb9d7b3c2d380c85b6203df73809f36d544d5abd80df"), looks := false }, kinds := [], alts := [], laidByText := true, laidKinds := [.data, .data], laidTests := true, laidLooks := .later }
def GenesisBytesUptoCardSaid : Prop := Claim7.holds Tryd.pinned (.plain (OpenSpec.upto genesisBytesSpec)) genesisBytesUptoCard
end Rows
end Go.Proofs.YtacoaiaddnlnaaaDoor
