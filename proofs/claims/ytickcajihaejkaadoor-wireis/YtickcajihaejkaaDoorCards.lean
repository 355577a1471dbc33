/-
  DERIVED. GIVEN WITH THE SEED: THE CARDS: each row of YtickcajihaejkaaDoorRows.lean that lists a variable, with what it lists TIED to the program's text (the seventh form; the later family's looks); each row that meets fmt, with fmt's text TOLD by the authors' own Lean function (tested against real Go, not proved from fmt's source: count such statements apart). THE CARD IS WHAT COUNTS. Prove the row's statement (the work); the ties are given (YtickcajihaejkaaDoorTie.lean); close each card by the builder's one call (the guide's Derived/Test/ToyasCard.lean, 'card_holds'). Laid BY PROGRAM, IN A SANDBOX (cutbox-door.mjs). By AI agents, Wed Nov 11 2026. No macro, syntax, notation, axiom, sorry.
-/
import Derived.Test.YtickcajihaejkaaDoorRows
import GoSem.ClaimSeven
namespace Go.Proofs.YtickcajihaejkaaDoor
namespace Rows

/-- THE TIED CARD OF 'tollerlaw07.WireIs'. -/
def wireIsCard : Claim7 := { stood := { row := wireIsRow, standIns := [], harness := (true, "ac84f5dcf1ff65ec4797fd3ef31b54236029b88b35f630fcdd2a5f826bafa579"), looks := false }, kinds := [], alts := [], laidByText := true, laidKinds := [.data, .data], laidTests := true, laidLooks := .later }
def WireIsCardSaid : Prop := Claim7.holds Tryd.pinned (.plain (OpenSpec.ofChange wireIsSpec)) wireIsCard

/-- THE SECOND FORM's CARD OF 'tollerlaw07.WireIs'. -/
def wireIsUptoCard : Claim7 := { stood := { row := wireIsUptoRow, standIns := [], harness := (true, "ac84f5dcf1ff65ec4797fd3ef31b54236029b88b35f630fcdd2a5f826bafa579"), looks := false }, kinds := [], alts := [], laidByText := true, laidKinds := [.data, .data], laidTests := true, laidLooks := .later }
def WireIsUptoCardSaid : Prop := Claim7.holds Tryd.pinned (.plain (OpenSpec.upto wireIsSpec)) wireIsUptoCard
end Rows
end Go.Proofs.YtickcajihaejkaaDoor
