/-
  DERIVED. GIVEN WITH THE SEED: THE CARDS: each row of YtmkdcpnnnlihfaaDoorRows.lean that lists a variable, with what it lists TIED to the program's text (the seventh form; the later family's looks); each row that meets fmt, with fmt's text TOLD by the authors' own Lean function (tested against real Go, not proved from fmt's source: count such statements apart). THE CARD IS WHAT COUNTS. Prove the row's statement (the work); the ties are given (YtmkdcpnnnlihfaaDoorTie.lean); close each card by the builder's one call (the guide's Derived/Test/ToyasCard.lean, 'card_holds'). Laid BY PROGRAM, IN A SANDBOX (cutbox-door.mjs). By AI agents, Wed Nov 11 2026. No macro, syntax, notation, axiom, sorry.
-/
import Derived.Test.YtmkdcpnnnlihfaaDoorRows
import GoSem.ClaimSeven
namespace Go.Proofs.YtmkdcpnnnlihfaaDoor
namespace Rows

/-- THE TIED CARD OF 'tollerlaw04.MacIs'. -/
def macIsCard : Claim7 := { stood := { row := macIsRow, standIns := [], harness := (true, "63f7f23649f3c954a460ee459ff50581471e4a052cbf8cf0196429e03dda780b"), looks := false }, kinds := [], alts := [], laidByText := true, laidKinds := [.data, .data], laidTests := true, laidLooks := .later }
def MacIsCardSaid : Prop := Claim7.holds Tryd.pinned (.plain (OpenSpec.ofChange macIsSpec)) macIsCard

/-- THE TIED CARD OF 'tollerlaw04.MacJoins'. -/
def macJoinsCard : Claim7 := { stood := { row := macJoinsRow, standIns := [], harness := (true, "63f7f23649f3c954a460ee459ff50581471e4a052cbf8cf0196429e03dda780b"), looks := false }, kinds := [], alts := [], laidByText := true, laidKinds := [.data, .data], laidTests := true, laidLooks := .later }
def MacJoinsCardSaid : Prop := Claim7.holds Tryd.pinned (.plain (OpenSpec.ofChange macJoinsSpec)) macJoinsCard

/-- THE TIED CARD OF 'tollerlaw04.MacKeys'. -/
def macKeysCard : Claim7 := { stood := { row := macKeysRow, standIns := [], harness := (true, "63f7f23649f3c954a460ee459ff50581471e4a052cbf8cf0196429e03dda780b"), looks := false }, kinds := [], alts := [], laidByText := true, laidKinds := [.data, .data], laidTests := true, laidLooks := .later }
def MacKeysCardSaid : Prop := Claim7.holds Tryd.pinned (.plain (OpenSpec.ofChange macKeysSpec)) macKeysCard

/-- THE TIED CARD OF 'tollerlaw04.MacPairs'. -/
def macPairsCard : Claim7 := { stood := { row := macPairsRow, standIns := [], harness := (true, "63f7f23649f3c954a460ee459ff50581471e4a052cbf8cf0196429e03dda780b"), looks := false }, kinds := [], alts := [], laidByText := true, laidKinds := [.data, .data], laidTests := true, laidLooks := .later }
def MacPairsCardSaid : Prop := Claim7.holds Tryd.pinned (.plain (OpenSpec.ofChange macPairsSpec)) macPairsCard

/-- THE SECOND FORM's CARD OF 'tollerlaw04.MacIs'. -/
def macIsUptoCard : Claim7 := { stood := { row := macIsUptoRow, standIns := [], harness := (true, "63f7f23649f3c954a460ee459ff50581471e4a052cbf8cf0196429e03dda780b"), looks := false }, kinds := [], alts := [], laidByText := true, laidKinds := [.data, .data], laidTests := true, laidLooks := .later }
def MacIsUptoCardSaid : Prop := Claim7.holds Tryd.pinned (.plain (OpenSpec.upto macIsSpec)) macIsUptoCard

/-- THE SECOND FORM's CARD OF 'tollerlaw04.MacJoins'. -/
def macJoinsUptoCard : Claim7 := { stood := { row := macJoinsUptoRow, standIns := [], harness := (true, "63f7f23649f3c954a460ee459ff50581471e4a052cbf8cf0196429e03dda780b"), looks := false }, kinds := [], alts := [], laidByText := true, laidKinds := [.data, .data], laidTests := true, laidLooks := .later }
def MacJoinsUptoCardSaid : Prop := Claim7.holds Tryd.pinned (.plain (OpenSpec.upto macJoinsSpec)) macJoinsUptoCard

/-- THE SECOND FORM's CARD OF 'tollerlaw04.MacKeys'. -/
def macKeysUptoCard : Claim7 := { stood := { row := macKeysUptoRow, standIns := [], harness := (true, "63f7f23649f3c954a460ee459ff50581471e4a052cbf8cf0196429e03dda780b"), looks := false }, kinds := [], alts := [], laidByText := true, laidKinds := [.data, .data], laidTests := true, laidLooks := .later }
def MacKeysUptoCardSaid : Prop := Claim7.holds Tryd.pinned (.plain (OpenSpec.upto macKeysSpec)) macKeysUptoCard

/-- THE SECOND FORM's CARD OF 'tollerlaw04.MacPairs'. -/
def macPairsUptoCard : Claim7 := { stood := { row := macPairsUptoRow, standIns := [], harness := (true, "63f7f23649f3c954a460ee459ff50581471e4a052cbf8cf0196429e03dda780b"), looks := false }, kinds := [], alts := [], laidByText := true, laidKinds := [.data, .data], laidTests := true, laidLooks := .later }
def MacPairsUptoCardSaid : Prop := Claim7.holds Tryd.pinned (.plain (OpenSpec.upto macPairsSpec)) macPairsUptoCard
end Rows
end Go.Proofs.YtmkdcpnnnlihfaaDoor
