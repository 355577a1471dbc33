/-
  DERIVED. GIVEN WITH THE SEED: THE CARDS: each row of YtginfmbcljlneaaDoorRows.lean that lists a variable, with what it lists TIED to the program's text (the seventh form; the later family's looks); each row that meets fmt, with fmt's text TOLD by the authors' own Lean function (tested against real Go, not proved from fmt's source: count such statements apart). THE CARD IS WHAT COUNTS. Prove the row's statement (the work); the ties are given (YtginfmbcljlneaaDoorTie.lean); close each card by the builder's one call (the guide's Derived/Test/ToyasCard.lean, 'card_holds'). Laid BY PROGRAM, IN A SANDBOX (cutbox-door.mjs). By AI agents, Wed Nov 11 2026. No macro, syntax, notation, axiom, sorry.
-/
import Derived.Test.YtginfmbcljlneaaDoorRows
import GoSem.ClaimSeven
namespace Go.Proofs.YtginfmbcljlneaaDoor
namespace Rows

/-- THE TIED CARD OF 'tollerlaw06.BoardIs'. -/
def boardIsCard : Claim7 := { stood := { row := boardIsRow, standIns := [], harness := (true, "5b1fc26f76d122487d38124922f35f9206431e4a0d77a1d263c25ffc5ad32020"), looks := false }, kinds := [], alts := [], laidByText := true, laidKinds := [.data, .data], laidTests := true, laidLooks := .later }
def BoardIsCardSaid : Prop := Claim7.holds Tryd.pinned (.plain (OpenSpec.ofChange boardIsSpec)) boardIsCard

/-- THE TIED CARD OF 'tollerlaw06.BoardOnce'. -/
def boardOnceCard : Claim7 := { stood := { row := boardOnceRow, standIns := [], harness := (true, "5b1fc26f76d122487d38124922f35f9206431e4a0d77a1d263c25ffc5ad32020"), looks := false }, kinds := [], alts := [], laidByText := true, laidKinds := [.data, .data], laidTests := true, laidLooks := .later }
def BoardOnceCardSaid : Prop := Claim7.holds Tryd.pinned (.plain (OpenSpec.ofChange boardOnceSpec)) boardOnceCard

/-- THE TIED CARD OF 'tollerlaw06.BoardMore'. -/
def boardMoreCard : Claim7 := { stood := { row := boardMoreRow, standIns := [], harness := (true, "5b1fc26f76d122487d38124922f35f9206431e4a0d77a1d263c25ffc5ad32020"), looks := false }, kinds := [], alts := [], laidByText := true, laidKinds := [.data, .data], laidTests := true, laidLooks := .later }
def BoardMoreCardSaid : Prop := Claim7.holds Tryd.pinned (.plain (OpenSpec.ofChange boardMoreSpec)) boardMoreCard

/-- THE TIED CARD OF 'tollerlaw06.BoardStakes'. -/
def boardStakesCard : Claim7 := { stood := { row := boardStakesRow, standIns := [], harness := (true, "5b1fc26f76d122487d38124922f35f9206431e4a0d77a1d263c25ffc5ad32020"), looks := false }, kinds := [], alts := [], laidByText := true, laidKinds := [.data, .data], laidTests := true, laidLooks := .later }
def BoardStakesCardSaid : Prop := Claim7.holds Tryd.pinned (.plain (OpenSpec.ofChange boardStakesSpec)) boardStakesCard

/-- THE TIED CARD OF 'tollerlaw06.BoardPicks'. -/
def boardPicksCard : Claim7 := { stood := { row := boardPicksRow, standIns := [], harness := (true, "5b1fc26f76d122487d38124922f35f9206431e4a0d77a1d263c25ffc5ad32020"), looks := false }, kinds := [], alts := [], laidByText := true, laidKinds := [.data, .data], laidTests := true, laidLooks := .later }
def BoardPicksCardSaid : Prop := Claim7.holds Tryd.pinned (.plain (OpenSpec.ofChange boardPicksSpec)) boardPicksCard

/-- THE SECOND FORM's CARD OF 'tollerlaw06.BoardIs'. -/
def boardIsUptoCard : Claim7 := { stood := { row := boardIsUptoRow, standIns := [], harness := (true, "5b1fc26f76d122487d38124922f35f9206431e4a0d77a1d263c25ffc5ad32020"), looks := false }, kinds := [], alts := [], laidByText := true, laidKinds := [.data, .data], laidTests := true, laidLooks := .later }
def BoardIsUptoCardSaid : Prop := Claim7.holds Tryd.pinned (.plain (OpenSpec.upto boardIsSpec)) boardIsUptoCard

/-- THE SECOND FORM's CARD OF 'tollerlaw06.BoardOnce'. -/
def boardOnceUptoCard : Claim7 := { stood := { row := boardOnceUptoRow, standIns := [], harness := (true, "5b1fc26f76d122487d38124922f35f9206431e4a0d77a1d263c25ffc5ad32020"), looks := false }, kinds := [], alts := [], laidByText := true, laidKinds := [.data, .data], laidTests := true, laidLooks := .later }
def BoardOnceUptoCardSaid : Prop := Claim7.holds Tryd.pinned (.plain (OpenSpec.upto boardOnceSpec)) boardOnceUptoCard

/-- THE SECOND FORM's CARD OF 'tollerlaw06.BoardMore'. -/
def boardMoreUptoCard : Claim7 := { stood := { row := boardMoreUptoRow, standIns := [], harness := (true, "5b1fc26f76d122487d38124922f35f9206431e4a0d77a1d263c25ffc5ad32020"), looks := false }, kinds := [], alts := [], laidByText := true, laidKinds := [.data, .data], laidTests := true, laidLooks := .later }
def BoardMoreUptoCardSaid : Prop := Claim7.holds Tryd.pinned (.plain (OpenSpec.upto boardMoreSpec)) boardMoreUptoCard

/-- THE SECOND FORM's CARD OF 'tollerlaw06.BoardStakes'. -/
def boardStakesUptoCard : Claim7 := { stood := { row := boardStakesUptoRow, standIns := [], harness := (true, "5b1fc26f76d122487d38124922f35f9206431e4a0d77a1d263c25ffc5ad32020"), looks := false }, kinds := [], alts := [], laidByText := true, laidKinds := [.data, .data], laidTests := true, laidLooks := .later }
def BoardStakesUptoCardSaid : Prop := Claim7.holds Tryd.pinned (.plain (OpenSpec.upto boardStakesSpec)) boardStakesUptoCard

/-- THE SECOND FORM's CARD OF 'tollerlaw06.BoardPicks'. -/
def boardPicksUptoCard : Claim7 := { stood := { row := boardPicksUptoRow, standIns := [], harness := (true, "5b1fc26f76d122487d38124922f35f9206431e4a0d77a1d263c25ffc5ad32020"), looks := false }, kinds := [], alts := [], laidByText := true, laidKinds := [.data, .data], laidTests := true, laidLooks := .later }
def BoardPicksUptoCardSaid : Prop := Claim7.holds Tryd.pinned (.plain (OpenSpec.upto boardPicksSpec)) boardPicksUptoCard
end Rows
end Go.Proofs.YtginfmbcljlneaaDoor
