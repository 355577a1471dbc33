/-
  DERIVED. GIVEN WITH THE SEED: THE CARDS: each row of YtnbdpalbompjlaaDoorRows.lean that lists a variable, with what it lists TIED to the program's text (the seventh form; the later family's looks); each row that meets fmt, with fmt's text TOLD by the authors' own Lean function (tested against real Go, not proved from fmt's source: count such statements apart). THE CARD IS WHAT COUNTS. Prove the row's statement (the work); the ties are given (YtnbdpalbompjlaaDoorTie.lean); close each card by the builder's one call (the guide's Derived/Test/ToyasCard.lean, 'card_holds'). Laid BY PROGRAM, IN A SANDBOX (cutbox-door.mjs). By AI agents, Wed Nov 11 2026. No macro, syntax, notation, axiom, sorry.
-/
import Derived.Test.YtnbdpalbompjlaaDoorRows
import GoSem.ClaimSeven
namespace Go.Proofs.YtnbdpalbompjlaaDoor
namespace Rows

/-- THE TIED CARD OF 'tollerlaw08.SealIs'. -/
def sealIsCard : Claim7 := { stood := { row := sealIsRow, standIns := [], harness := (true, "f887bf7de90c64df4fa09c29427524a92f3de0c481e6b078ea2dd51e099f1d34"), looks := false }, kinds := [], alts := [], laidByText := true, laidKinds := [.data, .data], laidTests := true, laidLooks := .later }
def SealIsCardSaid : Prop := Claim7.holds Tryd.pinned (.plain (OpenSpec.ofChange sealIsSpec)) sealIsCard

/-- THE TIED CARD OF 'tollerlaw08.SealSigns'. -/
def sealSignsCard : Claim7 := { stood := { row := sealSignsRow, standIns := [], harness := (true, "f887bf7de90c64df4fa09c29427524a92f3de0c481e6b078ea2dd51e099f1d34"), looks := false }, kinds := [], alts := [], laidByText := true, laidKinds := [.data, .data], laidTests := true, laidLooks := .later }
def SealSignsCardSaid : Prop := Claim7.holds Tryd.pinned (.plain (OpenSpec.ofChange sealSignsSpec)) sealSignsCard

/-- THE TIED CARD OF 'tollerlaw08.SealSums'. -/
def sealSumsCard : Claim7 := { stood := { row := sealSumsRow, standIns := [], harness := (true, "f887bf7de90c64df4fa09c29427524a92f3de0c481e6b078ea2dd51e099f1d34"), looks := false }, kinds := [], alts := [], laidByText := true, laidKinds := [.data, .data], laidTests := true, laidLooks := .later }
def SealSumsCardSaid : Prop := Claim7.holds Tryd.pinned (.plain (OpenSpec.ofChange sealSumsSpec)) sealSumsCard

/-- THE TIED CARD OF 'tollerlaw08.SealOwn'. -/
def sealOwnCard : Claim7 := { stood := { row := sealOwnRow, standIns := [], harness := (true, "f887bf7de90c64df4fa09c29427524a92f3de0c481e6b078ea2dd51e099f1d34"), looks := false }, kinds := [], alts := [], laidByText := true, laidKinds := [.data, .data], laidTests := true, laidLooks := .later }
def SealOwnCardSaid : Prop := Claim7.holds Tryd.pinned (.plain (OpenSpec.ofChange sealOwnSpec)) sealOwnCard

/-- THE TIED CARD OF 'tollerlaw08.SealAlone'. -/
def sealAloneCard : Claim7 := { stood := { row := sealAloneRow, standIns := [], harness := (true, "f887bf7de90c64df4fa09c29427524a92f3de0c481e6b078ea2dd51e099f1d34"), looks := false }, kinds := [], alts := [], laidByText := true, laidKinds := [.data, .data], laidTests := true, laidLooks := .later }
def SealAloneCardSaid : Prop := Claim7.holds Tryd.pinned (.plain (OpenSpec.ofChange sealAloneSpec)) sealAloneCard

/-- THE TIED CARD OF 'tollerlaw08.SealKeys'. -/
def sealKeysCard : Claim7 := { stood := { row := sealKeysRow, standIns := [], harness := (true, "f887bf7de90c64df4fa09c29427524a92f3de0c481e6b078ea2dd51e099f1d34"), looks := false }, kinds := [], alts := [], laidByText := true, laidKinds := [.data, .data], laidTests := true, laidLooks := .later }
def SealKeysCardSaid : Prop := Claim7.holds Tryd.pinned (.plain (OpenSpec.ofChange sealKeysSpec)) sealKeysCard

/-- THE SECOND FORM's CARD OF 'tollerlaw08.SealIs'. -/
def sealIsUptoCard : Claim7 := { stood := { row := sealIsUptoRow, standIns := [], harness := (true, "f887bf7de90c64df4fa09c29427524a92f3de0c481e6b078ea2dd51e099f1d34"), looks := false }, kinds := [], alts := [], laidByText := true, laidKinds := [.data, .data], laidTests := true, laidLooks := .later }
def SealIsUptoCardSaid : Prop := Claim7.holds Tryd.pinned (.plain (OpenSpec.upto sealIsSpec)) sealIsUptoCard

/-- THE SECOND FORM's CARD OF 'tollerlaw08.SealSigns'. -/
def sealSignsUptoCard : Claim7 := { stood := { row := sealSignsUptoRow, standIns := [], harness := (true, "f887bf7de90c64df4fa09c29427524a92f3de0c481e6b078ea2dd51e099f1d34"), looks := false }, kinds := [], alts := [], laidByText := true, laidKinds := [.data, .data], laidTests := true, laidLooks := .later }
def SealSignsUptoCardSaid : Prop := Claim7.holds Tryd.pinned (.plain (OpenSpec.upto sealSignsSpec)) sealSignsUptoCard

/-- THE SECOND FORM's CARD OF 'tollerlaw08.SealSums'. -/
def sealSumsUptoCard : Claim7 := { stood := { row := sealSumsUptoRow, standIns := [], harness := (true, "f887bf7de90c64df4fa09c29427524a92f3de0c481e6b078ea2dd51e099f1d34"), looks := false }, kinds := [], alts := [], laidByText := true, laidKinds := [.data, .data], laidTests := true, laidLooks := .later }
def SealSumsUptoCardSaid : Prop := Claim7.holds Tryd.pinned (.plain (OpenSpec.upto sealSumsSpec)) sealSumsUptoCard

/-- THE SECOND FORM's CARD OF 'tollerlaw08.SealOwn'. -/
def sealOwnUptoCard : Claim7 := { stood := { row := sealOwnUptoRow, standIns := [], harness := (true, "f887bf7de90c64df4fa09c29427524a92f3de0c481e6b078ea2dd51e099f1d34"), looks := false }, kinds := [], alts := [], laidByText := true, laidKinds := [.data, .data], laidTests := true, laidLooks := .later }
def SealOwnUptoCardSaid : Prop := Claim7.holds Tryd.pinned (.plain (OpenSpec.upto sealOwnSpec)) sealOwnUptoCard

/-- THE SECOND FORM's CARD OF 'tollerlaw08.SealAlone'. -/
def sealAloneUptoCard : Claim7 := { stood := { row := sealAloneUptoRow, standIns := [], harness := (true, "f887bf7de90c64df4fa09c29427524a92f3de0c481e6b078ea2dd51e099f1d34"), looks := false }, kinds := [], alts := [], laidByText := true, laidKinds := [.data, .data], laidTests := true, laidLooks := .later }
def SealAloneUptoCardSaid : Prop := Claim7.holds Tryd.pinned (.plain (OpenSpec.upto sealAloneSpec)) sealAloneUptoCard

/-- THE SECOND FORM's CARD OF 'tollerlaw08.SealKeys'. -/
def sealKeysUptoCard : Claim7 := { stood := { row := sealKeysUptoRow, standIns := [], harness := (true, "f887bf7de90c64df4fa09c29427524a92f3de0c481e6b078ea2dd51e099f1d34"), looks := false }, kinds := [], alts := [], laidByText := true, laidKinds := [.data, .data], laidTests := true, laidLooks := .later }
def SealKeysUptoCardSaid : Prop := Claim7.holds Tryd.pinned (.plain (OpenSpec.upto sealKeysSpec)) sealKeysUptoCard
end Rows
end Go.Proofs.YtnbdpalbompjlaaDoor
