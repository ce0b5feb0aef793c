/-
  DERIVED. GIVEN WITH THE SEED: THE CARDS: each row of YtcpehfjpdegmbaaDoorRows.lean that lists a variable, with what it lists TIED to the program's text (the seventh form; the later family's looks); each row that meets fmt, with fmt's text TOLD by the authors' own Lean function (tested against real Go, not proved from fmt's source: count such statements apart). THE CARD IS WHAT COUNTS. Prove the row's statement (the work); the ties are given (YtcpehfjpdegmbaaDoorTie.lean); close each card by the builder's one call (the guide's Derived/Test/ToyasCard.lean, 'card_holds'). Laid BY PROGRAM, IN A SANDBOX (cutbox-door.mjs). By AI agents, Wed Nov 11 2026. No macro, syntax, notation, axiom, sorry.
-/
import Derived.Test.YtcpehfjpdegmbaaDoorRows
import GoSem.ClaimSeven
namespace Go.Proofs.YtcpehfjpdegmbaaDoor
namespace Rows

/-- THE TIED CARD OF 'fuseelaw08.DuraTexts'. -/
def duraTextsCard : Claim7 := { stood := { row := duraTextsRow, standIns := [], harness := (true, "783999fc5d3e49037e1de3a67c1db26eaf557b046ad6ab8b4690400d4ebd641c"), looks := true }, kinds := [], alts := [], laidByText := true, laidKinds := [.data, .data, .data, .sentinel, .sentinel, .data], laidTests := true, laidLooks := .later }
def DuraTextsCardSaid : Prop := Claim7.holds Tryd.pinned (.plain (OpenSpec.ofChange duraTextsSpec)) duraTextsCard

/-- THE TIED CARD OF 'fuseelaw08.DuraParses'. -/
def duraParsesCard : Claim7 := { stood := { row := duraParsesRow, standIns := [], harness := (true, "783999fc5d3e49037e1de3a67c1db26eaf557b046ad6ab8b4690400d4ebd641c"), looks := true }, kinds := [], alts := [], laidByText := true, laidKinds := [.data, .data, .data, .sentinel, .sentinel, .data], laidTests := true, laidLooks := .later }
def DuraParsesCardSaid : Prop := Claim7.holds Tryd.pinned (.plain (OpenSpec.ofChange duraParsesSpec)) duraParsesCard

/-- THE TIED CARD OF 'fuseelaw08.DuraRounds'. -/
def duraRoundsCard : Claim7 := { stood := { row := duraRoundsRow, standIns := [], harness := (true, "783999fc5d3e49037e1de3a67c1db26eaf557b046ad6ab8b4690400d4ebd641c"), looks := true }, kinds := [], alts := [], laidByText := true, laidKinds := [.data, .data, .data, .sentinel, .sentinel, .data], laidTests := true, laidLooks := .later }
def DuraRoundsCardSaid : Prop := Claim7.holds Tryd.pinned (.plain (OpenSpec.ofChange duraRoundsSpec)) duraRoundsCard

/-- THE TIED CARD OF 'fuseelaw08.DuraParts'. -/
def duraPartsCard : Claim7 := { stood := { row := duraPartsRow, standIns := [], harness := (true, "783999fc5d3e49037e1de3a67c1db26eaf557b046ad6ab8b4690400d4ebd641c"), looks := true }, kinds := [], alts := [], laidByText := true, laidKinds := [.data, .data, .data, .sentinel, .sentinel, .data], laidTests := true, laidLooks := .later }
def DuraPartsCardSaid : Prop := Claim7.holds Tryd.pinned (.plain (OpenSpec.ofChange duraPartsSpec)) duraPartsCard

/-- THE SECOND FORM's CARD OF 'fuseelaw08.DuraTexts'. -/
def duraTextsUptoCard : Claim7 := { stood := { row := duraTextsUptoRow, standIns := [], harness := (true, "783999fc5d3e49037e1de3a67c1db26eaf557b046ad6ab8b4690400d4ebd641c"), looks := true }, kinds := [], alts := [], laidByText := true, laidKinds := [.data, .data, .data, .sentinel, .sentinel, .data], laidTests := true, laidLooks := .later }
def DuraTextsUptoCardSaid : Prop := Claim7.holds Tryd.pinned (.plain (OpenSpec.upto duraTextsSpec)) duraTextsUptoCard

/-- THE SECOND FORM's CARD OF 'fuseelaw08.DuraParses'. -/
def duraParsesUptoCard : Claim7 := { stood := { row := duraParsesUptoRow, standIns := [], harness := (true, "783999fc5d3e49037e1de3a67c1db26eaf557b046ad6ab8b4690400d4ebd641c"), looks := true }, kinds := [], alts := [], laidByText := true, laidKinds := [.data, .data, .data, .sentinel, .sentinel, .data], laidTests := true, laidLooks := .later }
def DuraParsesUptoCardSaid : Prop := Claim7.holds Tryd.pinned (.plain (OpenSpec.upto duraParsesSpec)) duraParsesUptoCard

/-- THE SECOND FORM's CARD OF 'fuseelaw08.DuraRounds'. -/
def duraRoundsUptoCard : Claim7 := { stood := { row := duraRoundsUptoRow, standIns := [], harness := (true, "783999fc5d3e49037e1de3a67c1db26eaf557b046ad6ab8b4690400d4ebd641c"), looks := true }, kinds := [], alts := [], laidByText := true, laidKinds := [.data, .data, .data, .sentinel, .sentinel, .data], laidTests := true, laidLooks := .later }
def DuraRoundsUptoCardSaid : Prop := Claim7.holds Tryd.pinned (.plain (OpenSpec.upto duraRoundsSpec)) duraRoundsUptoCard

/-- THE SECOND FORM's CARD OF 'fuseelaw08.DuraParts'. -/
def duraPartsUptoCard : Claim7 := { stood := { row := duraPartsUptoRow, standIns := [], harness := (true, "783999fc5d3e49037e1de3a67c1db26eaf557b046ad6ab8b4690400d4ebd641c"), looks := true }, kinds := [], alts := [], laidByText := true, laidKinds := [.data, .data, .data, .sentinel, .sentinel, .data], laidTests := true, laidLooks := .later }
def DuraPartsUptoCardSaid : Prop := Claim7.holds Tryd.pinned (.plain (OpenSpec.upto duraPartsSpec)) duraPartsUptoCard
end Rows
end Go.Proofs.YtcpehfjpdegmbaaDoor
