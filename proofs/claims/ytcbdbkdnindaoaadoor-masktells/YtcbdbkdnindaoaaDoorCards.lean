/-
  DERIVED. GIVEN WITH THE SEED: THE CARDS: each row of YtcbdbkdnindaoaaDoorRows.lean that lists a variable, with what it lists TIED to the program's text (the seventh form; the later family's looks); each row that meets fmt, with fmt's text TOLD by the authors' own Lean function (tested against real Go, not proved from fmt's source: count such statements apart). THE CARD IS WHAT COUNTS. Prove the row's statement (the work); the ties are given (YtcbdbkdnindaoaaDoorTie.lean); close each card by the builder's one call (the guide's Derived/Test/ToyasCard.lean, 'card_holds'). Laid BY PROGRAM, IN A SANDBOX (cutbox-door.mjs). By AI agents, Wed Nov 11 2026. No macro, syntax, notation, axiom, sorry.
-/
import Derived.Test.YtcbdbkdnindaoaaDoorRows
import GoSem.ClaimSeven
namespace Go.Proofs.YtcbdbkdnindaoaaDoor
namespace Rows

/-- THE TIED CARD OF 'fuseelaw09.MaskTells'. -/
def maskTellsCard : Claim7 := { stood := { row := maskTellsRow, standIns := [], harness := (true, "75cf6ae3d53b383a7a3a7b2ce0cad2ff1d6eb7195b608a535f63e478799ded14"), looks := true }, kinds := [], alts := [], laidByText := true, laidKinds := [.data, .data, .data, .sentinel, .sentinel], laidTests := true, laidLooks := .later }
def MaskTellsCardSaid : Prop := Claim7.holds Tryd.pinned (.plain (OpenSpec.ofChange maskTellsSpec)) maskTellsCard

/-- THE TIED CARD OF 'fuseelaw09.MaskTexts'. -/
def maskTextsCard : Claim7 := { stood := { row := maskTextsRow, standIns := [], harness := (true, "75cf6ae3d53b383a7a3a7b2ce0cad2ff1d6eb7195b608a535f63e478799ded14"), looks := true }, kinds := [], alts := [], laidByText := true, laidKinds := [.data, .data, .data, .sentinel, .sentinel], laidTests := true, laidLooks := .later }
def MaskTextsCardSaid : Prop := Claim7.holds Tryd.pinned (.plain (OpenSpec.ofChange maskTextsSpec)) maskTextsCard

/-- THE TIED CARD OF 'fuseelaw09.MaskParses'. -/
def maskParsesCard : Claim7 := { stood := { row := maskParsesRow, standIns := [], harness := (true, "75cf6ae3d53b383a7a3a7b2ce0cad2ff1d6eb7195b608a535f63e478799ded14"), looks := true }, kinds := [], alts := [], laidByText := true, laidKinds := [.data, .data, .data, .sentinel, .sentinel], laidTests := true, laidLooks := .later }
def MaskParsesCardSaid : Prop := Claim7.holds Tryd.pinned (.plain (OpenSpec.ofChange maskParsesSpec)) maskParsesCard

/-- THE SECOND FORM's CARD OF 'fuseelaw09.MaskTells'. -/
def maskTellsUptoCard : Claim7 := { stood := { row := maskTellsUptoRow, standIns := [], harness := (true, "75cf6ae3d53b383a7a3a7b2ce0cad2ff1d6eb7195b608a535f63e478799ded14"), looks := true }, kinds := [], alts := [], laidByText := true, laidKinds := [.data, .data, .data, .sentinel, .sentinel], laidTests := true, laidLooks := .later }
def MaskTellsUptoCardSaid : Prop := Claim7.holds Tryd.pinned (.plain (OpenSpec.upto maskTellsSpec)) maskTellsUptoCard

/-- THE SECOND FORM's CARD OF 'fuseelaw09.MaskTexts'. -/
def maskTextsUptoCard : Claim7 := { stood := { row := maskTextsUptoRow, standIns := [], harness := (true, "75cf6ae3d53b383a7a3a7b2ce0cad2ff1d6eb7195b608a535f63e478799ded14"), looks := true }, kinds := [], alts := [], laidByText := true, laidKinds := [.data, .data, .data, .sentinel, .sentinel], laidTests := true, laidLooks := .later }
def MaskTextsUptoCardSaid : Prop := Claim7.holds Tryd.pinned (.plain (OpenSpec.upto maskTextsSpec)) maskTextsUptoCard

/-- THE SECOND FORM's CARD OF 'fuseelaw09.MaskParses'. -/
def maskParsesUptoCard : Claim7 := { stood := { row := maskParsesUptoRow, standIns := [], harness := (true, "75cf6ae3d53b383a7a3a7b2ce0cad2ff1d6eb7195b608a535f63e478799ded14"), looks := true }, kinds := [], alts := [], laidByText := true, laidKinds := [.data, .data, .data, .sentinel, .sentinel], laidTests := true, laidLooks := .later }
def MaskParsesUptoCardSaid : Prop := Claim7.holds Tryd.pinned (.plain (OpenSpec.upto maskParsesSpec)) maskParsesUptoCard
end Rows
end Go.Proofs.YtcbdbkdnindaoaaDoor
