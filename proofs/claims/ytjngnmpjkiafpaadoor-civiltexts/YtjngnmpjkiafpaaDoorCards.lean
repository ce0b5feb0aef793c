/-
  DERIVED. GIVEN WITH THE SEED: THE CARDS: each row of YtjngnmpjkiafpaaDoorRows.lean that lists a variable, with what it lists TIED to the program's text (the seventh form; the later family's looks); each row that meets fmt, with fmt's text TOLD by the authors' own Lean function (tested against real Go, not proved from fmt's source: count such statements apart). THE CARD IS WHAT COUNTS. Prove the row's statement (the work); the ties are given (YtjngnmpjkiafpaaDoorTie.lean); close each card by the builder's one call (the guide's Derived/Test/ToyasCard.lean, 'card_holds'). Laid BY PROGRAM, IN A SANDBOX (cutbox-door.mjs). By AI agents, Wed Nov 11 2026. No macro, syntax, notation, axiom, sorry.
-/
import Derived.Test.YtjngnmpjkiafpaaDoorRows
import GoSem.ClaimSeven
namespace Go.Proofs.YtjngnmpjkiafpaaDoor
namespace Rows

/-- THE TIED CARD OF 'fuseelaw07.CivilDays'. -/
def civilDaysCard : Claim7 := { stood := { row := civilDaysRow, standIns := [], harness := (true, "f68bdd08d955ce6a4ef348a91f5c649e12d0ec9d60d067b29432d1311cad27c6"), looks := true }, kinds := [], alts := [], laidByText := true, laidKinds := [.data, .data, .data, .sentinel, .sentinel, .data], laidTests := true, laidLooks := .later }
def CivilDaysCardSaid : Prop := Claim7.holds Tryd.pinned (.plain (OpenSpec.ofChange civilDaysSpec)) civilDaysCard

/-- THE TIED CARD OF 'fuseelaw07.CivilNumbers'. -/
def civilNumbersCard : Claim7 := { stood := { row := civilNumbersRow, standIns := [], harness := (true, "f68bdd08d955ce6a4ef348a91f5c649e12d0ec9d60d067b29432d1311cad27c6"), looks := true }, kinds := [], alts := [], laidByText := true, laidKinds := [.data, .data, .data, .sentinel, .sentinel, .data], laidTests := true, laidLooks := .later }
def CivilNumbersCardSaid : Prop := Claim7.holds Tryd.pinned (.plain (OpenSpec.ofChange civilNumbersSpec)) civilNumbersCard

/-- THE TIED CARD OF 'fuseelaw07.CivilWeeks'. -/
def civilWeeksCard : Claim7 := { stood := { row := civilWeeksRow, standIns := [], harness := (true, "f68bdd08d955ce6a4ef348a91f5c649e12d0ec9d60d067b29432d1311cad27c6"), looks := true }, kinds := [], alts := [], laidByText := true, laidKinds := [.data, .data, .data, .sentinel, .sentinel, .data], laidTests := true, laidLooks := .later }
def CivilWeeksCardSaid : Prop := Claim7.holds Tryd.pinned (.plain (OpenSpec.ofChange civilWeeksSpec)) civilWeeksCard

/-- THE TIED CARD OF 'fuseelaw07.CivilTexts'. -/
def civilTextsCard : Claim7 := { stood := { row := civilTextsRow, standIns := [], harness := (true, "f68bdd08d955ce6a4ef348a91f5c649e12d0ec9d60d067b29432d1311cad27c6"), looks := true }, kinds := [], alts := [], laidByText := true, laidKinds := [.data, .data, .data, .sentinel, .sentinel, .data], laidTests := true, laidLooks := .later }
def CivilTextsCardSaid : Prop := Claim7.holds Tryd.pinned (.plain (OpenSpec.ofChange civilTextsSpec)) civilTextsCard

/-- THE TIED CARD OF 'fuseelaw07.CivilSeconds'. -/
def civilSecondsCard : Claim7 := { stood := { row := civilSecondsRow, standIns := [], harness := (true, "f68bdd08d955ce6a4ef348a91f5c649e12d0ec9d60d067b29432d1311cad27c6"), looks := true }, kinds := [], alts := [], laidByText := true, laidKinds := [.data, .data, .data, .sentinel, .sentinel, .data], laidTests := true, laidLooks := .later }
def CivilSecondsCardSaid : Prop := Claim7.holds Tryd.pinned (.plain (OpenSpec.ofChange civilSecondsSpec)) civilSecondsCard

/-- THE TIED CARD OF 'fuseelaw07.CivilGoes'. -/
def civilGoesCard : Claim7 := { stood := { row := civilGoesRow, standIns := [], harness := (true, "f68bdd08d955ce6a4ef348a91f5c649e12d0ec9d60d067b29432d1311cad27c6"), looks := true }, kinds := [], alts := [], laidByText := true, laidKinds := [.data, .data, .data, .sentinel, .sentinel, .data], laidTests := true, laidLooks := .later }
def CivilGoesCardSaid : Prop := Claim7.holds Tryd.pinned (.plain (OpenSpec.ofChange civilGoesSpec)) civilGoesCard

/-- THE SECOND FORM's CARD OF 'fuseelaw07.CivilDays'. -/
def civilDaysUptoCard : Claim7 := { stood := { row := civilDaysUptoRow, standIns := [], harness := (true, "f68bdd08d955ce6a4ef348a91f5c649e12d0ec9d60d067b29432d1311cad27c6"), looks := true }, kinds := [], alts := [], laidByText := true, laidKinds := [.data, .data, .data, .sentinel, .sentinel, .data], laidTests := true, laidLooks := .later }
def CivilDaysUptoCardSaid : Prop := Claim7.holds Tryd.pinned (.plain (OpenSpec.upto civilDaysSpec)) civilDaysUptoCard

/-- THE SECOND FORM's CARD OF 'fuseelaw07.CivilNumbers'. -/
def civilNumbersUptoCard : Claim7 := { stood := { row := civilNumbersUptoRow, standIns := [], harness := (true, "f68bdd08d955ce6a4ef348a91f5c649e12d0ec9d60d067b29432d1311cad27c6"), looks := true }, kinds := [], alts := [], laidByText := true, laidKinds := [.data, .data, .data, .sentinel, .sentinel, .data], laidTests := true, laidLooks := .later }
def CivilNumbersUptoCardSaid : Prop := Claim7.holds Tryd.pinned (.plain (OpenSpec.upto civilNumbersSpec)) civilNumbersUptoCard

/-- THE SECOND FORM's CARD OF 'fuseelaw07.CivilWeeks'. -/
def civilWeeksUptoCard : Claim7 := { stood := { row := civilWeeksUptoRow, standIns := [], harness := (true, "f68bdd08d955ce6a4ef348a91f5c649e12d0ec9d60d067b29432d1311cad27c6"), looks := true }, kinds := [], alts := [], laidByText := true, laidKinds := [.data, .data, .data, .sentinel, .sentinel, .data], laidTests := true, laidLooks := .later }
def CivilWeeksUptoCardSaid : Prop := Claim7.holds Tryd.pinned (.plain (OpenSpec.upto civilWeeksSpec)) civilWeeksUptoCard

/-- THE SECOND FORM's CARD OF 'fuseelaw07.CivilTexts'. -/
def civilTextsUptoCard : Claim7 := { stood := { row := civilTextsUptoRow, standIns := [], harness := (true, "f68bdd08d955ce6a4ef348a91f5c649e12d0ec9d60d067b29432d1311cad27c6"), looks := true }, kinds := [], alts := [], laidByText := true, laidKinds := [.data, .data, .data, .sentinel, .sentinel, .data], laidTests := true, laidLooks := .later }
def CivilTextsUptoCardSaid : Prop := Claim7.holds Tryd.pinned (.plain (OpenSpec.upto civilTextsSpec)) civilTextsUptoCard

/-- THE SECOND FORM's CARD OF 'fuseelaw07.CivilSeconds'. -/
def civilSecondsUptoCard : Claim7 := { stood := { row := civilSecondsUptoRow, standIns := [], harness := (true, "f68bdd08d955ce6a4ef348a91f5c649e12d0ec9d60d067b29432d1311cad27c6"), looks := true }, kinds := [], alts := [], laidByText := true, laidKinds := [.data, .data, .data, .sentinel, .sentinel, .data], laidTests := true, laidLooks := .later }
def CivilSecondsUptoCardSaid : Prop := Claim7.holds Tryd.pinned (.plain (OpenSpec.upto civilSecondsSpec)) civilSecondsUptoCard

/-- THE SECOND FORM's CARD OF 'fuseelaw07.CivilGoes'. -/
def civilGoesUptoCard : Claim7 := { stood := { row := civilGoesUptoRow, standIns := [], harness := (true, "f68bdd08d955ce6a4ef348a91f5c649e12d0ec9d60d067b29432d1311cad27c6"), looks := true }, kinds := [], alts := [], laidByText := true, laidKinds := [.data, .data, .data, .sentinel, .sentinel, .data], laidTests := true, laidLooks := .later }
def CivilGoesUptoCardSaid : Prop := Claim7.holds Tryd.pinned (.plain (OpenSpec.upto civilGoesSpec)) civilGoesUptoCard
end Rows
end Go.Proofs.YtjngnmpjkiafpaaDoor
