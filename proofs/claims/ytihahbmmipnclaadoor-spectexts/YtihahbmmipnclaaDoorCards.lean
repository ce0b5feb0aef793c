/-
  DERIVED. GIVEN WITH THE SEED: THE CARDS: each row of YtihahbmmipnclaaDoorRows.lean that lists a variable, with what it lists TIED to the program's text (the seventh form; the later family's looks); each row that meets fmt, with fmt's text TOLD by the authors' own Lean function (tested against real Go, not proved from fmt's source: count such statements apart). THE CARD IS WHAT COUNTS. Prove the row's statement (the work); the ties are given (YtihahbmmipnclaaDoorTie.lean); close each card by the builder's one call (the guide's Derived/Test/ToyasCard.lean, 'card_holds'). Laid BY PROGRAM, IN A SANDBOX (cutbox-door.mjs). By AI agents, Wed Nov 11 2026. No macro, syntax, notation, axiom, sorry.
-/
import Derived.Test.YtihahbmmipnclaaDoorRows
import GoSem.ClaimSeven
namespace Go.Proofs.YtihahbmmipnclaaDoor
namespace Rows

/-- THE TIED CARD OF 'fuseelaw02.SpecTimes'. -/
def specTimesCard : Claim7 := { stood := { row := specTimesRow, standIns := [], harness := (true, "0db2e7795203c940ee96bd00bc8bcca4695159c1003e677fc49ea63685f8bc6d"), looks := false }, kinds := [], alts := [], laidByText := true, laidKinds := [.data, .data, .data], laidTests := true, laidLooks := .later }
def SpecTimesCardSaid : Prop := Claim7.holds Tryd.pinned (.plain (OpenSpec.ofChange specTimesSpec)) specTimesCard

/-- THE TIED CARD OF 'fuseelaw02.SpecTexts'. -/
def specTextsCard : Claim7 := { stood := { row := specTextsRow, standIns := [], harness := (true, "0db2e7795203c940ee96bd00bc8bcca4695159c1003e677fc49ea63685f8bc6d"), looks := false }, kinds := [], alts := [], laidByText := true, laidKinds := [.data, .data, .data], laidTests := true, laidLooks := .later }
def SpecTextsCardSaid : Prop := Claim7.holds Tryd.pinned (.plain (OpenSpec.ofChange specTextsSpec)) specTextsCard

/-- THE TIED CARD OF 'fuseelaw02.SpecAdds'. -/
def specAddsCard : Claim7 := { stood := { row := specAddsRow, standIns := [], harness := (true, "0db2e7795203c940ee96bd00bc8bcca4695159c1003e677fc49ea63685f8bc6d"), looks := false }, kinds := [], alts := [], laidByText := true, laidKinds := [.data, .data, .data], laidTests := true, laidLooks := .later }
def SpecAddsCardSaid : Prop := Claim7.holds Tryd.pinned (.plain (OpenSpec.ofChange specAddsSpec)) specAddsCard

/-- THE SECOND FORM's CARD OF 'fuseelaw02.SpecTimes'. -/
def specTimesUptoCard : Claim7 := { stood := { row := specTimesUptoRow, standIns := [], harness := (true, "0db2e7795203c940ee96bd00bc8bcca4695159c1003e677fc49ea63685f8bc6d"), looks := false }, kinds := [], alts := [], laidByText := true, laidKinds := [.data, .data, .data], laidTests := true, laidLooks := .later }
def SpecTimesUptoCardSaid : Prop := Claim7.holds Tryd.pinned (.plain (OpenSpec.upto specTimesSpec)) specTimesUptoCard

/-- THE SECOND FORM's CARD OF 'fuseelaw02.SpecTexts'. -/
def specTextsUptoCard : Claim7 := { stood := { row := specTextsUptoRow, standIns := [], harness := (true, "0db2e7795203c940ee96bd00bc8bcca4695159c1003e677fc49ea63685f8bc6d"), looks := false }, kinds := [], alts := [], laidByText := true, laidKinds := [.data, .data, .data], laidTests := true, laidLooks := .later }
def SpecTextsUptoCardSaid : Prop := Claim7.holds Tryd.pinned (.plain (OpenSpec.upto specTextsSpec)) specTextsUptoCard

/-- THE SECOND FORM's CARD OF 'fuseelaw02.SpecAdds'. -/
def specAddsUptoCard : Claim7 := { stood := { row := specAddsUptoRow, standIns := [], harness := (true, "0db2e7795203c940ee96bd00bc8bcca4695159c1003e677fc49ea63685f8bc6d"), looks := false }, kinds := [], alts := [], laidByText := true, laidKinds := [.data, .data, .data], laidTests := true, laidLooks := .later }
def SpecAddsUptoCardSaid : Prop := Claim7.holds Tryd.pinned (.plain (OpenSpec.upto specAddsSpec)) specAddsUptoCard
end Rows
end Go.Proofs.YtihahbmmipnclaaDoor
