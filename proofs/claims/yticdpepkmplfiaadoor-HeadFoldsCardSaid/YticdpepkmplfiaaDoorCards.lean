/-
  DERIVED. GIVEN WITH THE SEED: THE CARDS: each row of YticdpepkmplfiaaDoorRows.lean that lists a variable, with what it lists TIED to the program's text (the seventh form; the later family's looks); each row that meets fmt, with fmt's text TOLD by the authors' own Lean function (tested against real Go, not proved from fmt's source: count such statements apart). THE CARD IS WHAT COUNTS. Prove the row's statement (the work); the ties are given (YticdpepkmplfiaaDoorTie.lean); close each card by the builder's one call (the guide's Derived/Test/ToyasCard.lean, 'card_holds'). Laid BY PROGRAM, IN A SANDBOX (cutbox-door.mjs). By AI agents, Wed Nov 11 2026. No macro, syntax, notation, axiom, sorry.
-/
import Derived.Test.YticdpepkmplfiaaDoorRows
import GoSem.ClaimSeven
namespace Go.Proofs.YticdpepkmplfiaaDoor
namespace Rows

/-- THE TIED CARD OF 'pigeonholelaw10.HeadBuilds'. -/
def headBuildsCard : Claim7 := { stood := { row := headBuildsRow, standIns := [], harness := (true, "7d6ca3a79ae3b5f7a62cef9d10f9a2cf8ebe1a1938af23df22519cd8a9cd00dc"), looks := false }, kinds := [], alts := [], laidByText := true, laidKinds := [.data, .pinned], laidTests := true, laidLooks := .later }
def HeadBuildsCardSaid : Prop := Claim7.holds Tryd.pinned (.plain (OpenSpec.ofChange headBuildsSpec)) headBuildsCard

/-- THE TIED CARD OF 'pigeonholelaw10.HeadSplits'. -/
def headSplitsCard : Claim7 := { stood := { row := headSplitsRow, standIns := [], harness := (true, "7d6ca3a79ae3b5f7a62cef9d10f9a2cf8ebe1a1938af23df22519cd8a9cd00dc"), looks := false }, kinds := [], alts := [], laidByText := true, laidKinds := [.data, .pinned], laidTests := true, laidLooks := .later }
def HeadSplitsCardSaid : Prop := Claim7.holds Tryd.pinned (.plain (OpenSpec.ofChange headSplitsSpec)) headSplitsCard

/-- THE TIED CARD OF 'pigeonholelaw10.HeadBack'. -/
def headBackCard : Claim7 := { stood := { row := headBackRow, standIns := [], harness := (true, "7d6ca3a79ae3b5f7a62cef9d10f9a2cf8ebe1a1938af23df22519cd8a9cd00dc"), looks := false }, kinds := [], alts := [], laidByText := true, laidKinds := [.data, .pinned], laidTests := true, laidLooks := .later }
def HeadBackCardSaid : Prop := Claim7.holds Tryd.pinned (.plain (OpenSpec.ofChange headBackSpec)) headBackCard

/-- THE TIED CARD OF 'pigeonholelaw10.HeadFolds'. -/
def headFoldsCard : Claim7 := { stood := { row := headFoldsRow, standIns := [], harness := (true, "7d6ca3a79ae3b5f7a62cef9d10f9a2cf8ebe1a1938af23df22519cd8a9cd00dc"), looks := false }, kinds := [], alts := [], laidByText := true, laidKinds := [.data, .pinned], laidTests := true, laidLooks := .later }
def HeadFoldsCardSaid : Prop := Claim7.holds Tryd.pinned (.plain (OpenSpec.ofChange headFoldsSpec)) headFoldsCard

/-- THE SECOND FORM's CARD OF 'pigeonholelaw10.HeadBuilds'. -/
def headBuildsUptoCard : Claim7 := { stood := { row := headBuildsUptoRow, standIns := [], harness := (true, "7d6ca3a79ae3b5f7a62cef9d10f9a2cf8ebe1a1938af23df22519cd8a9cd00dc"), looks := false }, kinds := [], alts := [], laidByText := true, laidKinds := [.data, .pinned], laidTests := true, laidLooks := .later }
def HeadBuildsUptoCardSaid : Prop := Claim7.holds Tryd.pinned (.plain (OpenSpec.upto headBuildsSpec)) headBuildsUptoCard

/-- THE SECOND FORM's CARD OF 'pigeonholelaw10.HeadSplits'. -/
def headSplitsUptoCard : Claim7 := { stood := { row := headSplitsUptoRow, standIns := [], harness := (true, "7d6ca3a79ae3b5f7a62cef9d10f9a2cf8ebe1a1938af23df22519cd8a9cd00dc"), looks := false }, kinds := [], alts := [], laidByText := true, laidKinds := [.data, .pinned], laidTests := true, laidLooks := .later }
def HeadSplitsUptoCardSaid : Prop := Claim7.holds Tryd.pinned (.plain (OpenSpec.upto headSplitsSpec)) headSplitsUptoCard

/-- THE SECOND FORM's CARD OF 'pigeonholelaw10.HeadBack'. -/
def headBackUptoCard : Claim7 := { stood := { row := headBackUptoRow, standIns := [], harness := (true, "7d6ca3a79ae3b5f7a62cef9d10f9a2cf8ebe1a1938af23df22519cd8a9cd00dc"), looks := false }, kinds := [], alts := [], laidByText := true, laidKinds := [.data, .pinned], laidTests := true, laidLooks := .later }
def HeadBackUptoCardSaid : Prop := Claim7.holds Tryd.pinned (.plain (OpenSpec.upto headBackSpec)) headBackUptoCard

/-- THE SECOND FORM's CARD OF 'pigeonholelaw10.HeadFolds'. -/
def headFoldsUptoCard : Claim7 := { stood := { row := headFoldsUptoRow, standIns := [], harness := (true, "7d6ca3a79ae3b5f7a62cef9d10f9a2cf8ebe1a1938af23df22519cd8a9cd00dc"), looks := false }, kinds := [], alts := [], laidByText := true, laidKinds := [.data, .pinned], laidTests := true, laidLooks := .later }
def HeadFoldsUptoCardSaid : Prop := Claim7.holds Tryd.pinned (.plain (OpenSpec.upto headFoldsSpec)) headFoldsUptoCard
end Rows
end Go.Proofs.YticdpepkmplfiaaDoor
