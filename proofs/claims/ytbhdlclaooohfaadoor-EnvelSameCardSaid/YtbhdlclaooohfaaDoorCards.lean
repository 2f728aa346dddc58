/-
  DERIVED. GIVEN WITH THE SEED: THE CARDS: each row of YtbhdlclaooohfaaDoorRows.lean that lists a variable, with what it lists TIED to the program's text (the seventh form; the later family's looks); each row that meets fmt, with fmt's text TOLD by the authors' own Lean function (tested against real Go, not proved from fmt's source: count such statements apart). THE CARD IS WHAT COUNTS. Prove the row's statement (the work); the ties are given (YtbhdlclaooohfaaDoorTie.lean); close each card by the builder's one call (the guide's Derived/Test/ToyasCard.lean, 'card_holds'). Laid BY PROGRAM, IN A SANDBOX (cutbox-door.mjs). By AI agents, Wed Nov 11 2026. No macro, syntax, notation, axiom, sorry.
-/
import Derived.Test.YtbhdlclaooohfaaDoorRows
import GoSem.ClaimSeven
namespace Go.Proofs.YtbhdlclaooohfaaDoor
namespace Rows

/-- THE TIED CARD OF 'pigeonholelaw15.EnvelSteps'. -/
def envelStepsCard : Claim7 := { stood := { row := envelStepsRow, standIns := [], harness := (true, "66c67507e7009a7324f2d3e27a002741e8f3b0dab51308aecdec86c5285c2674"), looks := false }, kinds := [], alts := [], laidByText := true, laidKinds := [.data], laidTests := true, laidLooks := .later }
def EnvelStepsCardSaid : Prop := Claim7.holds Tryd.pinned (.plain (OpenSpec.ofChange envelStepsSpec)) envelStepsCard

/-- THE TIED CARD OF 'pigeonholelaw15.EnvelSame'. -/
def envelSameCard : Claim7 := { stood := { row := envelSameRow, standIns := [], harness := (true, "66c67507e7009a7324f2d3e27a002741e8f3b0dab51308aecdec86c5285c2674"), looks := false }, kinds := [], alts := [], laidByText := true, laidKinds := [.data], laidTests := true, laidLooks := .later }
def EnvelSameCardSaid : Prop := Claim7.holds Tryd.pinned (.plain (OpenSpec.ofChange envelSameSpec)) envelSameCard

/-- THE SECOND FORM's CARD OF 'pigeonholelaw15.EnvelSteps'. -/
def envelStepsUptoCard : Claim7 := { stood := { row := envelStepsUptoRow, standIns := [], harness := (true, "66c67507e7009a7324f2d3e27a002741e8f3b0dab51308aecdec86c5285c2674"), looks := false }, kinds := [], alts := [], laidByText := true, laidKinds := [.data], laidTests := true, laidLooks := .later }
def EnvelStepsUptoCardSaid : Prop := Claim7.holds Tryd.pinned (.plain (OpenSpec.upto envelStepsSpec)) envelStepsUptoCard

/-- THE SECOND FORM's CARD OF 'pigeonholelaw15.EnvelSame'. -/
def envelSameUptoCard : Claim7 := { stood := { row := envelSameUptoRow, standIns := [], harness := (true, "66c67507e7009a7324f2d3e27a002741e8f3b0dab51308aecdec86c5285c2674"), looks := false }, kinds := [], alts := [], laidByText := true, laidKinds := [.data], laidTests := true, laidLooks := .later }
def EnvelSameUptoCardSaid : Prop := Claim7.holds Tryd.pinned (.plain (OpenSpec.upto envelSameSpec)) envelSameUptoCard
end Rows
end Go.Proofs.YtbhdlclaooohfaaDoor
