/-
  DERIVED. GIVEN WITH THE SEED: THE CARDS: each row of YtbhdlclaooohfaaGreatDoorRows.lean that lists a variable, with what it lists TIED to the program's text (the seventh form; the later family's looks); each row that meets fmt, with fmt's text TOLD by the authors' own Lean function (tested against real Go, not proved from fmt's source: count such statements apart). THE CARD IS WHAT COUNTS. Prove the row's statement (the work); the ties are given (YtbhdlclaooohfaaGreatDoorTie.lean); close each card by the builder's one call (the guide's Derived/Test/ToyasCard.lean, 'card_holds'). Laid BY PROGRAM, IN A SANDBOX (cutbox-door.mjs). By AI agents, Wed Nov 11 2026. No macro, syntax, notation, axiom, sorry.
-/
import Derived.Test.YtbhdlclaooohfaaGreatDoorRows
import GoSem.ClaimSeven
namespace Go.Proofs.YtbhdlclaooohfaaGreatDoor
namespace Rows

/-- THE TIED CARD OF 'pigeonholelaw15.EnvelReads'. -/
def envelReadsCard : Claim7 := { stood := { row := envelReadsRow, standIns := [], harness := (true, "71045aa299d08f8d58b2ffe8fd4b994c3544cd425a2d3f2093547a4a6dc992aa"), looks := false }, kinds := [], alts := [], laidByText := true, laidKinds := [.data], laidTests := true, laidLooks := .later }
def EnvelReadsCardSaid : Prop := Claim7.holds Tryz.pinned (.plain (OpenSpec.ofChange envelReadsSpec)) envelReadsCard

/-- THE SECOND FORM's CARD OF 'pigeonholelaw15.EnvelReads'. -/
def envelReadsUptoCard : Claim7 := { stood := { row := envelReadsUptoRow, standIns := [], harness := (true, "71045aa299d08f8d58b2ffe8fd4b994c3544cd425a2d3f2093547a4a6dc992aa"), looks := false }, kinds := [], alts := [], laidByText := true, laidKinds := [.data], laidTests := true, laidLooks := .later }
def EnvelReadsUptoCardSaid : Prop := Claim7.holds Tryz.pinned (.plain (OpenSpec.upto envelReadsSpec)) envelReadsUptoCard
end Rows
end Go.Proofs.YtbhdlclaooohfaaGreatDoor
