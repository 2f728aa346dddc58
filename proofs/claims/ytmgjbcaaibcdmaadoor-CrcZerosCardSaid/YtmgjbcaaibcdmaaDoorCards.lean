/-
  DERIVED. GIVEN WITH THE SEED: THE CARDS: each row of YtmgjbcaaibcdmaaDoorRows.lean that lists a variable, with what it lists TIED to the program's text (the seventh form; the later family's looks); each row that meets fmt, with fmt's text TOLD by the authors' own Lean function (tested against real Go, not proved from fmt's source: count such statements apart). THE CARD IS WHAT COUNTS. Prove the row's statement (the work); the ties are given (YtmgjbcaaibcdmaaDoorTie.lean); close each card by the builder's one call (the guide's Derived/Test/ToyasCard.lean, 'card_holds'). Laid BY PROGRAM, IN A SANDBOX (cutbox-door.mjs). By AI agents, Wed Nov 11 2026. No macro, syntax, notation, axiom, sorry.
-/
import Derived.Test.YtmgjbcaaibcdmaaDoorRows
import GoSem.ClaimSeven
namespace Go.Proofs.YtmgjbcaaibcdmaaDoor
namespace Rows

/-- THE TIED CARD OF 'pigeonholelaw02.CrcIs'. -/
def crcIsCard : Claim7 := { stood := { row := crcIsRow, standIns := [], harness := (true, "0699b57c5a34cd7e5fe9a12e38aeed23e7788c3033bc4d16aecc86124d402935"), looks := false }, kinds := [], alts := [], laidByText := true, laidKinds := [.data], laidTests := true, laidLooks := .later }
def CrcIsCardSaid : Prop := Claim7.holds Tryd.pinned (.plain (OpenSpec.ofChange crcIsSpec)) crcIsCard

/-- THE TIED CARD OF 'pigeonholelaw02.CrcZeros'. -/
def crcZerosCard : Claim7 := { stood := { row := crcZerosRow, standIns := [], harness := (true, "0699b57c5a34cd7e5fe9a12e38aeed23e7788c3033bc4d16aecc86124d402935"), looks := false }, kinds := [], alts := [], laidByText := true, laidKinds := [.data], laidTests := true, laidLooks := .later }
def CrcZerosCardSaid : Prop := Claim7.holds Tryd.pinned (.plain (OpenSpec.ofChange crcZerosSpec)) crcZerosCard

/-- THE TIED CARD OF 'pigeonholelaw02.CrcTells'. -/
def crcTellsCard : Claim7 := { stood := { row := crcTellsRow, standIns := [], harness := (true, "0699b57c5a34cd7e5fe9a12e38aeed23e7788c3033bc4d16aecc86124d402935"), looks := false }, kinds := [], alts := [], laidByText := true, laidKinds := [.data], laidTests := true, laidLooks := .later }
def CrcTellsCardSaid : Prop := Claim7.holds Tryd.pinned (.plain (OpenSpec.ofChange crcTellsSpec)) crcTellsCard

/-- THE SECOND FORM's CARD OF 'pigeonholelaw02.CrcIs'. -/
def crcIsUptoCard : Claim7 := { stood := { row := crcIsUptoRow, standIns := [], harness := (true, "0699b57c5a34cd7e5fe9a12e38aeed23e7788c3033bc4d16aecc86124d402935"), looks := false }, kinds := [], alts := [], laidByText := true, laidKinds := [.data], laidTests := true, laidLooks := .later }
def CrcIsUptoCardSaid : Prop := Claim7.holds Tryd.pinned (.plain (OpenSpec.upto crcIsSpec)) crcIsUptoCard

/-- THE SECOND FORM's CARD OF 'pigeonholelaw02.CrcZeros'. -/
def crcZerosUptoCard : Claim7 := { stood := { row := crcZerosUptoRow, standIns := [], harness := (true, "0699b57c5a34cd7e5fe9a12e38aeed23e7788c3033bc4d16aecc86124d402935"), looks := false }, kinds := [], alts := [], laidByText := true, laidKinds := [.data], laidTests := true, laidLooks := .later }
def CrcZerosUptoCardSaid : Prop := Claim7.holds Tryd.pinned (.plain (OpenSpec.upto crcZerosSpec)) crcZerosUptoCard

/-- THE SECOND FORM's CARD OF 'pigeonholelaw02.CrcTells'. -/
def crcTellsUptoCard : Claim7 := { stood := { row := crcTellsUptoRow, standIns := [], harness := (true, "0699b57c5a34cd7e5fe9a12e38aeed23e7788c3033bc4d16aecc86124d402935"), looks := false }, kinds := [], alts := [], laidByText := true, laidKinds := [.data], laidTests := true, laidLooks := .later }
def CrcTellsUptoCardSaid : Prop := Claim7.holds Tryd.pinned (.plain (OpenSpec.upto crcTellsSpec)) crcTellsUptoCard
end Rows
end Go.Proofs.YtmgjbcaaibcdmaaDoor
