/-
  DERIVED. GIVEN WITH THE SEED: THE CARDS: each row of YtfcdapicemlfgaaDoorRows.lean that lists a variable, with what it lists TIED to the program's text (the seventh form; the later family's looks); each row that meets fmt, with fmt's text TOLD by the authors' own Lean function (tested against real Go, not proved from fmt's source: count such statements apart). THE CARD IS WHAT COUNTS. Prove the row's statement (the work); the ties are given (YtfcdapicemlfgaaDoorTie.lean); close each card by the builder's one call (the guide's Derived/Test/ToyasCard.lean, 'card_holds'). Laid BY PROGRAM, IN A SANDBOX (cutbox-door.mjs). By AI agents, Wed Nov 11 2026. No macro, syntax, notation, axiom, sorry.
-/
import Derived.Test.YtfcdapicemlfgaaDoorRows
import GoSem.ClaimSeven
namespace Go.Proofs.YtfcdapicemlfgaaDoor
namespace Rows

/-- THE TIED CARD OF 'pigeonholelaw20.MboxTakes'. -/
def mboxTakesCard : Claim7 := { stood := { row := mboxTakesRow, standIns := [], harness := (true, "7b9b9d46251b016cc3ce5f88ab1f23a1e4609b552f241e09a63a5ffcd605de48"), looks := true }, kinds := [], alts := [], laidByText := true, laidKinds := [.data], laidTests := true, laidLooks := .later }
def MboxTakesCardSaid : Prop := Claim7.holds Tryd.pinned (.plain (OpenSpec.ofChange mboxTakesSpec)) mboxTakesCard

/-- THE TIED CARD OF 'pigeonholelaw20.MboxMakes'. -/
def mboxMakesCard : Claim7 := { stood := { row := mboxMakesRow, standIns := [], harness := (true, "7b9b9d46251b016cc3ce5f88ab1f23a1e4609b552f241e09a63a5ffcd605de48"), looks := true }, kinds := [], alts := [], laidByText := true, laidKinds := [.data], laidTests := true, laidLooks := .later }
def MboxMakesCardSaid : Prop := Claim7.holds Tryd.pinned (.plain (OpenSpec.ofChange mboxMakesSpec)) mboxMakesCard

/-- THE TIED CARD OF 'pigeonholelaw20.MboxSums'. -/
def mboxSumsCard : Claim7 := { stood := { row := mboxSumsRow, standIns := [], harness := (true, "7b9b9d46251b016cc3ce5f88ab1f23a1e4609b552f241e09a63a5ffcd605de48"), looks := true }, kinds := [], alts := [], laidByText := true, laidKinds := [.data], laidTests := true, laidLooks := .later }
def MboxSumsCardSaid : Prop := Claim7.holds Tryd.pinned (.plain (OpenSpec.ofChange mboxSumsSpec)) mboxSumsCard

/-- THE TIED CARD OF 'pigeonholelaw20.MboxBack'. -/
def mboxBackCard : Claim7 := { stood := { row := mboxBackRow, standIns := [], harness := (true, "7b9b9d46251b016cc3ce5f88ab1f23a1e4609b552f241e09a63a5ffcd605de48"), looks := true }, kinds := [], alts := [], laidByText := true, laidKinds := [.data], laidTests := true, laidLooks := .later }
def MboxBackCardSaid : Prop := Claim7.holds Tryd.pinned (.plain (OpenSpec.ofChange mboxBackSpec)) mboxBackCard

/-- THE SECOND FORM's CARD OF 'pigeonholelaw20.MboxTakes'. -/
def mboxTakesUptoCard : Claim7 := { stood := { row := mboxTakesUptoRow, standIns := [], harness := (true, "7b9b9d46251b016cc3ce5f88ab1f23a1e4609b552f241e09a63a5ffcd605de48"), looks := true }, kinds := [], alts := [], laidByText := true, laidKinds := [.data], laidTests := true, laidLooks := .later }
def MboxTakesUptoCardSaid : Prop := Claim7.holds Tryd.pinned (.plain (OpenSpec.upto mboxTakesSpec)) mboxTakesUptoCard

/-- THE SECOND FORM's CARD OF 'pigeonholelaw20.MboxMakes'. -/
def mboxMakesUptoCard : Claim7 := { stood := { row := mboxMakesUptoRow, standIns := [], harness := (true, "7b9b9d46251b016cc3ce5f88ab1f23a1e4609b552f241e09a63a5ffcd605de48"), looks := true }, kinds := [], alts := [], laidByText := true, laidKinds := [.data], laidTests := true, laidLooks := .later }
def MboxMakesUptoCardSaid : Prop := Claim7.holds Tryd.pinned (.plain (OpenSpec.upto mboxMakesSpec)) mboxMakesUptoCard

/-- THE SECOND FORM's CARD OF 'pigeonholelaw20.MboxSums'. -/
def mboxSumsUptoCard : Claim7 := { stood := { row := mboxSumsUptoRow, standIns := [], harness := (true, "7b9b9d46251b016cc3ce5f88ab1f23a1e4609b552f241e09a63a5ffcd605de48"), looks := true }, kinds := [], alts := [], laidByText := true, laidKinds := [.data], laidTests := true, laidLooks := .later }
def MboxSumsUptoCardSaid : Prop := Claim7.holds Tryd.pinned (.plain (OpenSpec.upto mboxSumsSpec)) mboxSumsUptoCard

/-- THE SECOND FORM's CARD OF 'pigeonholelaw20.MboxBack'. -/
def mboxBackUptoCard : Claim7 := { stood := { row := mboxBackUptoRow, standIns := [], harness := (true, "7b9b9d46251b016cc3ce5f88ab1f23a1e4609b552f241e09a63a5ffcd605de48"), looks := true }, kinds := [], alts := [], laidByText := true, laidKinds := [.data], laidTests := true, laidLooks := .later }
def MboxBackUptoCardSaid : Prop := Claim7.holds Tryd.pinned (.plain (OpenSpec.upto mboxBackSpec)) mboxBackUptoCard
end Rows
end Go.Proofs.YtfcdapicemlfgaaDoor
