/-
  DERIVED. GIVEN WITH THE SEED: THE CARDS: each row of YtebncajpamaodaaGreatDoorRows.lean that lists a variable, with what it lists TIED to the program's text (the seventh form; the later family's looks); each row that meets fmt, with fmt's text TOLD by the authors' own Lean function (tested against real Go, not proved from fmt's source: count such statements apart). THE CARD IS WHAT COUNTS. Prove the row's statement (the work); the ties are given (YtebncajpamaodaaGreatDoorTie.lean); close each card by the builder's one call (the guide's Derived/Test/ToyasCard.lean, 'card_holds'). Laid BY PROGRAM, IN A SANDBOX (cutbox-door.mjs). By AI agents, Wed Nov 11 2026. No macro, syntax, notation, axiom, sorry.
-/
import Derived.Test.YtebncajpamaodaaGreatDoorRows
import GoSem.ClaimSeven
namespace Go.Proofs.YtebncajpamaodaaGreatDoor
namespace Rows

/-- THE TIED CARD OF 'pigeonholelaw06.CmdParses'. -/
def cmdParsesCard : Claim7 := { stood := { row := cmdParsesRow, standIns := [], harness := (true, "bf49fb7d02e4695c9f94ce53820197f69dab48213753cf7e05a744da487fc8bb"), looks := true }, kinds := [], alts := [], laidByText := true, laidKinds := [.data, .data, .data, .data, .sentinel, .sentinel, .data, .pinned], laidTests := true, laidLooks := .later }
def CmdParsesCardSaid : Prop := Claim7.holds Tryz.pinned (.plain (OpenSpec.ofChange cmdParsesSpec)) cmdParsesCard

/-- THE TIED CARD OF 'pigeonholelaw06.CmdTexts'. -/
def cmdTextsCard : Claim7 := { stood := { row := cmdTextsRow, standIns := [], harness := (true, "bf49fb7d02e4695c9f94ce53820197f69dab48213753cf7e05a744da487fc8bb"), looks := true }, kinds := [], alts := [], laidByText := true, laidKinds := [.data, .data, .data, .data, .sentinel, .sentinel, .data, .pinned], laidTests := true, laidLooks := .later }
def CmdTextsCardSaid : Prop := Claim7.holds Tryz.pinned (.plain (OpenSpec.ofChange cmdTextsSpec)) cmdTextsCard

/-- THE TIED CARD OF 'pigeonholelaw06.CmdLetters'. -/
def cmdLettersCard : Claim7 := { stood := { row := cmdLettersRow, standIns := [], harness := (true, "bf49fb7d02e4695c9f94ce53820197f69dab48213753cf7e05a744da487fc8bb"), looks := true }, kinds := [], alts := [], laidByText := true, laidKinds := [.data, .data, .data, .data, .sentinel, .sentinel, .data, .pinned], laidTests := true, laidLooks := .later }
def CmdLettersCardSaid : Prop := Claim7.holds Tryz.pinned (.plain (OpenSpec.ofChange cmdLettersSpec)) cmdLettersCard

/-- THE TIED CARD OF 'pigeonholelaw06.CmdMost'. -/
def cmdMostCard : Claim7 := { stood := { row := cmdMostRow, standIns := [], harness := (true, "bf49fb7d02e4695c9f94ce53820197f69dab48213753cf7e05a744da487fc8bb"), looks := true }, kinds := [], alts := [], laidByText := true, laidKinds := [.data, .data, .data, .data, .sentinel, .sentinel, .data, .pinned], laidTests := true, laidLooks := .later }
def CmdMostCardSaid : Prop := Claim7.holds Tryz.pinned (.plain (OpenSpec.ofChange cmdMostSpec)) cmdMostCard

/-- THE SECOND FORM's CARD OF 'pigeonholelaw06.CmdParses'. -/
def cmdParsesUptoCard : Claim7 := { stood := { row := cmdParsesUptoRow, standIns := [], harness := (true, "bf49fb7d02e4695c9f94ce53820197f69dab48213753cf7e05a744da487fc8bb"), looks := true }, kinds := [], alts := [], laidByText := true, laidKinds := [.data, .data, .data, .data, .sentinel, .sentinel, .data, .pinned], laidTests := true, laidLooks := .later }
def CmdParsesUptoCardSaid : Prop := Claim7.holds Tryz.pinned (.plain (OpenSpec.upto cmdParsesSpec)) cmdParsesUptoCard

/-- THE SECOND FORM's CARD OF 'pigeonholelaw06.CmdTexts'. -/
def cmdTextsUptoCard : Claim7 := { stood := { row := cmdTextsUptoRow, standIns := [], harness := (true, "bf49fb7d02e4695c9f94ce53820197f69dab48213753cf7e05a744da487fc8bb"), looks := true }, kinds := [], alts := [], laidByText := true, laidKinds := [.data, .data, .data, .data, .sentinel, .sentinel, .data, .pinned], laidTests := true, laidLooks := .later }
def CmdTextsUptoCardSaid : Prop := Claim7.holds Tryz.pinned (.plain (OpenSpec.upto cmdTextsSpec)) cmdTextsUptoCard

/-- THE SECOND FORM's CARD OF 'pigeonholelaw06.CmdLetters'. -/
def cmdLettersUptoCard : Claim7 := { stood := { row := cmdLettersUptoRow, standIns := [], harness := (true, "bf49fb7d02e4695c9f94ce53820197f69dab48213753cf7e05a744da487fc8bb"), looks := true }, kinds := [], alts := [], laidByText := true, laidKinds := [.data, .data, .data, .data, .sentinel, .sentinel, .data, .pinned], laidTests := true, laidLooks := .later }
def CmdLettersUptoCardSaid : Prop := Claim7.holds Tryz.pinned (.plain (OpenSpec.upto cmdLettersSpec)) cmdLettersUptoCard

/-- THE SECOND FORM's CARD OF 'pigeonholelaw06.CmdMost'. -/
def cmdMostUptoCard : Claim7 := { stood := { row := cmdMostUptoRow, standIns := [], harness := (true, "bf49fb7d02e4695c9f94ce53820197f69dab48213753cf7e05a744da487fc8bb"), looks := true }, kinds := [], alts := [], laidByText := true, laidKinds := [.data, .data, .data, .data, .sentinel, .sentinel, .data, .pinned], laidTests := true, laidLooks := .later }
def CmdMostUptoCardSaid : Prop := Claim7.holds Tryz.pinned (.plain (OpenSpec.upto cmdMostSpec)) cmdMostUptoCard
end Rows
end Go.Proofs.YtebncajpamaodaaGreatDoor
