/-
  DERIVED. GIVEN WITH THE SEED: THE CARDS: each row of YthcgnnhfkejglaaDoorRows.lean that lists a variable, with what it lists TIED to the program's text (the seventh form; the later family's looks); each row that meets fmt, with fmt's text TOLD by the authors' own Lean function (tested against real Go, not proved from fmt's source: count such statements apart). THE CARD IS WHAT COUNTS. Prove the row's statement (the work); the ties are given (YthcgnnhfkejglaaDoorTie.lean); close each card by the builder's one call (the guide's Derived/Test/ToyasCard.lean, 'card_holds'). Laid BY PROGRAM, IN A SANDBOX (cutbox-door.mjs). By AI agents, Wed Nov 11 2026. No macro, syntax, notation, axiom, sorry.
-/
import Derived.Test.YthcgnnhfkejglaaDoorRows
import GoSem.ClaimSeven
namespace Go.Proofs.YthcgnnhfkejglaaDoor
namespace Rows

/-- THE TIED CARD OF 'pigeonholelaw07.DotSends'. -/
def dotSendsCard : Claim7 := { stood := { row := dotSendsRow, standIns := [], harness := (true, "262d659b93a150b9b130ecc0f8b9a7eda598332c9e9d7a2a1819843879f38c4d"), looks := false }, kinds := [], alts := [], laidByText := true, laidKinds := [.data, .pinned], laidTests := true, laidLooks := .later }
def DotSendsCardSaid : Prop := Claim7.holds Tryd.pinned (.plain (OpenSpec.ofChange dotSendsSpec)) dotSendsCard

/-- THE TIED CARD OF 'pigeonholelaw07.DotDecodes'. -/
def dotDecodesCard : Claim7 := { stood := { row := dotDecodesRow, standIns := [], harness := (true, "262d659b93a150b9b130ecc0f8b9a7eda598332c9e9d7a2a1819843879f38c4d"), looks := false }, kinds := [], alts := [], laidByText := true, laidKinds := [.data, .pinned], laidTests := true, laidLooks := .later }
def DotDecodesCardSaid : Prop := Claim7.holds Tryd.pinned (.plain (OpenSpec.ofChange dotDecodesSpec)) dotDecodesCard

/-- THE TIED CARD OF 'pigeonholelaw07.DotPieces'. -/
def dotPiecesCard : Claim7 := { stood := { row := dotPiecesRow, standIns := [], harness := (true, "262d659b93a150b9b130ecc0f8b9a7eda598332c9e9d7a2a1819843879f38c4d"), looks := false }, kinds := [], alts := [], laidByText := true, laidKinds := [.data, .pinned], laidTests := true, laidLooks := .later }
def DotPiecesCardSaid : Prop := Claim7.holds Tryd.pinned (.plain (OpenSpec.ofChange dotPiecesSpec)) dotPiecesCard

/-- THE TIED CARD OF 'pigeonholelaw07.DotBack'. -/
def dotBackCard : Claim7 := { stood := { row := dotBackRow, standIns := [], harness := (true, "262d659b93a150b9b130ecc0f8b9a7eda598332c9e9d7a2a1819843879f38c4d"), looks := false }, kinds := [], alts := [], laidByText := true, laidKinds := [.data, .pinned], laidTests := true, laidLooks := .later }
def DotBackCardSaid : Prop := Claim7.holds Tryd.pinned (.plain (OpenSpec.ofChange dotBackSpec)) dotBackCard

/-- THE TIED CARD OF 'pigeonholelaw07.DotEnds'. -/
def dotEndsCard : Claim7 := { stood := { row := dotEndsRow, standIns := [], harness := (true, "262d659b93a150b9b130ecc0f8b9a7eda598332c9e9d7a2a1819843879f38c4d"), looks := false }, kinds := [], alts := [], laidByText := true, laidKinds := [.data, .pinned], laidTests := true, laidLooks := .later }
def DotEndsCardSaid : Prop := Claim7.holds Tryd.pinned (.plain (OpenSpec.ofChange dotEndsSpec)) dotEndsCard

/-- THE SECOND FORM's CARD OF 'pigeonholelaw07.DotSends'. -/
def dotSendsUptoCard : Claim7 := { stood := { row := dotSendsUptoRow, standIns := [], harness := (true, "262d659b93a150b9b130ecc0f8b9a7eda598332c9e9d7a2a1819843879f38c4d"), looks := false }, kinds := [], alts := [], laidByText := true, laidKinds := [.data, .pinned], laidTests := true, laidLooks := .later }
def DotSendsUptoCardSaid : Prop := Claim7.holds Tryd.pinned (.plain (OpenSpec.upto dotSendsSpec)) dotSendsUptoCard

/-- THE SECOND FORM's CARD OF 'pigeonholelaw07.DotDecodes'. -/
def dotDecodesUptoCard : Claim7 := { stood := { row := dotDecodesUptoRow, standIns := [], harness := (true, "262d659b93a150b9b130ecc0f8b9a7eda598332c9e9d7a2a1819843879f38c4d"), looks := false }, kinds := [], alts := [], laidByText := true, laidKinds := [.data, .pinned], laidTests := true, laidLooks := .later }
def DotDecodesUptoCardSaid : Prop := Claim7.holds Tryd.pinned (.plain (OpenSpec.upto dotDecodesSpec)) dotDecodesUptoCard

/-- THE SECOND FORM's CARD OF 'pigeonholelaw07.DotPieces'. -/
def dotPiecesUptoCard : Claim7 := { stood := { row := dotPiecesUptoRow, standIns := [], harness := (true, "262d659b93a150b9b130ecc0f8b9a7eda598332c9e9d7a2a1819843879f38c4d"), looks := false }, kinds := [], alts := [], laidByText := true, laidKinds := [.data, .pinned], laidTests := true, laidLooks := .later }
def DotPiecesUptoCardSaid : Prop := Claim7.holds Tryd.pinned (.plain (OpenSpec.upto dotPiecesSpec)) dotPiecesUptoCard

/-- THE SECOND FORM's CARD OF 'pigeonholelaw07.DotBack'. -/
def dotBackUptoCard : Claim7 := { stood := { row := dotBackUptoRow, standIns := [], harness := (true, "262d659b93a150b9b130ecc0f8b9a7eda598332c9e9d7a2a1819843879f38c4d"), looks := false }, kinds := [], alts := [], laidByText := true, laidKinds := [.data, .pinned], laidTests := true, laidLooks := .later }
def DotBackUptoCardSaid : Prop := Claim7.holds Tryd.pinned (.plain (OpenSpec.upto dotBackSpec)) dotBackUptoCard

/-- THE SECOND FORM's CARD OF 'pigeonholelaw07.DotEnds'. -/
def dotEndsUptoCard : Claim7 := { stood := { row := dotEndsUptoRow, standIns := [], harness := (true, "262d659b93a150b9b130ecc0f8b9a7eda598332c9e9d7a2a1819843879f38c4d"), looks := false }, kinds := [], alts := [], laidByText := true, laidKinds := [.data, .pinned], laidTests := true, laidLooks := .later }
def DotEndsUptoCardSaid : Prop := Claim7.holds Tryd.pinned (.plain (OpenSpec.upto dotEndsSpec)) dotEndsUptoCard
end Rows
end Go.Proofs.YthcgnnhfkejglaaDoor
