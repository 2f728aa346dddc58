/-
  NARROWER THAN 'FOR EVERY INPUT', by the rows' own cells (each row's printed sentence says how): MboxTakes: laid · MboxMakes: laid · MboxSums: laid · MboxBack: laid.
  DERIVED. THE GIVEN ROWS OF THIS SEAT. 4 by the template 'for every input the law returns true; each argument reads behind the call as it read before'; 0 by the template 'total and deterministic' (their statements: YtfcdapicemlfgaaDoorTotals.lean).
  GIVEN WITH THE SEED: the statements are not yours to turn. If you find one false, say at which input.
  Laid BY PROGRAM, IN A SANDBOX (cutbox-rows.mjs): the forced cells as the released guide's own fill.sh prints them over the translation 0b41c9c12e4cd6fa… (all of the seat's roots in one cut). By AI agents, Wed Nov 11 2026. No macro, syntax, notation, axiom, sorry.
-/
import Derived.Test.YtfcdapicemlfgaaDoorChecked
import GoSem.Claim
import GoSem.ClaimJoined
import GoSem.ClaimMapViews
import Derived.JoinedTies
import Derived.KernelRfl
namespace Go.Proofs.YtfcdapicemlfgaaDoor
/- THE CELL 'sum', in the pinned program and in every row, IS THE sha256 OF THE DUMP (.gsa) THAT YtfcdapicemlfgaaDoorProg.lean LOADS. Nothing in Lean hashes anything: it is a label: what it is worth is what the hold of that sum in a sandbox is worth. -/
noncomputable def Tryd.pinned : Pinned := { name := "ytfcdapicemlfgaadoor", sum := "0b41c9c12e4cd6fa632560748edf3279e5d8d824ad2d5f13bc7a07bd36df199d", checked := Tryd.checked }
namespace Rows
def none {H : Type} : Left H := { results := [], args := [] }

/- WHAT THE LISTED PACKAGE-LEVEL VARIABLES READ AS WHEN THE CALL BEGINS. Each datum BY PROGRAM (the guide's laid-datum.mjs) off the statement by which the dump's own 'gosem.cut.vars' lays the variable. In a bare row this is a premise. The card (YtfcdapicemlfgaaDoorCards.lean) ties it to the program's text. -/
def laid_pigeonhole_record_forms {H : Type} : DataW H := .agg [.agg [.lit (.int .i64 2), .lit (.int .i64 1), .lit (.int .i64 999)], .agg [.lit (.int .i64 4), .lit (.int .i64 1), .lit (.int .i64 2147483648)], .agg [.lit (.int .i64 4), .lit (.int .i64 1), .lit (.int .i64 2147483649)], .agg [.lit (.int .i64 4), .lit (.int .i64 0), .lit (.int .i64 2147483648)], .agg [.lit (.int .i64 4), .lit (.int .i64 1), .lit (.int .i64 2147483648)], .agg [.lit (.int .i64 8), .lit (.int .i64 0), .lit (.int .i64 4503599627370496)], .agg [.lit (.int .i64 1), .lit (.int .i64 0), .lit (.int .i64 31)], .agg [.lit (.int .i64 4), .lit (.int .i64 1), .lit (.int .i64 2147483648)], .agg [.lit (.int .i64 4), .lit (.int .i64 0), .lit (.int .i64 32768)], .agg [.lit (.int .i64 8), .lit (.int .i64 0), .lit (.int .i64 9007199254740992)]]

/-- 'pigeonholelaw20.MboxTakes': WHATEVER THE INPUT: true; the input reads as it did. -/
def mboxTakesSpec : ChangeSpec := { name := "mboxTakes", fn := fun _ => fun
  | [d1, d2, d3, d4] => { results := [.lit (.bool true)], args := [d1, d2, d3, d4] }
  | _ => none }
def mboxTakesRow : OpenClaim := { program := "ytfcdapicemlfgaadoor", sum := "0b41c9c12e4cd6fa632560748edf3279e5d8d824ad2d5f13bc7a07bd36df199d", func := "pigeonhole/pigeonholelaw20.MboxTakes", spec := "mboxTakes", unfollowed := true, recurses := true, named := ["pigeonhole/record.forms"], apart := false, laid := [("pigeonhole/record.forms", laid_pigeonhole_record_forms)] }
def MboxTakesSaid : Prop := mboxTakesRow.holds Tryd.pinned (OpenSpec.ofChange mboxTakesSpec)

/-- ITS FALSE NEIGHBOUR: 'it returns false'. Refute it at one input. -/
def mboxTakesWrong : ChangeSpec := { name := "mboxTakes", fn := fun _ => fun
  | [d1, d2, d3, d4] => { results := [.lit (.bool false)], args := [d1, d2, d3, d4] }
  | _ => none }
def MboxTakesWrongFalsely : Prop := mboxTakesRow.holds Tryd.pinned (OpenSpec.ofChange mboxTakesWrong)

/-- 'pigeonholelaw20.MboxMakes': WHATEVER THE INPUT: true; the input reads as it did. -/
def mboxMakesSpec : ChangeSpec := { name := "mboxMakes", fn := fun _ => fun
  | [d1, d2, d3, d4, d5, d6] => { results := [.lit (.bool true)], args := [d1, d2, d3, d4, d5, d6] }
  | _ => none }
def mboxMakesRow : OpenClaim := { program := "ytfcdapicemlfgaadoor", sum := "0b41c9c12e4cd6fa632560748edf3279e5d8d824ad2d5f13bc7a07bd36df199d", func := "pigeonhole/pigeonholelaw20.MboxMakes", spec := "mboxMakes", named := ["pigeonhole/record.forms"], apart := false, laid := [("pigeonhole/record.forms", laid_pigeonhole_record_forms)] }
def MboxMakesSaid : Prop := mboxMakesRow.holds Tryd.pinned (OpenSpec.ofChange mboxMakesSpec)

/-- ITS FALSE NEIGHBOUR: 'it returns false'. Refute it at one input. -/
def mboxMakesWrong : ChangeSpec := { name := "mboxMakes", fn := fun _ => fun
  | [d1, d2, d3, d4, d5, d6] => { results := [.lit (.bool false)], args := [d1, d2, d3, d4, d5, d6] }
  | _ => none }
def MboxMakesWrongFalsely : Prop := mboxMakesRow.holds Tryd.pinned (OpenSpec.ofChange mboxMakesWrong)

/-- 'pigeonholelaw20.MboxSums': WHATEVER THE INPUT: true; the input reads as it did. -/
def mboxSumsSpec : ChangeSpec := { name := "mboxSums", fn := fun _ => fun
  | [d] => { results := [.lit (.bool true)], args := [d] }
  | _ => none }
def mboxSumsRow : OpenClaim := { program := "ytfcdapicemlfgaadoor", sum := "0b41c9c12e4cd6fa632560748edf3279e5d8d824ad2d5f13bc7a07bd36df199d", func := "pigeonhole/pigeonholelaw20.MboxSums", spec := "mboxSums", unfollowed := true, recurses := true, named := ["pigeonhole/record.forms"], apart := false, laid := [("pigeonhole/record.forms", laid_pigeonhole_record_forms)] }
def MboxSumsSaid : Prop := mboxSumsRow.holds Tryd.pinned (OpenSpec.ofChange mboxSumsSpec)

/-- ITS FALSE NEIGHBOUR: 'it returns false'. Refute it at one input. -/
def mboxSumsWrong : ChangeSpec := { name := "mboxSums", fn := fun _ => fun
  | [d] => { results := [.lit (.bool false)], args := [d] }
  | _ => none }
def MboxSumsWrongFalsely : Prop := mboxSumsRow.holds Tryd.pinned (OpenSpec.ofChange mboxSumsWrong)

/-- 'pigeonholelaw20.MboxBack': WHATEVER THE INPUT: true; the input reads as it did. -/
def mboxBackSpec : ChangeSpec := { name := "mboxBack", fn := fun _ => fun
  | [d1, d2] => { results := [.lit (.bool true)], args := [d1, d2] }
  | _ => none }
def mboxBackRow : OpenClaim := { program := "ytfcdapicemlfgaadoor", sum := "0b41c9c12e4cd6fa632560748edf3279e5d8d824ad2d5f13bc7a07bd36df199d", func := "pigeonhole/pigeonholelaw20.MboxBack", spec := "mboxBack", inPlace := ["maps.clone"], unfollowed := true, recurses := true, named := ["pigeonhole/record.forms"], apart := false, laid := [("pigeonhole/record.forms", laid_pigeonhole_record_forms)] }
def MboxBackSaid : Prop := mboxBackRow.holds Tryd.pinned (OpenSpec.ofChange mboxBackSpec)

/-- ITS FALSE NEIGHBOUR: 'it returns false'. Refute it at one input. -/
def mboxBackWrong : ChangeSpec := { name := "mboxBack", fn := fun _ => fun
  | [d1, d2] => { results := [.lit (.bool false)], args := [d1, d2] }
  | _ => none }
def MboxBackWrongFalsely : Prop := mboxBackRow.holds Tryd.pinned (OpenSpec.ofChange mboxBackWrong)

/- THE SECOND FORM. 'bulk': how many values and letters a reading holds, each counted each time it is reached (what is shared counts as often as it is met; a slice's spare places count too). A statement '..UptoSaid' is the law's where the arguments, and the package variables that the reading takes, are together of bulk at most 1048576: NARROWER than '..Said'. Prove '..Said' where nothing that the law and all that it calls make is longer than what came in: it says more and counts as full. Else prove '..UptoSaid'. A law counts once. -/
mutual
def uptoBulk {H : Type} : DataW H → Nat
  | .lit (.string bytes) => bytes.length + 1
  | .lit _ => 1
  | .nil => 1
  | .ptr d => uptoBulk d + 1
  | .slice elems spare => uptoBulkAll elems + uptoBulkAll spare + 1
  | .agg parts => uptoBulkAll parts + 1
  | .iface _ d => uptoBulk d + 1
  | .map entries => uptoBulkEntries entries + 1
  | .held _ => 1
def uptoBulkAll {H : Type} : List (DataW H) → Nat
  | [] => 0
  | d :: r => uptoBulk d + uptoBulkAll r
def uptoBulkEntries {H : Type} : List (Lit × DataW H) → Nat
  | [] => 0
  | x :: r => uptoBulkEntry x + uptoBulkEntries r
def uptoBulkEntry {H : Type} : Lit × DataW H → Nat
  | (.string bytes, d) => bytes.length + uptoBulk d + 1
  | (_, d) => uptoBulk d + 1
 end
def uptoSmall : (H : Type) → List (DataW H) → Bool := fun _ ds => decide (uptoBulkAll ds ≤ 1048576)
def OpenSpec.upto (s : _root_.Go.ChangeSpec) : _root_.Go.OpenSpec := { _root_.Go.OpenSpec.ofChange s with cond := some uptoSmall }

/-- 'pigeonholelaw20.MboxTakes', WHERE WHAT IT READS IS OF BULK AT MOST 1048576: true; the input reads as it did. -/
def mboxTakesUptoRow : OpenClaim := { program := "ytfcdapicemlfgaadoor", sum := "0b41c9c12e4cd6fa632560748edf3279e5d8d824ad2d5f13bc7a07bd36df199d", func := "pigeonhole/pigeonholelaw20.MboxTakes", spec := "mboxTakes", unfollowed := true, recurses := true, named := ["pigeonhole/record.forms"], apart := false, laid := [("pigeonhole/record.forms", laid_pigeonhole_record_forms)], narrowed := true }
def MboxTakesUptoSaid : Prop := mboxTakesUptoRow.holds Tryd.pinned (OpenSpec.upto mboxTakesSpec)

/-- 'pigeonholelaw20.MboxMakes', WHERE WHAT IT READS IS OF BULK AT MOST 1048576: true; the input reads as it did. -/
def mboxMakesUptoRow : OpenClaim := { program := "ytfcdapicemlfgaadoor", sum := "0b41c9c12e4cd6fa632560748edf3279e5d8d824ad2d5f13bc7a07bd36df199d", func := "pigeonhole/pigeonholelaw20.MboxMakes", spec := "mboxMakes", named := ["pigeonhole/record.forms"], apart := false, laid := [("pigeonhole/record.forms", laid_pigeonhole_record_forms)], narrowed := true }
def MboxMakesUptoSaid : Prop := mboxMakesUptoRow.holds Tryd.pinned (OpenSpec.upto mboxMakesSpec)

/-- 'pigeonholelaw20.MboxSums', WHERE WHAT IT READS IS OF BULK AT MOST 1048576: true; the input reads as it did. -/
def mboxSumsUptoRow : OpenClaim := { program := "ytfcdapicemlfgaadoor", sum := "0b41c9c12e4cd6fa632560748edf3279e5d8d824ad2d5f13bc7a07bd36df199d", func := "pigeonhole/pigeonholelaw20.MboxSums", spec := "mboxSums", unfollowed := true, recurses := true, named := ["pigeonhole/record.forms"], apart := false, laid := [("pigeonhole/record.forms", laid_pigeonhole_record_forms)], narrowed := true }
def MboxSumsUptoSaid : Prop := mboxSumsUptoRow.holds Tryd.pinned (OpenSpec.upto mboxSumsSpec)

/-- 'pigeonholelaw20.MboxBack', WHERE WHAT IT READS IS OF BULK AT MOST 1048576: true; the input reads as it did. -/
def mboxBackUptoRow : OpenClaim := { program := "ytfcdapicemlfgaadoor", sum := "0b41c9c12e4cd6fa632560748edf3279e5d8d824ad2d5f13bc7a07bd36df199d", func := "pigeonhole/pigeonholelaw20.MboxBack", spec := "mboxBack", inPlace := ["maps.clone"], unfollowed := true, recurses := true, named := ["pigeonhole/record.forms"], apart := false, laid := [("pigeonhole/record.forms", laid_pigeonhole_record_forms)], narrowed := true }
def MboxBackUptoSaid : Prop := mboxBackUptoRow.holds Tryd.pinned (OpenSpec.upto mboxBackSpec)

end Rows
end Go.Proofs.YtfcdapicemlfgaaDoor
