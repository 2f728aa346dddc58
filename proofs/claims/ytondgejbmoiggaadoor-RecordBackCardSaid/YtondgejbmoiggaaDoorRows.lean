/-
  NARROWER THAN 'FOR EVERY INPUT', by the rows' own cells (each row's printed sentence says how): RecordWrites: laid · RecordReads: laid · RecordScans: laid · RecordBack: laid.
  DERIVED. THE GIVEN ROWS OF THIS SEAT. 4 by the template 'for every input the law returns true; each argument reads behind the call as it read before'; 0 by the template 'total and deterministic' (their statements: YtondgejbmoiggaaDoorTotals.lean).
  GIVEN WITH THE SEED: the statements are not yours to turn. If you find one false, say at which input.
  Laid BY PROGRAM, IN A SANDBOX (cutbox-rows.mjs): the forced cells as the released guide's own fill.sh prints them over the translation 6b33378739c1e638… (all of the seat's roots in one cut). By AI agents, Wed Nov 11 2026. No macro, syntax, notation, axiom, sorry.
-/
import Derived.Test.YtondgejbmoiggaaDoorChecked
import GoSem.Claim
import GoSem.ClaimJoined
import GoSem.ClaimMapViews
import Derived.JoinedTies
import Derived.KernelRfl
namespace Go.Proofs.YtondgejbmoiggaaDoor
/- THE CELL 'sum', in the pinned program and in every row, IS THE sha256 OF THE DUMP (.gsa) THAT YtondgejbmoiggaaDoorProg.lean LOADS. Nothing in Lean hashes anything: it is a label: what it is worth is what the hold of that sum in a sandbox is worth. -/
noncomputable def Tryd.pinned : Pinned := { name := "ytondgejbmoiggaadoor", sum := "6b33378739c1e638e0573b81d6a0cdb2e781448a87697c185f28e2aa96cd5440", checked := Tryd.checked }
namespace Rows
def none {H : Type} : Left H := { results := [], args := [] }

/- WHAT THE LISTED PACKAGE-LEVEL VARIABLES READ AS WHEN THE CALL BEGINS. Each datum BY PROGRAM (the guide's laid-datum.mjs) off the statement by which the dump's own 'gosem.cut.vars' lays the variable. In a bare row this is a premise. The card (YtondgejbmoiggaaDoorCards.lean) ties it to the program's text. -/
def laid_pigeonhole_crc_halves {H : Type} : DataW H := .agg [.lit (.int .u32 0), .lit (.int .u32 498536548), .lit (.int .u32 997073096), .lit (.int .u32 651767980), .lit (.int .u32 1994146192), .lit (.int .u32 1802195444), .lit (.int .u32 1303535960), .lit (.int .u32 1342533948), .lit (.int .u32 3988292384), .lit (.int .u32 4027552580), .lit (.int .u32 3604390888), .lit (.int .u32 3412177804), .lit (.int .u32 2607071920), .lit (.int .u32 2262029012), .lit (.int .u32 2685067896), .lit (.int .u32 3183342108)]
def laid_pigeonhole_record_forms {H : Type} : DataW H := .agg [.agg [.lit (.int .i64 2), .lit (.int .i64 1), .lit (.int .i64 999)], .agg [.lit (.int .i64 4), .lit (.int .i64 1), .lit (.int .i64 2147483648)], .agg [.lit (.int .i64 4), .lit (.int .i64 1), .lit (.int .i64 2147483649)], .agg [.lit (.int .i64 4), .lit (.int .i64 0), .lit (.int .i64 2147483648)], .agg [.lit (.int .i64 4), .lit (.int .i64 1), .lit (.int .i64 2147483648)], .agg [.lit (.int .i64 8), .lit (.int .i64 0), .lit (.int .i64 4503599627370496)], .agg [.lit (.int .i64 1), .lit (.int .i64 0), .lit (.int .i64 31)], .agg [.lit (.int .i64 4), .lit (.int .i64 1), .lit (.int .i64 2147483648)], .agg [.lit (.int .i64 4), .lit (.int .i64 0), .lit (.int .i64 32768)], .agg [.lit (.int .i64 8), .lit (.int .i64 0), .lit (.int .i64 9007199254740992)]]

/-- 'pigeonholelaw14.RecordWrites': WHATEVER THE INPUT: true; the input reads as it did. -/
def recordWritesSpec : ChangeSpec := { name := "recordWrites", fn := fun _ => fun
  | [d] => { results := [.lit (.bool true)], args := [d] }
  | _ => none }
def recordWritesRow : OpenClaim := { program := "ytondgejbmoiggaadoor", sum := "6b33378739c1e638e0573b81d6a0cdb2e781448a87697c185f28e2aa96cd5440", func := "pigeonhole/pigeonholelaw14.RecordWrites", spec := "recordWrites", unfollowed := true, recurses := true, named := ["pigeonhole/record.forms", "pigeonhole/crc.halves"], apart := false, laid := [("pigeonhole/crc.halves", laid_pigeonhole_crc_halves), ("pigeonhole/record.forms", laid_pigeonhole_record_forms)] }
def RecordWritesSaid : Prop := recordWritesRow.holds Tryd.pinned (OpenSpec.ofChange recordWritesSpec)

/-- ITS FALSE NEIGHBOUR: 'it returns false'. Refute it at one input. -/
def recordWritesWrong : ChangeSpec := { name := "recordWrites", fn := fun _ => fun
  | [d] => { results := [.lit (.bool false)], args := [d] }
  | _ => none }
def RecordWritesWrongFalsely : Prop := recordWritesRow.holds Tryd.pinned (OpenSpec.ofChange recordWritesWrong)

/-- 'pigeonholelaw14.RecordReads': WHATEVER THE INPUT: true; the input reads as it did. -/
def recordReadsSpec : ChangeSpec := { name := "recordReads", fn := fun _ => fun
  | [d1, d2] => { results := [.lit (.bool true)], args := [d1, d2] }
  | _ => none }
def recordReadsRow : OpenClaim := { program := "ytondgejbmoiggaadoor", sum := "6b33378739c1e638e0573b81d6a0cdb2e781448a87697c185f28e2aa96cd5440", func := "pigeonhole/pigeonholelaw14.RecordReads", spec := "recordReads", unfollowed := true, recurses := true, named := ["pigeonhole/record.forms", "pigeonhole/crc.halves"], apart := false, laid := [("pigeonhole/crc.halves", laid_pigeonhole_crc_halves), ("pigeonhole/record.forms", laid_pigeonhole_record_forms)] }
def RecordReadsSaid : Prop := recordReadsRow.holds Tryd.pinned (OpenSpec.ofChange recordReadsSpec)

/-- ITS FALSE NEIGHBOUR: 'it returns false'. Refute it at one input. -/
def recordReadsWrong : ChangeSpec := { name := "recordReads", fn := fun _ => fun
  | [d1, d2] => { results := [.lit (.bool false)], args := [d1, d2] }
  | _ => none }
def RecordReadsWrongFalsely : Prop := recordReadsRow.holds Tryd.pinned (OpenSpec.ofChange recordReadsWrong)

/-- 'pigeonholelaw14.RecordScans': WHATEVER THE INPUT: true; the input reads as it did. -/
def recordScansSpec : ChangeSpec := { name := "recordScans", fn := fun _ => fun
  | [d] => { results := [.lit (.bool true)], args := [d] }
  | _ => none }
def recordScansRow : OpenClaim := { program := "ytondgejbmoiggaadoor", sum := "6b33378739c1e638e0573b81d6a0cdb2e781448a87697c185f28e2aa96cd5440", func := "pigeonhole/pigeonholelaw14.RecordScans", spec := "recordScans", unfollowed := true, recurses := true, named := ["pigeonhole/record.forms", "pigeonhole/crc.halves"], apart := false, laid := [("pigeonhole/crc.halves", laid_pigeonhole_crc_halves), ("pigeonhole/record.forms", laid_pigeonhole_record_forms)] }
def RecordScansSaid : Prop := recordScansRow.holds Tryd.pinned (OpenSpec.ofChange recordScansSpec)

/-- ITS FALSE NEIGHBOUR: 'it returns false'. Refute it at one input. -/
def recordScansWrong : ChangeSpec := { name := "recordScans", fn := fun _ => fun
  | [d] => { results := [.lit (.bool false)], args := [d] }
  | _ => none }
def RecordScansWrongFalsely : Prop := recordScansRow.holds Tryd.pinned (OpenSpec.ofChange recordScansWrong)

/-- 'pigeonholelaw14.RecordBack': WHATEVER THE INPUT: true; the input reads as it did. -/
def recordBackSpec : ChangeSpec := { name := "recordBack", fn := fun _ => fun
  | [d1, d2, d3] => { results := [.lit (.bool true)], args := [d1, d2, d3] }
  | _ => none }
def recordBackRow : OpenClaim := { program := "ytondgejbmoiggaadoor", sum := "6b33378739c1e638e0573b81d6a0cdb2e781448a87697c185f28e2aa96cd5440", func := "pigeonhole/pigeonholelaw14.RecordBack", spec := "recordBack", unfollowed := true, recurses := true, named := ["pigeonhole/record.forms", "pigeonhole/crc.halves"], apart := false, laid := [("pigeonhole/crc.halves", laid_pigeonhole_crc_halves), ("pigeonhole/record.forms", laid_pigeonhole_record_forms)] }
def RecordBackSaid : Prop := recordBackRow.holds Tryd.pinned (OpenSpec.ofChange recordBackSpec)

/-- ITS FALSE NEIGHBOUR: 'it returns false'. Refute it at one input. -/
def recordBackWrong : ChangeSpec := { name := "recordBack", fn := fun _ => fun
  | [d1, d2, d3] => { results := [.lit (.bool false)], args := [d1, d2, d3] }
  | _ => none }
def RecordBackWrongFalsely : Prop := recordBackRow.holds Tryd.pinned (OpenSpec.ofChange recordBackWrong)

/- THE SECOND FORM. 'bulk': how many values and letters a reading holds, each counted each time it is reached (what is shared counts as often as it is met; a slice's spare places count too). A statement '..UptoSaid' is the law's where the arguments, and the package variables that the reading takes, are together of bulk at most 1048576: NARROWER than '..Said'. Prove '..Said' where nothing that the law and all that it calls make is longer than what came in: it says more and counts as full. Else prove '..UptoSaid'. A law counts once. -/
mutual
def uptoBulk {H : Type} : DataW H → Nat
  | .lit (.string bytes) => bytes.length + 1
  | .lit _ => 1
  | .nil => 1
  | .ptr d => uptoBulk d + 1
  | .slice elems spare => uptoBulkAll elems + uptoBulkAll spare + 1
  | .agg parts => uptoBulkAll parts + 1
  | .iface _ d => uptoBulk d + 1
  | .map entries => uptoBulkEntries entries + 1
  | .held _ => 1
def uptoBulkAll {H : Type} : List (DataW H) → Nat
  | [] => 0
  | d :: r => uptoBulk d + uptoBulkAll r
def uptoBulkEntries {H : Type} : List (Lit × DataW H) → Nat
  | [] => 0
  | x :: r => uptoBulkEntry x + uptoBulkEntries r
def uptoBulkEntry {H : Type} : Lit × DataW H → Nat
  | (.string bytes, d) => bytes.length + uptoBulk d + 1
  | (_, d) => uptoBulk d + 1
 end
def uptoSmall : (H : Type) → List (DataW H) → Bool := fun _ ds => decide (uptoBulkAll ds ≤ 1048576)
def OpenSpec.upto (s : _root_.Go.ChangeSpec) : _root_.Go.OpenSpec := { _root_.Go.OpenSpec.ofChange s with cond := some uptoSmall }

/-- 'pigeonholelaw14.RecordWrites', WHERE WHAT IT READS IS OF BULK AT MOST 1048576: true; the input reads as it did. -/
def recordWritesUptoRow : OpenClaim := { program := "ytondgejbmoiggaadoor", sum := "6b33378739c1e638e0573b81d6a0cdb2e781448a87697c185f28e2aa96cd5440", func := "pigeonhole/pigeonholelaw14.RecordWrites", spec := "recordWrites", unfollowed := true, recurses := true, named := ["pigeonhole/record.forms", "pigeonhole/crc.halves"], apart := false, laid := [("pigeonhole/crc.halves", laid_pigeonhole_crc_halves), ("pigeonhole/record.forms", laid_pigeonhole_record_forms)], narrowed := true }
def RecordWritesUptoSaid : Prop := recordWritesUptoRow.holds Tryd.pinned (OpenSpec.upto recordWritesSpec)

/-- 'pigeonholelaw14.RecordReads', WHERE WHAT IT READS IS OF BULK AT MOST 1048576: true; the input reads as it did. -/
def recordReadsUptoRow : OpenClaim := { program := "ytondgejbmoiggaadoor", sum := "6b33378739c1e638e0573b81d6a0cdb2e781448a87697c185f28e2aa96cd5440", func := "pigeonhole/pigeonholelaw14.RecordReads", spec := "recordReads", unfollowed := true, recurses := true, named := ["pigeonhole/record.forms", "pigeonhole/crc.halves"], apart := false, laid := [("pigeonhole/crc.halves", laid_pigeonhole_crc_halves), ("pigeonhole/record.forms", laid_pigeonhole_record_forms)], narrowed := true }
def RecordReadsUptoSaid : Prop := recordReadsUptoRow.holds Tryd.pinned (OpenSpec.upto recordReadsSpec)

/-- 'pigeonholelaw14.RecordScans', WHERE WHAT IT READS IS OF BULK AT MOST 1048576: true; the input reads as it did. -/
def recordScansUptoRow : OpenClaim := { program := "ytondgejbmoiggaadoor", sum := "6b33378739c1e638e0573b81d6a0cdb2e781448a87697c185f28e2aa96cd5440", func := "pigeonhole/pigeonholelaw14.RecordScans", spec := "recordScans", unfollowed := true, recurses := true, named := ["pigeonhole/record.forms", "pigeonhole/crc.halves"], apart := false, laid := [("pigeonhole/crc.halves", laid_pigeonhole_crc_halves), ("pigeonhole/record.forms", laid_pigeonhole_record_forms)], narrowed := true }
def RecordScansUptoSaid : Prop := recordScansUptoRow.holds Tryd.pinned (OpenSpec.upto recordScansSpec)

/-- 'pigeonholelaw14.RecordBack', WHERE WHAT IT READS IS OF BULK AT MOST 1048576: true; the input reads as it did. -/
def recordBackUptoRow : OpenClaim := { program := "ytondgejbmoiggaadoor", sum := "6b33378739c1e638e0573b81d6a0cdb2e781448a87697c185f28e2aa96cd5440", func := "pigeonhole/pigeonholelaw14.RecordBack", spec := "recordBack", unfollowed := true, recurses := true, named := ["pigeonhole/record.forms", "pigeonhole/crc.halves"], apart := false, laid := [("pigeonhole/crc.halves", laid_pigeonhole_crc_halves), ("pigeonhole/record.forms", laid_pigeonhole_record_forms)], narrowed := true }
def RecordBackUptoSaid : Prop := recordBackUptoRow.holds Tryd.pinned (OpenSpec.upto recordBackSpec)

end Rows
end Go.Proofs.YtondgejbmoiggaaDoor
