/-
  NARROWER THAN 'FOR EVERY INPUT', by the rows' own cells (each row's printed sentence says how): FrameWraps: laid · FrameMost: laid · FrameReads: laid · FrameScans: laid · FrameParts: laid · FrameBack: laid · FrameTorn: laid.
  DERIVED. THE GIVEN ROWS OF THIS SEAT. 7 by the template 'for every input the law returns true; each argument reads behind the call as it read before'; 0 by the template 'total and deterministic' (their statements: YtcciiameelabiaaDoorTotals.lean).
  GIVEN WITH THE SEED: the statements are not yours to turn. If you find one false, say at which input.
  Laid BY PROGRAM, IN A SANDBOX (cutbox-rows.mjs): the forced cells as the released guide's own fill.sh prints them over the translation 636c54b4dd2b0aac… (all of the seat's roots in one cut). By AI agents, Wed Nov 11 2026. No macro, syntax, notation, axiom, sorry.
-/
import Derived.Test.YtcciiameelabiaaDoorChecked
import GoSem.Claim
import GoSem.ClaimJoined
import GoSem.ClaimMapViews
import Derived.JoinedTies
import Derived.KernelRfl
namespace Go.Proofs.YtcciiameelabiaaDoor
/- THE CELL 'sum', in the pinned program and in every row, IS THE sha256 OF THE DUMP (.gsa) THAT YtcciiameelabiaaDoorProg.lean LOADS. Nothing in Lean hashes anything: it is a label: what it is worth is what the hold of that sum in a sandbox is worth. -/
noncomputable def Tryd.pinned : Pinned := { name := "ytcciiameelabiaadoor", sum := "636c54b4dd2b0aac12980dad9b26245992e11890b23267e7c9a702aa51534aee", checked := Tryd.checked }
namespace Rows
def none {H : Type} : Left H := { results := [], args := [] }

/- WHAT THE LISTED PACKAGE-LEVEL VARIABLES READ AS WHEN THE CALL BEGINS. Each datum BY PROGRAM (the guide's laid-datum.mjs) off the statement by which the dump's own 'gosem.cut.vars' lays the variable. In a bare row this is a premise. The card (YtcciiameelabiaaDoorCards.lean) ties it to the program's text. -/
def laid_pigeonhole_crc_halves {H : Type} : DataW H := .agg [.lit (.int .u32 0), .lit (.int .u32 498536548), .lit (.int .u32 997073096), .lit (.int .u32 651767980), .lit (.int .u32 1994146192), .lit (.int .u32 1802195444), .lit (.int .u32 1303535960), .lit (.int .u32 1342533948), .lit (.int .u32 3988292384), .lit (.int .u32 4027552580), .lit (.int .u32 3604390888), .lit (.int .u32 3412177804), .lit (.int .u32 2607071920), .lit (.int .u32 2262029012), .lit (.int .u32 2685067896), .lit (.int .u32 3183342108)]

/-- 'pigeonholelaw03.FrameWraps': WHATEVER THE INPUT: true; the input reads as it did. -/
def frameWrapsSpec : ChangeSpec := { name := "frameWraps", fn := fun _ => fun
  | [d1, d2] => { results := [.lit (.bool true)], args := [d1, d2] }
  | _ => none }
def frameWrapsRow : OpenClaim := { program := "ytcciiameelabiaadoor", sum := "636c54b4dd2b0aac12980dad9b26245992e11890b23267e7c9a702aa51534aee", func := "pigeonhole/pigeonholelaw03.FrameWraps", spec := "frameWraps", unfollowed := true, recurses := true, named := ["pigeonhole/crc.halves"], apart := false, laid := [("pigeonhole/crc.halves", laid_pigeonhole_crc_halves)] }
def FrameWrapsSaid : Prop := frameWrapsRow.holds Tryd.pinned (OpenSpec.ofChange frameWrapsSpec)

/-- ITS FALSE NEIGHBOUR: 'it returns false'. Refute it at one input. -/
def frameWrapsWrong : ChangeSpec := { name := "frameWraps", fn := fun _ => fun
  | [d1, d2] => { results := [.lit (.bool false)], args := [d1, d2] }
  | _ => none }
def FrameWrapsWrongFalsely : Prop := frameWrapsRow.holds Tryd.pinned (OpenSpec.ofChange frameWrapsWrong)

/-- 'pigeonholelaw03.FrameMost': WHATEVER THE INPUT: true; the input reads as it did. -/
def frameMostSpec : ChangeSpec := { name := "frameMost", fn := fun _ => fun
  | [d] => { results := [.lit (.bool true)], args := [d] }
  | _ => none }
def frameMostRow : OpenClaim := { program := "ytcciiameelabiaadoor", sum := "636c54b4dd2b0aac12980dad9b26245992e11890b23267e7c9a702aa51534aee", func := "pigeonhole/pigeonholelaw03.FrameMost", spec := "frameMost", unfollowed := true, recurses := true, named := ["pigeonhole/crc.halves"], apart := false, laid := [("pigeonhole/crc.halves", laid_pigeonhole_crc_halves)] }
def FrameMostSaid : Prop := frameMostRow.holds Tryd.pinned (OpenSpec.ofChange frameMostSpec)

/-- ITS FALSE NEIGHBOUR: 'it returns false'. Refute it at one input. -/
def frameMostWrong : ChangeSpec := { name := "frameMost", fn := fun _ => fun
  | [d] => { results := [.lit (.bool false)], args := [d] }
  | _ => none }
def FrameMostWrongFalsely : Prop := frameMostRow.holds Tryd.pinned (OpenSpec.ofChange frameMostWrong)

/-- 'pigeonholelaw03.FrameReads': WHATEVER THE INPUT: true; the input reads as it did. -/
def frameReadsSpec : ChangeSpec := { name := "frameReads", fn := fun _ => fun
  | [d1, d2] => { results := [.lit (.bool true)], args := [d1, d2] }
  | _ => none }
def frameReadsRow : OpenClaim := { program := "ytcciiameelabiaadoor", sum := "636c54b4dd2b0aac12980dad9b26245992e11890b23267e7c9a702aa51534aee", func := "pigeonhole/pigeonholelaw03.FrameReads", spec := "frameReads", unfollowed := true, recurses := true, named := ["pigeonhole/crc.halves"], apart := false, laid := [("pigeonhole/crc.halves", laid_pigeonhole_crc_halves)] }
def FrameReadsSaid : Prop := frameReadsRow.holds Tryd.pinned (OpenSpec.ofChange frameReadsSpec)

/-- ITS FALSE NEIGHBOUR: 'it returns false'. Refute it at one input. -/
def frameReadsWrong : ChangeSpec := { name := "frameReads", fn := fun _ => fun
  | [d1, d2] => { results := [.lit (.bool false)], args := [d1, d2] }
  | _ => none }
def FrameReadsWrongFalsely : Prop := frameReadsRow.holds Tryd.pinned (OpenSpec.ofChange frameReadsWrong)

/-- 'pigeonholelaw03.FrameScans': WHATEVER THE INPUT: true; the input reads as it did. -/
def frameScansSpec : ChangeSpec := { name := "frameScans", fn := fun _ => fun
  | [d] => { results := [.lit (.bool true)], args := [d] }
  | _ => none }
def frameScansRow : OpenClaim := { program := "ytcciiameelabiaadoor", sum := "636c54b4dd2b0aac12980dad9b26245992e11890b23267e7c9a702aa51534aee", func := "pigeonhole/pigeonholelaw03.FrameScans", spec := "frameScans", unfollowed := true, recurses := true, named := ["pigeonhole/crc.halves"], apart := false, laid := [("pigeonhole/crc.halves", laid_pigeonhole_crc_halves)] }
def FrameScansSaid : Prop := frameScansRow.holds Tryd.pinned (OpenSpec.ofChange frameScansSpec)

/-- ITS FALSE NEIGHBOUR: 'it returns false'. Refute it at one input. -/
def frameScansWrong : ChangeSpec := { name := "frameScans", fn := fun _ => fun
  | [d] => { results := [.lit (.bool false)], args := [d] }
  | _ => none }
def FrameScansWrongFalsely : Prop := frameScansRow.holds Tryd.pinned (OpenSpec.ofChange frameScansWrong)

/-- 'pigeonholelaw03.FrameParts': WHATEVER THE INPUT: true; the input reads as it did. -/
def framePartsSpec : ChangeSpec := { name := "frameParts", fn := fun _ => fun
  | [d] => { results := [.lit (.bool true)], args := [d] }
  | _ => none }
def framePartsRow : OpenClaim := { program := "ytcciiameelabiaadoor", sum := "636c54b4dd2b0aac12980dad9b26245992e11890b23267e7c9a702aa51534aee", func := "pigeonhole/pigeonholelaw03.FrameParts", spec := "frameParts", unfollowed := true, recurses := true, named := ["pigeonhole/crc.halves"], apart := false, laid := [("pigeonhole/crc.halves", laid_pigeonhole_crc_halves)] }
def FramePartsSaid : Prop := framePartsRow.holds Tryd.pinned (OpenSpec.ofChange framePartsSpec)

/-- ITS FALSE NEIGHBOUR: 'it returns false'. Refute it at one input. -/
def framePartsWrong : ChangeSpec := { name := "frameParts", fn := fun _ => fun
  | [d] => { results := [.lit (.bool false)], args := [d] }
  | _ => none }
def FramePartsWrongFalsely : Prop := framePartsRow.holds Tryd.pinned (OpenSpec.ofChange framePartsWrong)

/-- 'pigeonholelaw03.FrameBack': WHATEVER THE INPUT: true; the input reads as it did. -/
def frameBackSpec : ChangeSpec := { name := "frameBack", fn := fun _ => fun
  | [d1, d2, d3] => { results := [.lit (.bool true)], args := [d1, d2, d3] }
  | _ => none }
def frameBackRow : OpenClaim := { program := "ytcciiameelabiaadoor", sum := "636c54b4dd2b0aac12980dad9b26245992e11890b23267e7c9a702aa51534aee", func := "pigeonhole/pigeonholelaw03.FrameBack", spec := "frameBack", unfollowed := true, recurses := true, named := ["pigeonhole/crc.halves"], apart := false, laid := [("pigeonhole/crc.halves", laid_pigeonhole_crc_halves)] }
def FrameBackSaid : Prop := frameBackRow.holds Tryd.pinned (OpenSpec.ofChange frameBackSpec)

/-- ITS FALSE NEIGHBOUR: 'it returns false'. Refute it at one input. -/
def frameBackWrong : ChangeSpec := { name := "frameBack", fn := fun _ => fun
  | [d1, d2, d3] => { results := [.lit (.bool false)], args := [d1, d2, d3] }
  | _ => none }
def FrameBackWrongFalsely : Prop := frameBackRow.holds Tryd.pinned (OpenSpec.ofChange frameBackWrong)

/-- 'pigeonholelaw03.FrameTorn': WHATEVER THE INPUT: true; the input reads as it did. -/
def frameTornSpec : ChangeSpec := { name := "frameTorn", fn := fun _ => fun
  | [d1, d2, d3, d4, d5] => { results := [.lit (.bool true)], args := [d1, d2, d3, d4, d5] }
  | _ => none }
def frameTornRow : OpenClaim := { program := "ytcciiameelabiaadoor", sum := "636c54b4dd2b0aac12980dad9b26245992e11890b23267e7c9a702aa51534aee", func := "pigeonhole/pigeonholelaw03.FrameTorn", spec := "frameTorn", unfollowed := true, recurses := true, named := ["pigeonhole/crc.halves"], apart := false, laid := [("pigeonhole/crc.halves", laid_pigeonhole_crc_halves)] }
def FrameTornSaid : Prop := frameTornRow.holds Tryd.pinned (OpenSpec.ofChange frameTornSpec)

/-- ITS FALSE NEIGHBOUR: 'it returns false'. Refute it at one input. -/
def frameTornWrong : ChangeSpec := { name := "frameTorn", fn := fun _ => fun
  | [d1, d2, d3, d4, d5] => { results := [.lit (.bool false)], args := [d1, d2, d3, d4, d5] }
  | _ => none }
def FrameTornWrongFalsely : Prop := frameTornRow.holds Tryd.pinned (OpenSpec.ofChange frameTornWrong)

/- THE SECOND FORM. 'bulk': how many values and letters a reading holds, each counted each time it is reached (what is shared counts as often as it is met; a slice's spare places count too). A statement '..UptoSaid' is the law's where the arguments, and the package variables that the reading takes, are together of bulk at most 1048576: NARROWER than '..Said'. Prove '..Said' where nothing that the law and all that it calls make is longer than what came in: it says more and counts as full. Else prove '..UptoSaid'. A law counts once. -/
mutual
def uptoBulk {H : Type} : DataW H → Nat
  | .lit (.string bytes) => bytes.length + 1
  | .lit _ => 1
  | .nil => 1
  | .ptr d => uptoBulk d + 1
  | .slice elems spare => uptoBulkAll elems + uptoBulkAll spare + 1
  | .agg parts => uptoBulkAll parts + 1
  | .iface _ d => uptoBulk d + 1
  | .map entries => uptoBulkEntries entries + 1
  | .held _ => 1
def uptoBulkAll {H : Type} : List (DataW H) → Nat
  | [] => 0
  | d :: r => uptoBulk d + uptoBulkAll r
def uptoBulkEntries {H : Type} : List (Lit × DataW H) → Nat
  | [] => 0
  | x :: r => uptoBulkEntry x + uptoBulkEntries r
def uptoBulkEntry {H : Type} : Lit × DataW H → Nat
  | (.string bytes, d) => bytes.length + uptoBulk d + 1
  | (_, d) => uptoBulk d + 1
 end
def uptoSmall : (H : Type) → List (DataW H) → Bool := fun _ ds => decide (uptoBulkAll ds ≤ 1048576)
def OpenSpec.upto (s : _root_.Go.ChangeSpec) : _root_.Go.OpenSpec := { _root_.Go.OpenSpec.ofChange s with cond := some uptoSmall }

/-- 'pigeonholelaw03.FrameWraps', WHERE WHAT IT READS IS OF BULK AT MOST 1048576: true; the input reads as it did. -/
def frameWrapsUptoRow : OpenClaim := { program := "ytcciiameelabiaadoor", sum := "636c54b4dd2b0aac12980dad9b26245992e11890b23267e7c9a702aa51534aee", func := "pigeonhole/pigeonholelaw03.FrameWraps", spec := "frameWraps", unfollowed := true, recurses := true, named := ["pigeonhole/crc.halves"], apart := false, laid := [("pigeonhole/crc.halves", laid_pigeonhole_crc_halves)], narrowed := true }
def FrameWrapsUptoSaid : Prop := frameWrapsUptoRow.holds Tryd.pinned (OpenSpec.upto frameWrapsSpec)

/-- 'pigeonholelaw03.FrameMost', WHERE WHAT IT READS IS OF BULK AT MOST 1048576: true; the input reads as it did. -/
def frameMostUptoRow : OpenClaim := { program := "ytcciiameelabiaadoor", sum := "636c54b4dd2b0aac12980dad9b26245992e11890b23267e7c9a702aa51534aee", func := "pigeonhole/pigeonholelaw03.FrameMost", spec := "frameMost", unfollowed := true, recurses := true, named := ["pigeonhole/crc.halves"], apart := false, laid := [("pigeonhole/crc.halves", laid_pigeonhole_crc_halves)], narrowed := true }
def FrameMostUptoSaid : Prop := frameMostUptoRow.holds Tryd.pinned (OpenSpec.upto frameMostSpec)

/-- 'pigeonholelaw03.FrameReads', WHERE WHAT IT READS IS OF BULK AT MOST 1048576: true; the input reads as it did. -/
def frameReadsUptoRow : OpenClaim := { program := "ytcciiameelabiaadoor", sum := "636c54b4dd2b0aac12980dad9b26245992e11890b23267e7c9a702aa51534aee", func := "pigeonhole/pigeonholelaw03.FrameReads", spec := "frameReads", unfollowed := true, recurses := true, named := ["pigeonhole/crc.halves"], apart := false, laid := [("pigeonhole/crc.halves", laid_pigeonhole_crc_halves)], narrowed := true }
def FrameReadsUptoSaid : Prop := frameReadsUptoRow.holds Tryd.pinned (OpenSpec.upto frameReadsSpec)

/-- 'pigeonholelaw03.FrameScans', WHERE WHAT IT READS IS OF BULK AT MOST 1048576: true; the input reads as it did. -/
def frameScansUptoRow : OpenClaim := { program := "ytcciiameelabiaadoor", sum := "636c54b4dd2b0aac12980dad9b26245992e11890b23267e7c9a702aa51534aee", func := "pigeonhole/pigeonholelaw03.FrameScans", spec := "frameScans", unfollowed := true, recurses := true, named := ["pigeonhole/crc.halves"], apart := false, laid := [("pigeonhole/crc.halves", laid_pigeonhole_crc_halves)], narrowed := true }
def FrameScansUptoSaid : Prop := frameScansUptoRow.holds Tryd.pinned (OpenSpec.upto frameScansSpec)

/-- 'pigeonholelaw03.FrameParts', WHERE WHAT IT READS IS OF BULK AT MOST 1048576: true; the input reads as it did. -/
def framePartsUptoRow : OpenClaim := { program := "ytcciiameelabiaadoor", sum := "636c54b4dd2b0aac12980dad9b26245992e11890b23267e7c9a702aa51534aee", func := "pigeonhole/pigeonholelaw03.FrameParts", spec := "frameParts", unfollowed := true, recurses := true, named := ["pigeonhole/crc.halves"], apart := false, laid := [("pigeonhole/crc.halves", laid_pigeonhole_crc_halves)], narrowed := true }
def FramePartsUptoSaid : Prop := framePartsUptoRow.holds Tryd.pinned (OpenSpec.upto framePartsSpec)

/-- 'pigeonholelaw03.FrameBack', WHERE WHAT IT READS IS OF BULK AT MOST 1048576: true; the input reads as it did. -/
def frameBackUptoRow : OpenClaim := { program := "ytcciiameelabiaadoor", sum := "636c54b4dd2b0aac12980dad9b26245992e11890b23267e7c9a702aa51534aee", func := "pigeonhole/pigeonholelaw03.FrameBack", spec := "frameBack", unfollowed := true, recurses := true, named := ["pigeonhole/crc.halves"], apart := false, laid := [("pigeonhole/crc.halves", laid_pigeonhole_crc_halves)], narrowed := true }
def FrameBackUptoSaid : Prop := frameBackUptoRow.holds Tryd.pinned (OpenSpec.upto frameBackSpec)

/-- 'pigeonholelaw03.FrameTorn', WHERE WHAT IT READS IS OF BULK AT MOST 1048576: true; the input reads as it did. -/
def frameTornUptoRow : OpenClaim := { program := "ytcciiameelabiaadoor", sum := "636c54b4dd2b0aac12980dad9b26245992e11890b23267e7c9a702aa51534aee", func := "pigeonhole/pigeonholelaw03.FrameTorn", spec := "frameTorn", unfollowed := true, recurses := true, named := ["pigeonhole/crc.halves"], apart := false, laid := [("pigeonhole/crc.halves", laid_pigeonhole_crc_halves)], narrowed := true }
def FrameTornUptoSaid : Prop := frameTornUptoRow.holds Tryd.pinned (OpenSpec.upto frameTornSpec)

end Rows
end Go.Proofs.YtcciiameelabiaaDoor
