/-
  No cell of these rows narrows 'for every input' (looked for: loops, veiled, ifaces, maps, wideKeys, modest, calm, conditions, laid).
  DERIVED. THE GIVEN ROWS OF THIS SEAT. 3 by the template 'for every input the law returns true; each argument reads behind the call as it read before'; 0 by the template 'total and deterministic' (their statements: YtojmcegcimjagaaTotals.lean).
  GIVEN WITH THE SEED: the statements are not yours to turn. If you find one false, say at which input.
  Laid BY PROGRAM, IN A SANDBOX (cutbox-rows.mjs): the forced cells as the released guide's own fill.sh prints them over the translation 3c3e0b7fe164491a… (all of the seat's roots in one cut). By AI agents, Wed Nov 11 2026. No macro, syntax, notation, axiom, sorry.
-/
import Derived.Test.YtojmcegcimjagaaChecked
import GoSem.Claim
import GoSem.ClaimJoined
import GoSem.ClaimMapViews
import Derived.JoinedTies
import Derived.KernelRfl
namespace Go.Proofs.Ytojmcegcimjagaa
/- THE CELL 'sum', in the pinned program and in every row, IS THE sha256 OF THE DUMP (.gsa) THAT YtojmcegcimjagaaProg.lean LOADS. Nothing in Lean hashes anything: it is a label: what it is worth is what the hold of that sum in a sandbox is worth. -/
noncomputable def Try.pinned : Pinned := { name := "ytojmcegcimjagaa", sum := "3c3e0b7fe164491a43ba86e298b78310e68249163088c579564d23616bbdb02d", checked := Try.checked }
namespace Rows
def none {H : Type} : Left H := { results := [], args := [] }

/-- 'pigeonholelaw22.SchedIs': WHATEVER THE INPUT: true; the input reads as it did. -/
def schedIsSpec : ChangeSpec := { name := "schedIs", fn := fun _ => fun
  | [d1, d2, d3, d4, d5, d6, d7] => { results := [.lit (.bool true)], args := [d1, d2, d3, d4, d5, d6, d7] }
  | _ => none }
def schedIsRow : OpenClaim := { program := "ytojmcegcimjagaa", sum := "3c3e0b7fe164491a43ba86e298b78310e68249163088c579564d23616bbdb02d", func := "pigeonhole/pigeonholelaw22.SchedIs", spec := "schedIs", unfollowed := true, recurses := true, apart := false }
def SchedIsSaid : Prop := schedIsRow.holds Try.pinned (OpenSpec.ofChange schedIsSpec)

/-- ITS FALSE NEIGHBOUR: 'it returns false'. Refute it at one input. -/
def schedIsWrong : ChangeSpec := { name := "schedIs", fn := fun _ => fun
  | [d1, d2, d3, d4, d5, d6, d7] => { results := [.lit (.bool false)], args := [d1, d2, d3, d4, d5, d6, d7] }
  | _ => none }
def SchedIsWrongFalsely : Prop := schedIsRow.holds Try.pinned (OpenSpec.ofChange schedIsWrong)

/-- 'pigeonholelaw22.SchedTries': WHATEVER THE INPUT: true; the input reads as it did. -/
def schedTriesSpec : ChangeSpec := { name := "schedTries", fn := fun _ => fun
  | [d1, d2] => { results := [.lit (.bool true)], args := [d1, d2] }
  | _ => none }
def schedTriesRow : OpenClaim := { program := "ytojmcegcimjagaa", sum := "3c3e0b7fe164491a43ba86e298b78310e68249163088c579564d23616bbdb02d", func := "pigeonhole/pigeonholelaw22.SchedTries", spec := "schedTries", unfollowed := true, recurses := true, apart := false }
def SchedTriesSaid : Prop := schedTriesRow.holds Try.pinned (OpenSpec.ofChange schedTriesSpec)

/-- ITS FALSE NEIGHBOUR: 'it returns false'. Refute it at one input. -/
def schedTriesWrong : ChangeSpec := { name := "schedTries", fn := fun _ => fun
  | [d1, d2] => { results := [.lit (.bool false)], args := [d1, d2] }
  | _ => none }
def SchedTriesWrongFalsely : Prop := schedTriesRow.holds Try.pinned (OpenSpec.ofChange schedTriesWrong)

/-- 'pigeonholelaw22.SchedEarliest': WHATEVER THE INPUT: true; the input reads as it did. -/
def schedEarliestSpec : ChangeSpec := { name := "schedEarliest", fn := fun _ => fun
  | [d] => { results := [.lit (.bool true)], args := [d] }
  | _ => none }
def schedEarliestRow : OpenClaim := { program := "ytojmcegcimjagaa", sum := "3c3e0b7fe164491a43ba86e298b78310e68249163088c579564d23616bbdb02d", func := "pigeonhole/pigeonholelaw22.SchedEarliest", spec := "schedEarliest", unfollowed := true, recurses := true, apart := false }
def SchedEarliestSaid : Prop := schedEarliestRow.holds Try.pinned (OpenSpec.ofChange schedEarliestSpec)

/-- ITS FALSE NEIGHBOUR: 'it returns false'. Refute it at one input. -/
def schedEarliestWrong : ChangeSpec := { name := "schedEarliest", fn := fun _ => fun
  | [d] => { results := [.lit (.bool false)], args := [d] }
  | _ => none }
def SchedEarliestWrongFalsely : Prop := schedEarliestRow.holds Try.pinned (OpenSpec.ofChange schedEarliestWrong)

/- THE SECOND FORM. 'bulk': how many values and letters a reading holds, each counted each time it is reached (what is shared counts as often as it is met; a slice's spare places count too). A statement '..UptoSaid' is the law's where the arguments, and the package variables that the reading takes, are together of bulk at most 1048576: NARROWER than '..Said'. Prove '..Said' where nothing that the law and all that it calls make is longer than what came in: it says more and counts as full. Else prove '..UptoSaid'. A law counts once. -/
mutual
def uptoBulk {H : Type} : DataW H → Nat
  | .lit (.string bytes) => bytes.length + 1
  | .lit _ => 1
  | .nil => 1
  | .ptr d => uptoBulk d + 1
  | .slice elems spare => uptoBulkAll elems + uptoBulkAll spare + 1
  | .agg parts => uptoBulkAll parts + 1
  | .iface _ d => uptoBulk d + 1
  | .map entries => uptoBulkEntries entries + 1
  | .held _ => 1
def uptoBulkAll {H : Type} : List (DataW H) → Nat
  | [] => 0
  | d :: r => uptoBulk d + uptoBulkAll r
def uptoBulkEntries {H : Type} : List (Lit × DataW H) → Nat
  | [] => 0
  | x :: r => uptoBulkEntry x + uptoBulkEntries r
def uptoBulkEntry {H : Type} : Lit × DataW H → Nat
  | (.string bytes, d) => bytes.length + uptoBulk d + 1
  | (_, d) => uptoBulk d + 1
 end
def uptoSmall : (H : Type) → List (DataW H) → Bool := fun _ ds => decide (uptoBulkAll ds ≤ 1048576)
def OpenSpec.upto (s : _root_.Go.ChangeSpec) : _root_.Go.OpenSpec := { _root_.Go.OpenSpec.ofChange s with cond := some uptoSmall }

/-- 'pigeonholelaw22.SchedIs', WHERE WHAT IT READS IS OF BULK AT MOST 1048576: true; the input reads as it did. -/
def schedIsUptoRow : OpenClaim := { program := "ytojmcegcimjagaa", sum := "3c3e0b7fe164491a43ba86e298b78310e68249163088c579564d23616bbdb02d", func := "pigeonhole/pigeonholelaw22.SchedIs", spec := "schedIs", unfollowed := true, recurses := true, apart := false, narrowed := true }
def SchedIsUptoSaid : Prop := schedIsUptoRow.holds Try.pinned (OpenSpec.upto schedIsSpec)

/-- 'pigeonholelaw22.SchedTries', WHERE WHAT IT READS IS OF BULK AT MOST 1048576: true; the input reads as it did. -/
def schedTriesUptoRow : OpenClaim := { program := "ytojmcegcimjagaa", sum := "3c3e0b7fe164491a43ba86e298b78310e68249163088c579564d23616bbdb02d", func := "pigeonhole/pigeonholelaw22.SchedTries", spec := "schedTries", unfollowed := true, recurses := true, apart := false, narrowed := true }
def SchedTriesUptoSaid : Prop := schedTriesUptoRow.holds Try.pinned (OpenSpec.upto schedTriesSpec)

/-- 'pigeonholelaw22.SchedEarliest', WHERE WHAT IT READS IS OF BULK AT MOST 1048576: true; the input reads as it did. -/
def schedEarliestUptoRow : OpenClaim := { program := "ytojmcegcimjagaa", sum := "3c3e0b7fe164491a43ba86e298b78310e68249163088c579564d23616bbdb02d", func := "pigeonhole/pigeonholelaw22.SchedEarliest", spec := "schedEarliest", unfollowed := true, recurses := true, apart := false, narrowed := true }
def SchedEarliestUptoSaid : Prop := schedEarliestUptoRow.holds Try.pinned (OpenSpec.upto schedEarliestSpec)

end Rows
end Go.Proofs.Ytojmcegcimjagaa
