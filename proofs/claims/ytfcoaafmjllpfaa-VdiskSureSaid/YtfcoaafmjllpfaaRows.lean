/-
  No cell of these rows narrows 'for every input' (looked for: loops, veiled, ifaces, maps, wideKeys, modest, calm, conditions, laid).
  DERIVED. THE GIVEN ROWS OF THIS SEAT. 3 by the template 'for every input the law returns true; each argument reads behind the call as it read before'; 0 by the template 'total and deterministic' (their statements: YtfcoaafmjllpfaaTotals.lean).
  GIVEN WITH THE SEED: the statements are not yours to turn. If you find one false, say at which input.
  Laid BY PROGRAM, IN A SANDBOX (cutbox-rows.mjs): the forced cells as the released guide's own fill.sh prints them over the translation 2d874990e351e320… (all of the seat's roots in one cut). By AI agents, Wed Nov 11 2026. No macro, syntax, notation, axiom, sorry.
-/
import Derived.Test.YtfcoaafmjllpfaaChecked
import GoSem.Claim
import GoSem.ClaimJoined
import GoSem.ClaimMapViews
import Derived.JoinedTies
import Derived.KernelRfl
namespace Go.Proofs.Ytfcoaafmjllpfaa
/- THE CELL 'sum', in the pinned program and in every row, IS THE sha256 OF THE DUMP (.gsa) THAT YtfcoaafmjllpfaaProg.lean LOADS. Nothing in Lean hashes anything: it is a label: what it is worth is what the hold of that sum in a sandbox is worth. -/
noncomputable def Try.pinned : Pinned := { name := "ytfcoaafmjllpfaa", sum := "2d874990e351e320ed739fad16bcaea312069344f96950e31e594e11e09e9b81", checked := Try.checked }
namespace Rows
def none {H : Type} : Left H := { results := [], args := [] }

/-- 'pigeonholelaw04.VdiskReads': WHATEVER THE INPUT: true; the input reads as it did. -/
def vdiskReadsSpec : ChangeSpec := { name := "vdiskReads", fn := fun _ => fun
  | [d1, d2, d3, d4] => { results := [.lit (.bool true)], args := [d1, d2, d3, d4] }
  | _ => none }
def vdiskReadsRow : OpenClaim := { program := "ytfcoaafmjllpfaa", sum := "2d874990e351e320ed739fad16bcaea312069344f96950e31e594e11e09e9b81", func := "pigeonhole/pigeonholelaw04.VdiskReads", spec := "vdiskReads", inPlace := ["maps.clone"], unfollowed := true, recurses := true, apart := false }
def VdiskReadsSaid : Prop := vdiskReadsRow.holds Try.pinned (OpenSpec.ofChange vdiskReadsSpec)

/-- ITS FALSE NEIGHBOUR: 'it returns false'. Refute it at one input. -/
def vdiskReadsWrong : ChangeSpec := { name := "vdiskReads", fn := fun _ => fun
  | [d1, d2, d3, d4] => { results := [.lit (.bool false)], args := [d1, d2, d3, d4] }
  | _ => none }
def VdiskReadsWrongFalsely : Prop := vdiskReadsRow.holds Try.pinned (OpenSpec.ofChange vdiskReadsWrong)

/-- 'pigeonholelaw04.VdiskSure': WHATEVER THE INPUT: true; the input reads as it did. -/
def vdiskSureSpec : ChangeSpec := { name := "vdiskSure", fn := fun _ => fun
  | [d1, d2, d3, d4, d5] => { results := [.lit (.bool true)], args := [d1, d2, d3, d4, d5] }
  | _ => none }
def vdiskSureRow : OpenClaim := { program := "ytfcoaafmjllpfaa", sum := "2d874990e351e320ed739fad16bcaea312069344f96950e31e594e11e09e9b81", func := "pigeonhole/pigeonholelaw04.VdiskSure", spec := "vdiskSure", inPlace := ["maps.clone"], unfollowed := true, recurses := true, apart := false }
def VdiskSureSaid : Prop := vdiskSureRow.holds Try.pinned (OpenSpec.ofChange vdiskSureSpec)

/-- ITS FALSE NEIGHBOUR: 'it returns false'. Refute it at one input. -/
def vdiskSureWrong : ChangeSpec := { name := "vdiskSure", fn := fun _ => fun
  | [d1, d2, d3, d4, d5] => { results := [.lit (.bool false)], args := [d1, d2, d3, d4, d5] }
  | _ => none }
def VdiskSureWrongFalsely : Prop := vdiskSureRow.holds Try.pinned (OpenSpec.ofChange vdiskSureWrong)

/-- 'pigeonholelaw04.VdiskSwaps': WHATEVER THE INPUT: true; the input reads as it did. -/
def vdiskSwapsSpec : ChangeSpec := { name := "vdiskSwaps", fn := fun _ => fun
  | [d1, d2, d3, d4, d5] => { results := [.lit (.bool true)], args := [d1, d2, d3, d4, d5] }
  | _ => none }
def vdiskSwapsRow : OpenClaim := { program := "ytfcoaafmjllpfaa", sum := "2d874990e351e320ed739fad16bcaea312069344f96950e31e594e11e09e9b81", func := "pigeonhole/pigeonholelaw04.VdiskSwaps", spec := "vdiskSwaps", inPlace := ["maps.clone"], unfollowed := true, recurses := true, apart := false }
def VdiskSwapsSaid : Prop := vdiskSwapsRow.holds Try.pinned (OpenSpec.ofChange vdiskSwapsSpec)

/-- ITS FALSE NEIGHBOUR: 'it returns false'. Refute it at one input. -/
def vdiskSwapsWrong : ChangeSpec := { name := "vdiskSwaps", fn := fun _ => fun
  | [d1, d2, d3, d4, d5] => { results := [.lit (.bool false)], args := [d1, d2, d3, d4, d5] }
  | _ => none }
def VdiskSwapsWrongFalsely : Prop := vdiskSwapsRow.holds Try.pinned (OpenSpec.ofChange vdiskSwapsWrong)

/- THE SECOND FORM. 'bulk': how many values and letters a reading holds, each counted each time it is reached (what is shared counts as often as it is met; a slice's spare places count too). A statement '..UptoSaid' is the law's where the arguments, and the package variables that the reading takes, are together of bulk at most 1048576: NARROWER than '..Said'. Prove '..Said' where nothing that the law and all that it calls make is longer than what came in: it says more and counts as full. Else prove '..UptoSaid'. A law counts once. -/
mutual
def uptoBulk {H : Type} : DataW H → Nat
  | .lit (.string bytes) => bytes.length + 1
  | .lit _ => 1
  | .nil => 1
  | .ptr d => uptoBulk d + 1
  | .slice elems spare => uptoBulkAll elems + uptoBulkAll spare + 1
  | .agg parts => uptoBulkAll parts + 1
  | .iface _ d => uptoBulk d + 1
  | .map entries => uptoBulkEntries entries + 1
  | .held _ => 1
def uptoBulkAll {H : Type} : List (DataW H) → Nat
  | [] => 0
  | d :: r => uptoBulk d + uptoBulkAll r
def uptoBulkEntries {H : Type} : List (Lit × DataW H) → Nat
  | [] => 0
  | x :: r => uptoBulkEntry x + uptoBulkEntries r
def uptoBulkEntry {H : Type} : Lit × DataW H → Nat
  | (.string bytes, d) => bytes.length + uptoBulk d + 1
  | (_, d) => uptoBulk d + 1
 end
def uptoSmall : (H : Type) → List (DataW H) → Bool := fun _ ds => decide (uptoBulkAll ds ≤ 1048576)
def OpenSpec.upto (s : _root_.Go.ChangeSpec) : _root_.Go.OpenSpec := { _root_.Go.OpenSpec.ofChange s with cond := some uptoSmall }

/-- 'pigeonholelaw04.VdiskReads', WHERE WHAT IT READS IS OF BULK AT MOST 1048576: true; the input reads as it did. -/
def vdiskReadsUptoRow : OpenClaim := { program := "ytfcoaafmjllpfaa", sum := "2d874990e351e320ed739fad16bcaea312069344f96950e31e594e11e09e9b81", func := "pigeonhole/pigeonholelaw04.VdiskReads", spec := "vdiskReads", inPlace := ["maps.clone"], unfollowed := true, recurses := true, apart := false, narrowed := true }
def VdiskReadsUptoSaid : Prop := vdiskReadsUptoRow.holds Try.pinned (OpenSpec.upto vdiskReadsSpec)

/-- 'pigeonholelaw04.VdiskSure', WHERE WHAT IT READS IS OF BULK AT MOST 1048576: true; the input reads as it did. -/
def vdiskSureUptoRow : OpenClaim := { program := "ytfcoaafmjllpfaa", sum := "2d874990e351e320ed739fad16bcaea312069344f96950e31e594e11e09e9b81", func := "pigeonhole/pigeonholelaw04.VdiskSure", spec := "vdiskSure", inPlace := ["maps.clone"], unfollowed := true, recurses := true, apart := false, narrowed := true }
def VdiskSureUptoSaid : Prop := vdiskSureUptoRow.holds Try.pinned (OpenSpec.upto vdiskSureSpec)

/-- 'pigeonholelaw04.VdiskSwaps', WHERE WHAT IT READS IS OF BULK AT MOST 1048576: true; the input reads as it did. -/
def vdiskSwapsUptoRow : OpenClaim := { program := "ytfcoaafmjllpfaa", sum := "2d874990e351e320ed739fad16bcaea312069344f96950e31e594e11e09e9b81", func := "pigeonhole/pigeonholelaw04.VdiskSwaps", spec := "vdiskSwaps", inPlace := ["maps.clone"], unfollowed := true, recurses := true, apart := false, narrowed := true }
def VdiskSwapsUptoSaid : Prop := vdiskSwapsUptoRow.holds Try.pinned (OpenSpec.upto vdiskSwapsSpec)

end Rows
end Go.Proofs.Ytfcoaafmjllpfaa
