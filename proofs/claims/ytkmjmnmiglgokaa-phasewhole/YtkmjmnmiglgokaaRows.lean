/-
  No cell of these rows narrows 'for every input' (looked for: loops, veiled, ifaces, maps, wideKeys, modest, calm, conditions, laid).
  DERIVED. THE GIVEN ROWS OF THIS SEAT. 8 by the template 'for every input the law returns true; each argument reads behind the call as it read before'; 0 by the template 'total and deterministic' (their statements: YtkmjmnmiglgokaaTotals.lean).
  GIVEN WITH THE SEED: the statements are not yours to turn. If you find one false, say at which input.
  Laid BY PROGRAM, IN A SANDBOX (cutbox-rows.mjs): the forced cells as the released guide's own fill.sh prints them over the translation 2b168ff18e0b4589… (all of the seat's roots in one cut). By AI agents, Wed Nov 11 2026. No macro, syntax, notation, axiom, sorry.
-/
import Derived.Test.YtkmjmnmiglgokaaChecked
import GoSem.Claim
import GoSem.ClaimJoined
import GoSem.ClaimMapViews
import Derived.JoinedTies
import Derived.KernelRfl
namespace Go.Proofs.Ytkmjmnmiglgokaa
/- THE CELL 'sum', in the pinned program and in every row, IS THE sha256 OF THE DUMP (.gsa) THAT YtkmjmnmiglgokaaProg.lean LOADS. Nothing in Lean hashes anything: it is a label: what it is worth is what the hold of that sum in a sandbox is worth. -/
noncomputable def Try.pinned : Pinned := { name := "ytkmjmnmiglgokaa", sum := "2b168ff18e0b4589fbf62d8ee4b18b32c1e4ed3041d18b6d2dbc2579ec2ae2bf", checked := Try.checked }
namespace Rows
def none {H : Type} : Left H := { results := [], args := [] }

/-- 'fuseelaw05.PhaseWhole': WHATEVER THE INPUT: true; the input reads as it did. -/
def phaseWholeSpec : ChangeSpec := { name := "phaseWhole", fn := fun _ => fun
  | [d1, d2, d3] => { results := [.lit (.bool true)], args := [d1, d2, d3] }
  | _ => none }
def phaseWholeRow : OpenClaim := { program := "ytkmjmnmiglgokaa", sum := "2b168ff18e0b4589fbf62d8ee4b18b32c1e4ed3041d18b6d2dbc2579ec2ae2bf", func := "fusee/fuseelaw05.PhaseWhole", spec := "phaseWhole", apart := false }
def PhaseWholeSaid : Prop := phaseWholeRow.holds Try.pinned (OpenSpec.ofChange phaseWholeSpec)

/-- ITS FALSE NEIGHBOUR: 'it returns false'. Refute it at one input. -/
def phaseWholeWrong : ChangeSpec := { name := "phaseWhole", fn := fun _ => fun
  | [d1, d2, d3] => { results := [.lit (.bool false)], args := [d1, d2, d3] }
  | _ => none }
def PhaseWholeWrongFalsely : Prop := phaseWholeRow.holds Try.pinned (OpenSpec.ofChange phaseWholeWrong)

/-- 'fuseelaw05.PhaseMuls': WHATEVER THE INPUT: true; the input reads as it did. -/
def phaseMulsSpec : ChangeSpec := { name := "phaseMuls", fn := fun _ => fun
  | [d1, d2, d3, d4] => { results := [.lit (.bool true)], args := [d1, d2, d3, d4] }
  | _ => none }
def phaseMulsRow : OpenClaim := { program := "ytkmjmnmiglgokaa", sum := "2b168ff18e0b4589fbf62d8ee4b18b32c1e4ed3041d18b6d2dbc2579ec2ae2bf", func := "fusee/fuseelaw05.PhaseMuls", spec := "phaseMuls", apart := false }
def PhaseMulsSaid : Prop := phaseMulsRow.holds Try.pinned (OpenSpec.ofChange phaseMulsSpec)

/-- ITS FALSE NEIGHBOUR: 'it returns false'. Refute it at one input. -/
def phaseMulsWrong : ChangeSpec := { name := "phaseMuls", fn := fun _ => fun
  | [d1, d2, d3, d4] => { results := [.lit (.bool false)], args := [d1, d2, d3, d4] }
  | _ => none }
def PhaseMulsWrongFalsely : Prop := phaseMulsRow.holds Try.pinned (OpenSpec.ofChange phaseMulsWrong)

/-- 'fuseelaw05.PhaseWalks': WHATEVER THE INPUT: true; the input reads as it did. -/
def phaseWalksSpec : ChangeSpec := { name := "phaseWalks", fn := fun _ => fun
  | [d] => { results := [.lit (.bool true)], args := [d] }
  | _ => none }
def phaseWalksRow : OpenClaim := { program := "ytkmjmnmiglgokaa", sum := "2b168ff18e0b4589fbf62d8ee4b18b32c1e4ed3041d18b6d2dbc2579ec2ae2bf", func := "fusee/fuseelaw05.PhaseWalks", spec := "phaseWalks", apart := false }
def PhaseWalksSaid : Prop := phaseWalksRow.holds Try.pinned (OpenSpec.ofChange phaseWalksSpec)

/-- ITS FALSE NEIGHBOUR: 'it returns false'. Refute it at one input. -/
def phaseWalksWrong : ChangeSpec := { name := "phaseWalks", fn := fun _ => fun
  | [d] => { results := [.lit (.bool false)], args := [d] }
  | _ => none }
def PhaseWalksWrongFalsely : Prop := phaseWalksRow.holds Try.pinned (OpenSpec.ofChange phaseWalksWrong)

/-- 'fuseelaw05.PhaseTurns': WHATEVER THE INPUT: true; the input reads as it did. -/
def phaseTurnsSpec : ChangeSpec := { name := "phaseTurns", fn := fun _ => fun
  | [d1, d2] => { results := [.lit (.bool true)], args := [d1, d2] }
  | _ => none }
def phaseTurnsRow : OpenClaim := { program := "ytkmjmnmiglgokaa", sum := "2b168ff18e0b4589fbf62d8ee4b18b32c1e4ed3041d18b6d2dbc2579ec2ae2bf", func := "fusee/fuseelaw05.PhaseTurns", spec := "phaseTurns", apart := false }
def PhaseTurnsSaid : Prop := phaseTurnsRow.holds Try.pinned (OpenSpec.ofChange phaseTurnsSpec)

/-- ITS FALSE NEIGHBOUR: 'it returns false'. Refute it at one input. -/
def phaseTurnsWrong : ChangeSpec := { name := "phaseTurns", fn := fun _ => fun
  | [d1, d2] => { results := [.lit (.bool false)], args := [d1, d2] }
  | _ => none }
def PhaseTurnsWrongFalsely : Prop := phaseTurnsRow.holds Try.pinned (OpenSpec.ofChange phaseTurnsWrong)

/-- 'fuseelaw06.TreePlays': WHATEVER THE INPUT: true; the input reads as it did. -/
def treePlaysSpec : ChangeSpec := { name := "treePlays", fn := fun _ => fun
  | [d1, d2, d3] => { results := [.lit (.bool true)], args := [d1, d2, d3] }
  | _ => none }
def treePlaysRow : OpenClaim := { program := "ytkmjmnmiglgokaa", sum := "2b168ff18e0b4589fbf62d8ee4b18b32c1e4ed3041d18b6d2dbc2579ec2ae2bf", func := "fusee/fuseelaw06.TreePlays", spec := "treePlays", recurses := true, apart := false }
def TreePlaysSaid : Prop := treePlaysRow.holds Try.pinned (OpenSpec.ofChange treePlaysSpec)

/-- ITS FALSE NEIGHBOUR: 'it returns false'. Refute it at one input. -/
def treePlaysWrong : ChangeSpec := { name := "treePlays", fn := fun _ => fun
  | [d1, d2, d3] => { results := [.lit (.bool false)], args := [d1, d2, d3] }
  | _ => none }
def TreePlaysWrongFalsely : Prop := treePlaysRow.holds Try.pinned (OpenSpec.ofChange treePlaysWrong)

/-- 'fuseelaw06.TreeSorts': WHATEVER THE INPUT: true; the input reads as it did. -/
def treeSortsSpec : ChangeSpec := { name := "treeSorts", fn := fun _ => fun
  | [d] => { results := [.lit (.bool true)], args := [d] }
  | _ => none }
def treeSortsRow : OpenClaim := { program := "ytkmjmnmiglgokaa", sum := "2b168ff18e0b4589fbf62d8ee4b18b32c1e4ed3041d18b6d2dbc2579ec2ae2bf", func := "fusee/fuseelaw06.TreeSorts", spec := "treeSorts", apart := false }
def TreeSortsSaid : Prop := treeSortsRow.holds Try.pinned (OpenSpec.ofChange treeSortsSpec)

/-- ITS FALSE NEIGHBOUR: 'it returns false'. Refute it at one input. -/
def treeSortsWrong : ChangeSpec := { name := "treeSorts", fn := fun _ => fun
  | [d] => { results := [.lit (.bool false)], args := [d] }
  | _ => none }
def TreeSortsWrongFalsely : Prop := treeSortsRow.holds Try.pinned (OpenSpec.ofChange treeSortsWrong)

/-- 'fuseelaw06.TreeHandles': WHATEVER THE INPUT: true; the input reads as it did. -/
def treeHandlesSpec : ChangeSpec := { name := "treeHandles", fn := fun _ => fun
  | [d1, d2, d3] => { results := [.lit (.bool true)], args := [d1, d2, d3] }
  | _ => none }
def treeHandlesRow : OpenClaim := { program := "ytkmjmnmiglgokaa", sum := "2b168ff18e0b4589fbf62d8ee4b18b32c1e4ed3041d18b6d2dbc2579ec2ae2bf", func := "fusee/fuseelaw06.TreeHandles", spec := "treeHandles", apart := false }
def TreeHandlesSaid : Prop := treeHandlesRow.holds Try.pinned (OpenSpec.ofChange treeHandlesSpec)

/-- ITS FALSE NEIGHBOUR: 'it returns false'. Refute it at one input. -/
def treeHandlesWrong : ChangeSpec := { name := "treeHandles", fn := fun _ => fun
  | [d1, d2, d3] => { results := [.lit (.bool false)], args := [d1, d2, d3] }
  | _ => none }
def TreeHandlesWrongFalsely : Prop := treeHandlesRow.holds Try.pinned (OpenSpec.ofChange treeHandlesWrong)

/-- 'fuseelaw06.TreeAt': WHATEVER THE INPUT: true; the input reads as it did. -/
def treeAtSpec : ChangeSpec := { name := "treeAt", fn := fun _ => fun
  | [d1, d2] => { results := [.lit (.bool true)], args := [d1, d2] }
  | _ => none }
def treeAtRow : OpenClaim := { program := "ytkmjmnmiglgokaa", sum := "2b168ff18e0b4589fbf62d8ee4b18b32c1e4ed3041d18b6d2dbc2579ec2ae2bf", func := "fusee/fuseelaw06.TreeAt", spec := "treeAt", recurses := true, apart := false }
def TreeAtSaid : Prop := treeAtRow.holds Try.pinned (OpenSpec.ofChange treeAtSpec)

/-- ITS FALSE NEIGHBOUR: 'it returns false'. Refute it at one input. -/
def treeAtWrong : ChangeSpec := { name := "treeAt", fn := fun _ => fun
  | [d1, d2] => { results := [.lit (.bool false)], args := [d1, d2] }
  | _ => none }
def TreeAtWrongFalsely : Prop := treeAtRow.holds Try.pinned (OpenSpec.ofChange treeAtWrong)

/- THE SECOND FORM. 'bulk': how many values and letters a reading holds, each counted each time it is reached (what is shared counts as often as it is met; a slice's spare places count too). A statement '..UptoSaid' is the law's where the arguments, and the package variables that the reading takes, are together of bulk at most 1048576: NARROWER than '..Said'. Prove '..Said' where nothing that the law and all that it calls make is longer than what came in: it says more and counts as full. Else prove '..UptoSaid'. A law counts once. -/
mutual
def uptoBulk {H : Type} : DataW H → Nat
  | .lit (.string bytes) => bytes.length + 1
  | .lit _ => 1
  | .nil => 1
  | .ptr d => uptoBulk d + 1
  | .slice elems spare => uptoBulkAll elems + uptoBulkAll spare + 1
  | .agg parts => uptoBulkAll parts + 1
  | .iface _ d => uptoBulk d + 1
  | .map entries => uptoBulkEntries entries + 1
  | .held _ => 1
def uptoBulkAll {H : Type} : List (DataW H) → Nat
  | [] => 0
  | d :: r => uptoBulk d + uptoBulkAll r
def uptoBulkEntries {H : Type} : List (Lit × DataW H) → Nat
  | [] => 0
  | x :: r => uptoBulkEntry x + uptoBulkEntries r
def uptoBulkEntry {H : Type} : Lit × DataW H → Nat
  | (.string bytes, d) => bytes.length + uptoBulk d + 1
  | (_, d) => uptoBulk d + 1
 end
def uptoSmall : (H : Type) → List (DataW H) → Bool := fun _ ds => decide (uptoBulkAll ds ≤ 1048576)
def OpenSpec.upto (s : _root_.Go.ChangeSpec) : _root_.Go.OpenSpec := { _root_.Go.OpenSpec.ofChange s with cond := some uptoSmall }

/-- 'fuseelaw05.PhaseWhole', WHERE WHAT IT READS IS OF BULK AT MOST 1048576: true; the input reads as it did. -/
def phaseWholeUptoRow : OpenClaim := { program := "ytkmjmnmiglgokaa", sum := "2b168ff18e0b4589fbf62d8ee4b18b32c1e4ed3041d18b6d2dbc2579ec2ae2bf", func := "fusee/fuseelaw05.PhaseWhole", spec := "phaseWhole", apart := false, narrowed := true }
def PhaseWholeUptoSaid : Prop := phaseWholeUptoRow.holds Try.pinned (OpenSpec.upto phaseWholeSpec)

/-- 'fuseelaw05.PhaseMuls', WHERE WHAT IT READS IS OF BULK AT MOST 1048576: true; the input reads as it did. -/
def phaseMulsUptoRow : OpenClaim := { program := "ytkmjmnmiglgokaa", sum := "2b168ff18e0b4589fbf62d8ee4b18b32c1e4ed3041d18b6d2dbc2579ec2ae2bf", func := "fusee/fuseelaw05.PhaseMuls", spec := "phaseMuls", apart := false, narrowed := true }
def PhaseMulsUptoSaid : Prop := phaseMulsUptoRow.holds Try.pinned (OpenSpec.upto phaseMulsSpec)

/-- 'fuseelaw05.PhaseWalks', WHERE WHAT IT READS IS OF BULK AT MOST 1048576: true; the input reads as it did. -/
def phaseWalksUptoRow : OpenClaim := { program := "ytkmjmnmiglgokaa", sum := "2b168ff18e0b4589fbf62d8ee4b18b32c1e4ed3041d18b6d2dbc2579ec2ae2bf", func := "fusee/fuseelaw05.PhaseWalks", spec := "phaseWalks", apart := false, narrowed := true }
def PhaseWalksUptoSaid : Prop := phaseWalksUptoRow.holds Try.pinned (OpenSpec.upto phaseWalksSpec)

/-- 'fuseelaw05.PhaseTurns', WHERE WHAT IT READS IS OF BULK AT MOST 1048576: true; the input reads as it did. -/
def phaseTurnsUptoRow : OpenClaim := { program := "ytkmjmnmiglgokaa", sum := "2b168ff18e0b4589fbf62d8ee4b18b32c1e4ed3041d18b6d2dbc2579ec2ae2bf", func := "fusee/fuseelaw05.PhaseTurns", spec := "phaseTurns", apart := false, narrowed := true }
def PhaseTurnsUptoSaid : Prop := phaseTurnsUptoRow.holds Try.pinned (OpenSpec.upto phaseTurnsSpec)

/-- 'fuseelaw06.TreePlays', WHERE WHAT IT READS IS OF BULK AT MOST 1048576: true; the input reads as it did. -/
def treePlaysUptoRow : OpenClaim := { program := "ytkmjmnmiglgokaa", sum := "2b168ff18e0b4589fbf62d8ee4b18b32c1e4ed3041d18b6d2dbc2579ec2ae2bf", func := "fusee/fuseelaw06.TreePlays", spec := "treePlays", recurses := true, apart := false, narrowed := true }
def TreePlaysUptoSaid : Prop := treePlaysUptoRow.holds Try.pinned (OpenSpec.upto treePlaysSpec)

/-- 'fuseelaw06.TreeSorts', WHERE WHAT IT READS IS OF BULK AT MOST 1048576: true; the input reads as it did. -/
def treeSortsUptoRow : OpenClaim := { program := "ytkmjmnmiglgokaa", sum := "2b168ff18e0b4589fbf62d8ee4b18b32c1e4ed3041d18b6d2dbc2579ec2ae2bf", func := "fusee/fuseelaw06.TreeSorts", spec := "treeSorts", apart := false, narrowed := true }
def TreeSortsUptoSaid : Prop := treeSortsUptoRow.holds Try.pinned (OpenSpec.upto treeSortsSpec)

/-- 'fuseelaw06.TreeHandles', WHERE WHAT IT READS IS OF BULK AT MOST 1048576: true; the input reads as it did. -/
def treeHandlesUptoRow : OpenClaim := { program := "ytkmjmnmiglgokaa", sum := "2b168ff18e0b4589fbf62d8ee4b18b32c1e4ed3041d18b6d2dbc2579ec2ae2bf", func := "fusee/fuseelaw06.TreeHandles", spec := "treeHandles", apart := false, narrowed := true }
def TreeHandlesUptoSaid : Prop := treeHandlesUptoRow.holds Try.pinned (OpenSpec.upto treeHandlesSpec)

/-- 'fuseelaw06.TreeAt', WHERE WHAT IT READS IS OF BULK AT MOST 1048576: true; the input reads as it did. -/
def treeAtUptoRow : OpenClaim := { program := "ytkmjmnmiglgokaa", sum := "2b168ff18e0b4589fbf62d8ee4b18b32c1e4ed3041d18b6d2dbc2579ec2ae2bf", func := "fusee/fuseelaw06.TreeAt", spec := "treeAt", recurses := true, apart := false, narrowed := true }
def TreeAtUptoSaid : Prop := treeAtUptoRow.holds Try.pinned (OpenSpec.upto treeAtSpec)

end Rows
end Go.Proofs.Ytkmjmnmiglgokaa
