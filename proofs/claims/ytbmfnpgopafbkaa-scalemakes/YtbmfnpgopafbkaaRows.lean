/-
  No cell of these rows narrows 'for every input' (looked for: loops, veiled, ifaces, maps, wideKeys, modest, calm, conditions, laid).
  DERIVED. THE GIVEN ROWS OF THIS SEAT. 7 by the template 'for every input the law returns true; each argument reads behind the call as it read before'; 0 by the template 'total and deterministic' (their statements: YtbmfnpgopafbkaaTotals.lean).
  GIVEN WITH THE SEED: the statements are not yours to turn. If you find one false, say at which input.
  Laid BY PROGRAM, IN A SANDBOX (cutbox-rows.mjs): the forced cells as the released guide's own fill.sh prints them over the translation 724050353424428c… (all of the seat's roots in one cut). By AI agents, Wed Nov 11 2026. No macro, syntax, notation, axiom, sorry.
-/
import Derived.Test.YtbmfnpgopafbkaaChecked
import GoSem.Claim
import GoSem.ClaimJoined
import GoSem.ClaimMapViews
import Derived.JoinedTies
import Derived.KernelRfl
namespace Go.Proofs.Ytbmfnpgopafbkaa
/- THE CELL 'sum', in the pinned program and in every row, IS THE sha256 OF THE DUMP (.gsa) THAT YtbmfnpgopafbkaaProg.lean LOADS. Nothing in Lean hashes anything: it is a label: what it is worth is what the hold of that sum in a sandbox is worth. -/
noncomputable def Try.pinned : Pinned := { name := "ytbmfnpgopafbkaa", sum := "724050353424428c1a15153fa582cf9d9f6a01bbde98044b84f93a04eb40ab7c", checked := Try.checked }
namespace Rows
def none {H : Type} : Left H := { results := [], args := [] }

/-- 'fuseelaw03.ForwardTells': WHATEVER THE INPUT: true; the input reads as it did. -/
def forwardTellsSpec : ChangeSpec := { name := "forwardTells", fn := fun _ => fun
  | [d1, d2, d3] => { results := [.lit (.bool true)], args := [d1, d2, d3] }
  | _ => none }
def forwardTellsRow : OpenClaim := { program := "ytbmfnpgopafbkaa", sum := "724050353424428c1a15153fa582cf9d9f6a01bbde98044b84f93a04eb40ab7c", func := "fusee/fuseelaw03.ForwardTells", spec := "forwardTells", apart := false }
def ForwardTellsSaid : Prop := forwardTellsRow.holds Try.pinned (OpenSpec.ofChange forwardTellsSpec)

/-- ITS FALSE NEIGHBOUR: 'it returns false'. Refute it at one input. -/
def forwardTellsWrong : ChangeSpec := { name := "forwardTells", fn := fun _ => fun
  | [d1, d2, d3] => { results := [.lit (.bool false)], args := [d1, d2, d3] }
  | _ => none }
def ForwardTellsWrongFalsely : Prop := forwardTellsRow.holds Try.pinned (OpenSpec.ofChange forwardTellsWrong)

/-- 'fuseelaw03.ForwardNth': WHATEVER THE INPUT: true; the input reads as it did. -/
def forwardNthSpec : ChangeSpec := { name := "forwardNth", fn := fun _ => fun
  | [d1, d2, d3] => { results := [.lit (.bool true)], args := [d1, d2, d3] }
  | _ => none }
def forwardNthRow : OpenClaim := { program := "ytbmfnpgopafbkaa", sum := "724050353424428c1a15153fa582cf9d9f6a01bbde98044b84f93a04eb40ab7c", func := "fusee/fuseelaw03.ForwardNth", spec := "forwardNth", apart := false }
def ForwardNthSaid : Prop := forwardNthRow.holds Try.pinned (OpenSpec.ofChange forwardNthSpec)

/-- ITS FALSE NEIGHBOUR: 'it returns false'. Refute it at one input. -/
def forwardNthWrong : ChangeSpec := { name := "forwardNth", fn := fun _ => fun
  | [d1, d2, d3] => { results := [.lit (.bool false)], args := [d1, d2, d3] }
  | _ => none }
def ForwardNthWrongFalsely : Prop := forwardNthRow.holds Try.pinned (OpenSpec.ofChange forwardNthWrong)

/-- 'fuseelaw03.ForwardLater': WHATEVER THE INPUT: true; the input reads as it did. -/
def forwardLaterSpec : ChangeSpec := { name := "forwardLater", fn := fun _ => fun
  | [d1, d2, d3] => { results := [.lit (.bool true)], args := [d1, d2, d3] }
  | _ => none }
def forwardLaterRow : OpenClaim := { program := "ytbmfnpgopafbkaa", sum := "724050353424428c1a15153fa582cf9d9f6a01bbde98044b84f93a04eb40ab7c", func := "fusee/fuseelaw03.ForwardLater", spec := "forwardLater", apart := false }
def ForwardLaterSaid : Prop := forwardLaterRow.holds Try.pinned (OpenSpec.ofChange forwardLaterSpec)

/-- ITS FALSE NEIGHBOUR: 'it returns false'. Refute it at one input. -/
def forwardLaterWrong : ChangeSpec := { name := "forwardLater", fn := fun _ => fun
  | [d1, d2, d3] => { results := [.lit (.bool false)], args := [d1, d2, d3] }
  | _ => none }
def ForwardLaterWrongFalsely : Prop := forwardLaterRow.holds Try.pinned (OpenSpec.ofChange forwardLaterWrong)

/-- 'fuseelaw04.ScaleNanos': WHATEVER THE INPUT: true; the input reads as it did. -/
def scaleNanosSpec : ChangeSpec := { name := "scaleNanos", fn := fun _ => fun
  | [d1, d2] => { results := [.lit (.bool true)], args := [d1, d2] }
  | _ => none }
def scaleNanosRow : OpenClaim := { program := "ytbmfnpgopafbkaa", sum := "724050353424428c1a15153fa582cf9d9f6a01bbde98044b84f93a04eb40ab7c", func := "fusee/fuseelaw04.ScaleNanos", spec := "scaleNanos", named := ["math/bits.divideError", "math/bits.overflowError"], apart := false }
def ScaleNanosSaid : Prop := scaleNanosRow.holds Try.pinned (OpenSpec.ofChange scaleNanosSpec)

/-- ITS FALSE NEIGHBOUR: 'it returns false'. Refute it at one input. -/
def scaleNanosWrong : ChangeSpec := { name := "scaleNanos", fn := fun _ => fun
  | [d1, d2] => { results := [.lit (.bool false)], args := [d1, d2] }
  | _ => none }
def ScaleNanosWrongFalsely : Prop := scaleNanosRow.holds Try.pinned (OpenSpec.ofChange scaleNanosWrong)

/-- 'fuseelaw04.ScaleCycles': WHATEVER THE INPUT: true; the input reads as it did. -/
def scaleCyclesSpec : ChangeSpec := { name := "scaleCycles", fn := fun _ => fun
  | [d1, d2] => { results := [.lit (.bool true)], args := [d1, d2] }
  | _ => none }
def scaleCyclesRow : OpenClaim := { program := "ytbmfnpgopafbkaa", sum := "724050353424428c1a15153fa582cf9d9f6a01bbde98044b84f93a04eb40ab7c", func := "fusee/fuseelaw04.ScaleCycles", spec := "scaleCycles", named := ["math/bits.divideError", "math/bits.overflowError"], apart := false }
def ScaleCyclesSaid : Prop := scaleCyclesRow.holds Try.pinned (OpenSpec.ofChange scaleCyclesSpec)

/-- ITS FALSE NEIGHBOUR: 'it returns false'. Refute it at one input. -/
def scaleCyclesWrong : ChangeSpec := { name := "scaleCycles", fn := fun _ => fun
  | [d1, d2] => { results := [.lit (.bool false)], args := [d1, d2] }
  | _ => none }
def ScaleCyclesWrongFalsely : Prop := scaleCyclesRow.holds Try.pinned (OpenSpec.ofChange scaleCyclesWrong)

/-- 'fuseelaw04.ScaleMakes': WHATEVER THE INPUT: true; the input reads as it did. -/
def scaleMakesSpec : ChangeSpec := { name := "scaleMakes", fn := fun _ => fun
  | [d] => { results := [.lit (.bool true)], args := [d] }
  | _ => none }
def scaleMakesRow : OpenClaim := { program := "ytbmfnpgopafbkaa", sum := "724050353424428c1a15153fa582cf9d9f6a01bbde98044b84f93a04eb40ab7c", func := "fusee/fuseelaw04.ScaleMakes", spec := "scaleMakes", named := ["math/bits.divideError", "math/bits.overflowError"], apart := false }
def ScaleMakesSaid : Prop := scaleMakesRow.holds Try.pinned (OpenSpec.ofChange scaleMakesSpec)

/-- ITS FALSE NEIGHBOUR: 'it returns false'. Refute it at one input. -/
def scaleMakesWrong : ChangeSpec := { name := "scaleMakes", fn := fun _ => fun
  | [d] => { results := [.lit (.bool false)], args := [d] }
  | _ => none }
def ScaleMakesWrongFalsely : Prop := scaleMakesRow.holds Try.pinned (OpenSpec.ofChange scaleMakesWrong)

/-- 'fuseelaw04.ScaleRises': WHATEVER THE INPUT: true; the input reads as it did. -/
def scaleRisesSpec : ChangeSpec := { name := "scaleRises", fn := fun _ => fun
  | [d1, d2, d3] => { results := [.lit (.bool true)], args := [d1, d2, d3] }
  | _ => none }
def scaleRisesRow : OpenClaim := { program := "ytbmfnpgopafbkaa", sum := "724050353424428c1a15153fa582cf9d9f6a01bbde98044b84f93a04eb40ab7c", func := "fusee/fuseelaw04.ScaleRises", spec := "scaleRises", named := ["math/bits.divideError", "math/bits.overflowError"], apart := false }
def ScaleRisesSaid : Prop := scaleRisesRow.holds Try.pinned (OpenSpec.ofChange scaleRisesSpec)

/-- ITS FALSE NEIGHBOUR: 'it returns false'. Refute it at one input. -/
def scaleRisesWrong : ChangeSpec := { name := "scaleRises", fn := fun _ => fun
  | [d1, d2, d3] => { results := [.lit (.bool false)], args := [d1, d2, d3] }
  | _ => none }
def ScaleRisesWrongFalsely : Prop := scaleRisesRow.holds Try.pinned (OpenSpec.ofChange scaleRisesWrong)

/- THE SECOND FORM. 'bulk': how many values and letters a reading holds, each counted each time it is reached (what is shared counts as often as it is met; a slice's spare places count too). A statement '..UptoSaid' is the law's where the arguments, and the package variables that the reading takes, are together of bulk at most 1048576: NARROWER than '..Said'. Prove '..Said' where nothing that the law and all that it calls make is longer than what came in: it says more and counts as full. Else prove '..UptoSaid'. A law counts once. -/
mutual
def uptoBulk {H : Type} : DataW H → Nat
  | .lit (.string bytes) => bytes.length + 1
  | .lit _ => 1
  | .nil => 1
  | .ptr d => uptoBulk d + 1
  | .slice elems spare => uptoBulkAll elems + uptoBulkAll spare + 1
  | .agg parts => uptoBulkAll parts + 1
  | .iface _ d => uptoBulk d + 1
  | .map entries => uptoBulkEntries entries + 1
  | .held _ => 1
def uptoBulkAll {H : Type} : List (DataW H) → Nat
  | [] => 0
  | d :: r => uptoBulk d + uptoBulkAll r
def uptoBulkEntries {H : Type} : List (Lit × DataW H) → Nat
  | [] => 0
  | x :: r => uptoBulkEntry x + uptoBulkEntries r
def uptoBulkEntry {H : Type} : Lit × DataW H → Nat
  | (.string bytes, d) => bytes.length + uptoBulk d + 1
  | (_, d) => uptoBulk d + 1
 end
def uptoSmall : (H : Type) → List (DataW H) → Bool := fun _ ds => decide (uptoBulkAll ds ≤ 1048576)
def OpenSpec.upto (s : _root_.Go.ChangeSpec) : _root_.Go.OpenSpec := { _root_.Go.OpenSpec.ofChange s with cond := some uptoSmall }

/-- 'fuseelaw03.ForwardTells', WHERE WHAT IT READS IS OF BULK AT MOST 1048576: true; the input reads as it did. -/
def forwardTellsUptoRow : OpenClaim := { program := "ytbmfnpgopafbkaa", sum := "724050353424428c1a15153fa582cf9d9f6a01bbde98044b84f93a04eb40ab7c", func := "fusee/fuseelaw03.ForwardTells", spec := "forwardTells", apart := false, narrowed := true }
def ForwardTellsUptoSaid : Prop := forwardTellsUptoRow.holds Try.pinned (OpenSpec.upto forwardTellsSpec)

/-- 'fuseelaw03.ForwardNth', WHERE WHAT IT READS IS OF BULK AT MOST 1048576: true; the input reads as it did. -/
def forwardNthUptoRow : OpenClaim := { program := "ytbmfnpgopafbkaa", sum := "724050353424428c1a15153fa582cf9d9f6a01bbde98044b84f93a04eb40ab7c", func := "fusee/fuseelaw03.ForwardNth", spec := "forwardNth", apart := false, narrowed := true }
def ForwardNthUptoSaid : Prop := forwardNthUptoRow.holds Try.pinned (OpenSpec.upto forwardNthSpec)

/-- 'fuseelaw03.ForwardLater', WHERE WHAT IT READS IS OF BULK AT MOST 1048576: true; the input reads as it did. -/
def forwardLaterUptoRow : OpenClaim := { program := "ytbmfnpgopafbkaa", sum := "724050353424428c1a15153fa582cf9d9f6a01bbde98044b84f93a04eb40ab7c", func := "fusee/fuseelaw03.ForwardLater", spec := "forwardLater", apart := false, narrowed := true }
def ForwardLaterUptoSaid : Prop := forwardLaterUptoRow.holds Try.pinned (OpenSpec.upto forwardLaterSpec)

/-- 'fuseelaw04.ScaleNanos', WHERE WHAT IT READS IS OF BULK AT MOST 1048576: true; the input reads as it did. -/
def scaleNanosUptoRow : OpenClaim := { program := "ytbmfnpgopafbkaa", sum := "724050353424428c1a15153fa582cf9d9f6a01bbde98044b84f93a04eb40ab7c", func := "fusee/fuseelaw04.ScaleNanos", spec := "scaleNanos", named := ["math/bits.divideError", "math/bits.overflowError"], apart := false, narrowed := true }
def ScaleNanosUptoSaid : Prop := scaleNanosUptoRow.holds Try.pinned (OpenSpec.upto scaleNanosSpec)

/-- 'fuseelaw04.ScaleCycles', WHERE WHAT IT READS IS OF BULK AT MOST 1048576: true; the input reads as it did. -/
def scaleCyclesUptoRow : OpenClaim := { program := "ytbmfnpgopafbkaa", sum := "724050353424428c1a15153fa582cf9d9f6a01bbde98044b84f93a04eb40ab7c", func := "fusee/fuseelaw04.ScaleCycles", spec := "scaleCycles", named := ["math/bits.divideError", "math/bits.overflowError"], apart := false, narrowed := true }
def ScaleCyclesUptoSaid : Prop := scaleCyclesUptoRow.holds Try.pinned (OpenSpec.upto scaleCyclesSpec)

/-- 'fuseelaw04.ScaleMakes', WHERE WHAT IT READS IS OF BULK AT MOST 1048576: true; the input reads as it did. -/
def scaleMakesUptoRow : OpenClaim := { program := "ytbmfnpgopafbkaa", sum := "724050353424428c1a15153fa582cf9d9f6a01bbde98044b84f93a04eb40ab7c", func := "fusee/fuseelaw04.ScaleMakes", spec := "scaleMakes", named := ["math/bits.divideError", "math/bits.overflowError"], apart := false, narrowed := true }
def ScaleMakesUptoSaid : Prop := scaleMakesUptoRow.holds Try.pinned (OpenSpec.upto scaleMakesSpec)

/-- 'fuseelaw04.ScaleRises', WHERE WHAT IT READS IS OF BULK AT MOST 1048576: true; the input reads as it did. -/
def scaleRisesUptoRow : OpenClaim := { program := "ytbmfnpgopafbkaa", sum := "724050353424428c1a15153fa582cf9d9f6a01bbde98044b84f93a04eb40ab7c", func := "fusee/fuseelaw04.ScaleRises", spec := "scaleRises", named := ["math/bits.divideError", "math/bits.overflowError"], apart := false, narrowed := true }
def ScaleRisesUptoSaid : Prop := scaleRisesUptoRow.holds Try.pinned (OpenSpec.upto scaleRisesSpec)

end Rows
end Go.Proofs.Ytbmfnpgopafbkaa
