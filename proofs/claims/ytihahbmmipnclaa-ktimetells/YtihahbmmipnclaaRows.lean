/-
  No cell of these rows narrows 'for every input' (looked for: loops, veiled, ifaces, maps, wideKeys, modest, calm, conditions, laid).
  DERIVED. THE GIVEN ROWS OF THIS SEAT. 4 by the template 'for every input the law returns true; each argument reads behind the call as it read before'; 0 by the template 'total and deterministic' (their statements: YtihahbmmipnclaaTotals.lean).
  GIVEN WITH THE SEED: the statements are not yours to turn. If you find one false, say at which input.
  Laid BY PROGRAM, IN A SANDBOX (cutbox-rows.mjs): the forced cells as the released guide's own fill.sh prints them over the translation 22b855b314f681e2… (all of the seat's roots in one cut). By AI agents, Wed Nov 11 2026. No macro, syntax, notation, axiom, sorry.
-/
import Derived.Test.YtihahbmmipnclaaChecked
import GoSem.Claim
import GoSem.ClaimJoined
import GoSem.ClaimMapViews
import Derived.JoinedTies
import Derived.KernelRfl
namespace Go.Proofs.Ytihahbmmipnclaa
/- THE CELL 'sum', in the pinned program and in every row, IS THE sha256 OF THE DUMP (.gsa) THAT YtihahbmmipnclaaProg.lean LOADS. Nothing in Lean hashes anything: it is a label: what it is worth is what the hold of that sum in a sandbox is worth. -/
noncomputable def Try.pinned : Pinned := { name := "ytihahbmmipnclaa", sum := "22b855b314f681e22e340e2b3ac3d720b3c9697b8a7a33f361981ff41ba1dd4b", checked := Try.checked }
namespace Rows
def none {H : Type} : Left H := { results := [], args := [] }

/-- 'fuseelaw01.KtimeTells': WHATEVER THE INPUT: true; the input reads as it did. -/
def ktimeTellsSpec : ChangeSpec := { name := "ktimeTells", fn := fun _ => fun
  | [d1, d2, d3] => { results := [.lit (.bool true)], args := [d1, d2, d3] }
  | _ => none }
def ktimeTellsRow : OpenClaim := { program := "ytihahbmmipnclaa", sum := "22b855b314f681e22e340e2b3ac3d720b3c9697b8a7a33f361981ff41ba1dd4b", func := "fusee/fuseelaw01.KtimeTells", spec := "ktimeTells", apart := false }
def KtimeTellsSaid : Prop := ktimeTellsRow.holds Try.pinned (OpenSpec.ofChange ktimeTellsSpec)

/-- ITS FALSE NEIGHBOUR: 'it returns false'. Refute it at one input. -/
def ktimeTellsWrong : ChangeSpec := { name := "ktimeTells", fn := fun _ => fun
  | [d1, d2, d3] => { results := [.lit (.bool false)], args := [d1, d2, d3] }
  | _ => none }
def KtimeTellsWrongFalsely : Prop := ktimeTellsRow.holds Try.pinned (OpenSpec.ofChange ktimeTellsWrong)

/-- 'fuseelaw01.KtimeOrder': WHATEVER THE INPUT: true; the input reads as it did. -/
def ktimeOrderSpec : ChangeSpec := { name := "ktimeOrder", fn := fun _ => fun
  | [d1, d2, d3] => { results := [.lit (.bool true)], args := [d1, d2, d3] }
  | _ => none }
def ktimeOrderRow : OpenClaim := { program := "ytihahbmmipnclaa", sum := "22b855b314f681e22e340e2b3ac3d720b3c9697b8a7a33f361981ff41ba1dd4b", func := "fusee/fuseelaw01.KtimeOrder", spec := "ktimeOrder", apart := false }
def KtimeOrderSaid : Prop := ktimeOrderRow.holds Try.pinned (OpenSpec.ofChange ktimeOrderSpec)

/-- ITS FALSE NEIGHBOUR: 'it returns false'. Refute it at one input. -/
def ktimeOrderWrong : ChangeSpec := { name := "ktimeOrder", fn := fun _ => fun
  | [d1, d2, d3] => { results := [.lit (.bool false)], args := [d1, d2, d3] }
  | _ => none }
def KtimeOrderWrongFalsely : Prop := ktimeOrderRow.holds Try.pinned (OpenSpec.ofChange ktimeOrderWrong)

/-- 'fuseelaw01.KtimeFirst': WHATEVER THE INPUT: true; the input reads as it did. -/
def ktimeFirstSpec : ChangeSpec := { name := "ktimeFirst", fn := fun _ => fun
  | [d] => { results := [.lit (.bool true)], args := [d] }
  | _ => none }
def ktimeFirstRow : OpenClaim := { program := "ytihahbmmipnclaa", sum := "22b855b314f681e22e340e2b3ac3d720b3c9697b8a7a33f361981ff41ba1dd4b", func := "fusee/fuseelaw01.KtimeFirst", spec := "ktimeFirst", apart := false }
def KtimeFirstSaid : Prop := ktimeFirstRow.holds Try.pinned (OpenSpec.ofChange ktimeFirstSpec)

/-- ITS FALSE NEIGHBOUR: 'it returns false'. Refute it at one input. -/
def ktimeFirstWrong : ChangeSpec := { name := "ktimeFirst", fn := fun _ => fun
  | [d] => { results := [.lit (.bool false)], args := [d] }
  | _ => none }
def KtimeFirstWrongFalsely : Prop := ktimeFirstRow.holds Try.pinned (OpenSpec.ofChange ktimeFirstWrong)

/-- 'fuseelaw01.KtimeBack': WHATEVER THE INPUT: true; the input reads as it did. -/
def ktimeBackSpec : ChangeSpec := { name := "ktimeBack", fn := fun _ => fun
  | [d1, d2, d3] => { results := [.lit (.bool true)], args := [d1, d2, d3] }
  | _ => none }
def ktimeBackRow : OpenClaim := { program := "ytihahbmmipnclaa", sum := "22b855b314f681e22e340e2b3ac3d720b3c9697b8a7a33f361981ff41ba1dd4b", func := "fusee/fuseelaw01.KtimeBack", spec := "ktimeBack", apart := false }
def KtimeBackSaid : Prop := ktimeBackRow.holds Try.pinned (OpenSpec.ofChange ktimeBackSpec)

/-- ITS FALSE NEIGHBOUR: 'it returns false'. Refute it at one input. -/
def ktimeBackWrong : ChangeSpec := { name := "ktimeBack", fn := fun _ => fun
  | [d1, d2, d3] => { results := [.lit (.bool false)], args := [d1, d2, d3] }
  | _ => none }
def KtimeBackWrongFalsely : Prop := ktimeBackRow.holds Try.pinned (OpenSpec.ofChange ktimeBackWrong)

/- THE SECOND FORM. 'bulk': how many values and letters a reading holds, each counted each time it is reached (what is shared counts as often as it is met; a slice's spare places count too). A statement '..UptoSaid' is the law's where the arguments, and the package variables that the reading takes, are together of bulk at most 1048576: NARROWER than '..Said'. Prove '..Said' where nothing that the law and all that it calls make is longer than what came in: it says more and counts as full. Else prove '..UptoSaid'. A law counts once. -/
mutual
def uptoBulk {H : Type} : DataW H → Nat
  | .lit (.string bytes) => bytes.length + 1
  | .lit _ => 1
  | .nil => 1
  | .ptr d => uptoBulk d + 1
  | .slice elems spare => uptoBulkAll elems + uptoBulkAll spare + 1
  | .agg parts => uptoBulkAll parts + 1
  | .iface _ d => uptoBulk d + 1
  | .map entries => uptoBulkEntries entries + 1
  | .held _ => 1
def uptoBulkAll {H : Type} : List (DataW H) → Nat
  | [] => 0
  | d :: r => uptoBulk d + uptoBulkAll r
def uptoBulkEntries {H : Type} : List (Lit × DataW H) → Nat
  | [] => 0
  | x :: r => uptoBulkEntry x + uptoBulkEntries r
def uptoBulkEntry {H : Type} : Lit × DataW H → Nat
  | (.string bytes, d) => bytes.length + uptoBulk d + 1
  | (_, d) => uptoBulk d + 1
 end
def uptoSmall : (H : Type) → List (DataW H) → Bool := fun _ ds => decide (uptoBulkAll ds ≤ 1048576)
def OpenSpec.upto (s : _root_.Go.ChangeSpec) : _root_.Go.OpenSpec := { _root_.Go.OpenSpec.ofChange s with cond := some uptoSmall }

/-- 'fuseelaw01.KtimeTells', WHERE WHAT IT READS IS OF BULK AT MOST 1048576: true; the input reads as it did. -/
def ktimeTellsUptoRow : OpenClaim := { program := "ytihahbmmipnclaa", sum := "22b855b314f681e22e340e2b3ac3d720b3c9697b8a7a33f361981ff41ba1dd4b", func := "fusee/fuseelaw01.KtimeTells", spec := "ktimeTells", apart := false, narrowed := true }
def KtimeTellsUptoSaid : Prop := ktimeTellsUptoRow.holds Try.pinned (OpenSpec.upto ktimeTellsSpec)

/-- 'fuseelaw01.KtimeOrder', WHERE WHAT IT READS IS OF BULK AT MOST 1048576: true; the input reads as it did. -/
def ktimeOrderUptoRow : OpenClaim := { program := "ytihahbmmipnclaa", sum := "22b855b314f681e22e340e2b3ac3d720b3c9697b8a7a33f361981ff41ba1dd4b", func := "fusee/fuseelaw01.KtimeOrder", spec := "ktimeOrder", apart := false, narrowed := true }
def KtimeOrderUptoSaid : Prop := ktimeOrderUptoRow.holds Try.pinned (OpenSpec.upto ktimeOrderSpec)

/-- 'fuseelaw01.KtimeFirst', WHERE WHAT IT READS IS OF BULK AT MOST 1048576: true; the input reads as it did. -/
def ktimeFirstUptoRow : OpenClaim := { program := "ytihahbmmipnclaa", sum := "22b855b314f681e22e340e2b3ac3d720b3c9697b8a7a33f361981ff41ba1dd4b", func := "fusee/fuseelaw01.KtimeFirst", spec := "ktimeFirst", apart := false, narrowed := true }
def KtimeFirstUptoSaid : Prop := ktimeFirstUptoRow.holds Try.pinned (OpenSpec.upto ktimeFirstSpec)

/-- 'fuseelaw01.KtimeBack', WHERE WHAT IT READS IS OF BULK AT MOST 1048576: true; the input reads as it did. -/
def ktimeBackUptoRow : OpenClaim := { program := "ytihahbmmipnclaa", sum := "22b855b314f681e22e340e2b3ac3d720b3c9697b8a7a33f361981ff41ba1dd4b", func := "fusee/fuseelaw01.KtimeBack", spec := "ktimeBack", apart := false, narrowed := true }
def KtimeBackUptoSaid : Prop := ktimeBackUptoRow.holds Try.pinned (OpenSpec.upto ktimeBackSpec)

end Rows
end Go.Proofs.Ytihahbmmipnclaa
