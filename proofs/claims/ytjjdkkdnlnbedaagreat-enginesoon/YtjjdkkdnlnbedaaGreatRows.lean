/-
  No cell of these rows narrows 'for every input' (looked for: loops, veiled, ifaces, maps, wideKeys, modest, calm, conditions, laid).
  DERIVED. THE GIVEN ROWS OF THIS SEAT. 5 by the template 'for every input the law returns true; each argument reads behind the call as it read before'; 0 by the template 'total and deterministic' (their statements: YtjjdkkdnlnbedaaGreatTotals.lean).
  GIVEN WITH THE SEED: the statements are not yours to turn. If you find one false, say at which input.
  Laid BY PROGRAM, IN A SANDBOX (cutbox-rows.mjs): the forced cells as the released guide's own fill.sh prints them over the translation 2d3e19cd70061cb2… (all of the seat's roots in one cut). By AI agents, Wed Nov 11 2026. No macro, syntax, notation, axiom, sorry.
-/
import Derived.Test.YtjjdkkdnlnbedaaGreatChecked
import GoSem.Claim
import GoSem.ClaimJoined
import GoSem.ClaimMapViews
import Derived.JoinedTies
import Derived.KernelRfl
namespace Go.Proofs.YtjjdkkdnlnbedaaGreat
/- THE CELL 'sum', in the pinned program and in every row, IS THE sha256 OF THE DUMP (.gsa) THAT YtjjdkkdnlnbedaaGreatProg.lean LOADS. Nothing in Lean hashes anything: it is a label: what it is worth is what the hold of that sum in a sandbox is worth. -/
noncomputable def Tryz.pinned : Pinned := { name := "ytjjdkkdnlnbedaagreat", sum := "2d3e19cd70061cb22184f12ae4973086690044acb5658879b99ee0682bdf68d5", checked := Tryz.checked }
namespace Rows
def none {H : Type} : Left H := { results := [], args := [] }

/-- 'fuseelaw15.EnginePlays': WHATEVER THE INPUT: true; the input reads as it did. -/
def enginePlaysSpec : ChangeSpec := { name := "enginePlays", fn := fun _ => fun
  | [d1, d2, d3, d4] => { results := [.lit (.bool true)], args := [d1, d2, d3, d4] }
  | _ => none }
def enginePlaysRow : OpenClaim := { program := "ytjjdkkdnlnbedaagreat", sum := "2d3e19cd70061cb22184f12ae4973086690044acb5658879b99ee0682bdf68d5", func := "fusee/fuseelaw15.EnginePlays", spec := "enginePlays", unfollowed := true, recurses := true, plainKeys := false, apart := false }
def EnginePlaysSaid : Prop := enginePlaysRow.holds Tryz.pinned (OpenSpec.ofChange enginePlaysSpec)

/-- ITS FALSE NEIGHBOUR: 'it returns false'. Refute it at one input. -/
def enginePlaysWrong : ChangeSpec := { name := "enginePlays", fn := fun _ => fun
  | [d1, d2, d3, d4] => { results := [.lit (.bool false)], args := [d1, d2, d3, d4] }
  | _ => none }
def EnginePlaysWrongFalsely : Prop := enginePlaysRow.holds Tryz.pinned (OpenSpec.ofChange enginePlaysWrong)

/-- 'fuseelaw15.EngineNever': WHATEVER THE INPUT: true; the input reads as it did. -/
def engineNeverSpec : ChangeSpec := { name := "engineNever", fn := fun _ => fun
  | [d1, d2, d3] => { results := [.lit (.bool true)], args := [d1, d2, d3] }
  | _ => none }
def engineNeverRow : OpenClaim := { program := "ytjjdkkdnlnbedaagreat", sum := "2d3e19cd70061cb22184f12ae4973086690044acb5658879b99ee0682bdf68d5", func := "fusee/fuseelaw15.EngineNever", spec := "engineNever", unfollowed := true, recurses := true, plainKeys := false, apart := false }
def EngineNeverSaid : Prop := engineNeverRow.holds Tryz.pinned (OpenSpec.ofChange engineNeverSpec)

/-- ITS FALSE NEIGHBOUR: 'it returns false'. Refute it at one input. -/
def engineNeverWrong : ChangeSpec := { name := "engineNever", fn := fun _ => fun
  | [d1, d2, d3] => { results := [.lit (.bool false)], args := [d1, d2, d3] }
  | _ => none }
def EngineNeverWrongFalsely : Prop := engineNeverRow.holds Tryz.pinned (OpenSpec.ofChange engineNeverWrong)

/-- 'fuseelaw15.EngineKeeps': WHATEVER THE INPUT: true; the input reads as it did. -/
def engineKeepsSpec : ChangeSpec := { name := "engineKeeps", fn := fun _ => fun
  | [d1, d2] => { results := [.lit (.bool true)], args := [d1, d2] }
  | _ => none }
def engineKeepsRow : OpenClaim := { program := "ytjjdkkdnlnbedaagreat", sum := "2d3e19cd70061cb22184f12ae4973086690044acb5658879b99ee0682bdf68d5", func := "fusee/fuseelaw15.EngineKeeps", spec := "engineKeeps", unfollowed := true, recurses := true, plainKeys := false, apart := false }
def EngineKeepsSaid : Prop := engineKeepsRow.holds Tryz.pinned (OpenSpec.ofChange engineKeepsSpec)

/-- ITS FALSE NEIGHBOUR: 'it returns false'. Refute it at one input. -/
def engineKeepsWrong : ChangeSpec := { name := "engineKeeps", fn := fun _ => fun
  | [d1, d2] => { results := [.lit (.bool false)], args := [d1, d2] }
  | _ => none }
def EngineKeepsWrongFalsely : Prop := engineKeepsRow.holds Tryz.pinned (OpenSpec.ofChange engineKeepsWrong)

/-- 'fuseelaw15.EngineArmed': WHATEVER THE INPUT: true; the input reads as it did. -/
def engineArmedSpec : ChangeSpec := { name := "engineArmed", fn := fun _ => fun
  | [d1, d2, d3] => { results := [.lit (.bool true)], args := [d1, d2, d3] }
  | _ => none }
def engineArmedRow : OpenClaim := { program := "ytjjdkkdnlnbedaagreat", sum := "2d3e19cd70061cb22184f12ae4973086690044acb5658879b99ee0682bdf68d5", func := "fusee/fuseelaw15.EngineArmed", spec := "engineArmed", unfollowed := true, recurses := true, plainKeys := false, apart := false }
def EngineArmedSaid : Prop := engineArmedRow.holds Tryz.pinned (OpenSpec.ofChange engineArmedSpec)

/-- ITS FALSE NEIGHBOUR: 'it returns false'. Refute it at one input. -/
def engineArmedWrong : ChangeSpec := { name := "engineArmed", fn := fun _ => fun
  | [d1, d2, d3] => { results := [.lit (.bool false)], args := [d1, d2, d3] }
  | _ => none }
def EngineArmedWrongFalsely : Prop := engineArmedRow.holds Tryz.pinned (OpenSpec.ofChange engineArmedWrong)

/-- 'fuseelaw15.EngineSoon': WHATEVER THE INPUT: true; the input reads as it did. -/
def engineSoonSpec : ChangeSpec := { name := "engineSoon", fn := fun _ => fun
  | [d1, d2, d3, d4] => { results := [.lit (.bool true)], args := [d1, d2, d3, d4] }
  | _ => none }
def engineSoonRow : OpenClaim := { program := "ytjjdkkdnlnbedaagreat", sum := "2d3e19cd70061cb22184f12ae4973086690044acb5658879b99ee0682bdf68d5", func := "fusee/fuseelaw15.EngineSoon", spec := "engineSoon", unfollowed := true, recurses := true, plainKeys := false, apart := false }
def EngineSoonSaid : Prop := engineSoonRow.holds Tryz.pinned (OpenSpec.ofChange engineSoonSpec)

/-- ITS FALSE NEIGHBOUR: 'it returns false'. Refute it at one input. -/
def engineSoonWrong : ChangeSpec := { name := "engineSoon", fn := fun _ => fun
  | [d1, d2, d3, d4] => { results := [.lit (.bool false)], args := [d1, d2, d3, d4] }
  | _ => none }
def EngineSoonWrongFalsely : Prop := engineSoonRow.holds Tryz.pinned (OpenSpec.ofChange engineSoonWrong)

/- THE SECOND FORM. 'bulk': how many values and letters a reading holds, each counted each time it is reached (what is shared counts as often as it is met; a slice's spare places count too). A statement '..UptoSaid' is the law's where the arguments, and the package variables that the reading takes, are together of bulk at most 1048576: NARROWER than '..Said'. Prove '..Said' where nothing that the law and all that it calls make is longer than what came in: it says more and counts as full. Else prove '..UptoSaid'. A law counts once. -/
mutual
def uptoBulk {H : Type} : DataW H → Nat
  | .lit (.string bytes) => bytes.length + 1
  | .lit _ => 1
  | .nil => 1
  | .ptr d => uptoBulk d + 1
  | .slice elems spare => uptoBulkAll elems + uptoBulkAll spare + 1
  | .agg parts => uptoBulkAll parts + 1
  | .iface _ d => uptoBulk d + 1
  | .map entries => uptoBulkEntries entries + 1
  | .held _ => 1
def uptoBulkAll {H : Type} : List (DataW H) → Nat
  | [] => 0
  | d :: r => uptoBulk d + uptoBulkAll r
def uptoBulkEntries {H : Type} : List (Lit × DataW H) → Nat
  | [] => 0
  | x :: r => uptoBulkEntry x + uptoBulkEntries r
def uptoBulkEntry {H : Type} : Lit × DataW H → Nat
  | (.string bytes, d) => bytes.length + uptoBulk d + 1
  | (_, d) => uptoBulk d + 1
 end
def uptoSmall : (H : Type) → List (DataW H) → Bool := fun _ ds => decide (uptoBulkAll ds ≤ 1048576)
def OpenSpec.upto (s : _root_.Go.ChangeSpec) : _root_.Go.OpenSpec := { _root_.Go.OpenSpec.ofChange s with cond := some uptoSmall }

/-- 'fuseelaw15.EnginePlays', WHERE WHAT IT READS IS OF BULK AT MOST 1048576: true; the input reads as it did. -/
def enginePlaysUptoRow : OpenClaim := { program := "ytjjdkkdnlnbedaagreat", sum := "2d3e19cd70061cb22184f12ae4973086690044acb5658879b99ee0682bdf68d5", func := "fusee/fuseelaw15.EnginePlays", spec := "enginePlays", unfollowed := true, recurses := true, plainKeys := false, apart := false, narrowed := true }
def EnginePlaysUptoSaid : Prop := enginePlaysUptoRow.holds Tryz.pinned (OpenSpec.upto enginePlaysSpec)

/-- 'fuseelaw15.EngineNever', WHERE WHAT IT READS IS OF BULK AT MOST 1048576: true; the input reads as it did. -/
def engineNeverUptoRow : OpenClaim := { program := "ytjjdkkdnlnbedaagreat", sum := "2d3e19cd70061cb22184f12ae4973086690044acb5658879b99ee0682bdf68d5", func := "fusee/fuseelaw15.EngineNever", spec := "engineNever", unfollowed := true, recurses := true, plainKeys := false, apart := false, narrowed := true }
def EngineNeverUptoSaid : Prop := engineNeverUptoRow.holds Tryz.pinned (OpenSpec.upto engineNeverSpec)

/-- 'fuseelaw15.EngineKeeps', WHERE WHAT IT READS IS OF BULK AT MOST 1048576: true; the input reads as it did. -/
def engineKeepsUptoRow : OpenClaim := { program := "ytjjdkkdnlnbedaagreat", sum := "2d3e19cd70061cb22184f12ae4973086690044acb5658879b99ee0682bdf68d5", func := "fusee/fuseelaw15.EngineKeeps", spec := "engineKeeps", unfollowed := true, recurses := true, plainKeys := false, apart := false, narrowed := true }
def EngineKeepsUptoSaid : Prop := engineKeepsUptoRow.holds Tryz.pinned (OpenSpec.upto engineKeepsSpec)

/-- 'fuseelaw15.EngineArmed', WHERE WHAT IT READS IS OF BULK AT MOST 1048576: true; the input reads as it did. -/
def engineArmedUptoRow : OpenClaim := { program := "ytjjdkkdnlnbedaagreat", sum := "2d3e19cd70061cb22184f12ae4973086690044acb5658879b99ee0682bdf68d5", func := "fusee/fuseelaw15.EngineArmed", spec := "engineArmed", unfollowed := true, recurses := true, plainKeys := false, apart := false, narrowed := true }
def EngineArmedUptoSaid : Prop := engineArmedUptoRow.holds Tryz.pinned (OpenSpec.upto engineArmedSpec)

/-- 'fuseelaw15.EngineSoon', WHERE WHAT IT READS IS OF BULK AT MOST 1048576: true; the input reads as it did. -/
def engineSoonUptoRow : OpenClaim := { program := "ytjjdkkdnlnbedaagreat", sum := "2d3e19cd70061cb22184f12ae4973086690044acb5658879b99ee0682bdf68d5", func := "fusee/fuseelaw15.EngineSoon", spec := "engineSoon", unfollowed := true, recurses := true, plainKeys := false, apart := false, narrowed := true }
def EngineSoonUptoSaid : Prop := engineSoonUptoRow.holds Tryz.pinned (OpenSpec.upto engineSoonSpec)

end Rows
end Go.Proofs.YtjjdkkdnlnbedaaGreat
