/- Proved: whatever comes in, fuseelaw14.BasePlays returns true, and each argument reads as it read before. No condition. -/
import Derived.Test.YtabmjaioejacaaaRows
import Derived.Test.YtabmjaioejacaaaL14PRow
import Derived.Test.YtabmjaioejacaaaFlt
import Derived.WalkKit
import Derived.ProofKit
import Derived.OpenShut
import Derived.ShutString
import Derived.ChangeOld
import Derived.Below
import Derived.Lib.SmallJoins
namespace Go.Proofs.Ytabmjaioejacaaa.basePlays
open Go.ChangeShapes Go.WideShapes Go.ChangeAt Go.RowKit
open Go.ChangeMaps (open_string shut_string)
set_option linter.unusedVariables false

theorem own : ownKnob Try.prog.godebug = none := by kernel_rfl
theorem laidOut : laidOutB Try.prog = true := by kernel_rfl

theorem arr_of3 {cs : Array Value} {u0 u1 u2 : Value} (h : cs.size = 3) (h0 : cs[0]? = some u0) (h1 : cs[1]? = some u1) (h2 : cs[2]? = some u2) : cs = #[u0, u1, u2] := by
  rcases cs with ⟨l⟩
  match l, h with
  | [b0, b1, b2], _ =>
    simp only [List.getElem?_toArray, List.getElem?_cons_zero, List.getElem?_cons_succ, Option.some.injEq] at h0 h1 h2
    subst h0 h1 h2
    rfl

set_option maxRecDepth 100000 in
theorem contract (H : Type) (enc : TypeId × Value → H) (W : World) (base : Nat) (args : Array Value) (ds gs : List (DataW H)) (before : List MemPlace)
    (hval : ∀ (j : Nat) t v, Try.f3.params[j]? = some t → args[j]? = some v → Value.okWide Try.prog W .any base t v)
    (hW : DataW.Whole enc Try.prog Try.f3.params.toList Rows.basePlaysSpec.vars false W args.toList ds gs before) :
    Calls Try.prog 3 args W fun e W' => ∃ v, e = .returned v ∧ Rows.basePlaysSpec.post enc Try.prog Try.f3 false true false false W args v W' := by
  have hW' := hW
  obtain ⟨p, q, hA0, hV, rfl, hfz, hnd⟩ := hW
  have hA : DataW.TrodAll enc Try.prog W 0 (fun _ => true) true Try.f3.params.toList args.toList ds p := hA0
  rw [Try.params3] at hA hval
  obtain ⟨v0, vs0, d0, ds0, p0, q0, hargs, rfl, rfl, h0, r0'⟩ := trodAll_cons hA
  obtain ⟨v1, vs1, d1, ds1, p1, q1, rfl, rfl, rfl, h1, r1'⟩ := trodAll_cons r0'
  obtain ⟨rfl, rfl, rfl⟩ := trodAll_nil r1'
  obtain rfl : args = #[v0, v1] := by cases args; simp_all
  obtain ⟨rfl, rfl⟩ := trodVars_none hV
  have k0 := h0
  have lt0 : ∀ x ∈ p0, x.block < W.heap.size := by obtain ⟨m, hm⟩ := k0; exact DataW.trod_lt m _ _ _ hm
  have k1 := h1
  have lt1 : ∀ x ∈ p1, x.block < W.heap.size := by obtain ⟨m, hm⟩ := k1; exact DataW.trod_lt m _ _ _ hm
  obtain ⟨x0, len0, cap0, rfl⟩ := okWide_slice Try.underlying22 (hval 0 22 v0 rfl rfl)
  obtain ⟨V0, r0, l0⟩ : ∃ V : Nat → Nat → Value, SRow 9 W x0 len0 cap0 V ∧ ∀ i, i < cap0 → ∀ j l, j < 9 → leafAt Try.prog 8 31 j = some l → l.is (V i j) := by
    obtain ⟨fuel, hf⟩ := h0
    exact open_rows (n := 8) Try.underlying22 (by kernel_rfl) (by simpa [Value.cells] using hf)
  obtain ⟨cs1, rfl, hsz1, hlf1⟩ := open_flat_arr (n := 8) (K := 3) Try.underlying23 (by kernel_rfl) (hval 1 23 v1 rfl rfl) h1
  obtain ⟨u1_0, hu1_0, a1_0, rfl, w1_0⟩ := hlf1 0 (.int .i64) (by kernel_rfl)
  obtain ⟨u1_1, hu1_1, a1_1, rfl, w1_1⟩ := hlf1 1 (.int .i64) (by kernel_rfl)
  obtain ⟨u1_2, hu1_2, a1_2, rfl, w1_2⟩ := hlf1 2 (.int .i64) (by kernel_rfl)
  obtain rfl := arr_of3 hsz1 hu1_0 hu1_1 hu1_2
  clear hA0
  refine (lplays14_row x0 len0 cap0 V0 a1_0 a1_1 a1_2 W r0 l0).mono fun e W' ⟨he, bel⟩ => ?_
  subst he
  exact ⟨_, rfl, _, _, _, [], _, [], hW', trodAll_mk1 (shut_bool Try.underlying4 _), (trodAll_cons_mk (Below.trod laidOut (by kernel_rfl) (of_decide_eq_true (by kernel_rfl)) k0 bel lt0) (trodAll_cons_mk (Below.trod laidOut (by kernel_rfl) (of_decide_eq_true (by kernel_rfl)) k1 bel lt1) trodAll_mk0)), rfl, bel.frame _, fun h => by cases h⟩

set_option maxRecDepth 100000 in
theorem lifted (os : Os) (started : os.Started) (H : Type) (enc : TypeId × Value → H) :
    ReturnsInHanded {} Try.checked os 3 .any (Rows.basePlaysSpec.pre6 enc Try.prog Try.f3 Rows.basePlaysRow.domain false) (Rows.basePlaysSpec.post enc Try.prog Try.f3 false true false false) := by
  refine returnsInHanded_of_change (C := Try.checked) own started (by kernel_rfl) Try.func3
    (ChangeSpec.witness6 (enc := enc) (C := Try.checked) false ⟨#[], #[.slice none 0 0, .agg #[.int .i64 0, .int .i64 0, .int .i64 0]], []⟩ 8 (by kernel_rfl) (by kernel_rfl) (by kernel_rfl) (by kernel_rfl)) ?_
  intro W base args ds gs before hval hW hcnd _
  exact contract H enc W base args ds gs before hval hW

theorem over : Rows.basePlaysRow.holds Try.pinned (OpenSpec.ofChange Rows.basePlaysSpec) :=
  OpenClaim.holds_of_wide 3 Try.f3 rfl rfl rfl rfl rfl rfl rfl ⟨rfl, rfl, rfl, rfl, rfl⟩ rfl rfl rfl rfl rfl (by kernel_rfl) Try.func3 (by kernel_rfl)
    (of_decide_eq_true (by kernel_rfl)) (by unfold Func.isWrapper; first | (rw [if_pos (by decide +kernel)]; kernel_rfl) | (rw [if_neg (by decide +kernel)]; exact ⟨rfl, rfl⟩))
    (fun os started H enc _ => lifted os started H enc)
end Go.Proofs.Ytabmjaioejacaaa.basePlays
namespace Go.Proofs.Ytabmjaioejacaaa
theorem basePlays_holds : Rows.BasePlaysSaid := basePlays.over
#print axioms basePlays_holds
end Go.Proofs.Ytabmjaioejacaaa
