/- A client's view of a base. -/
import Derived.Test.YtabmjaioejacaaaBa4
import Derived.Test.YtabmjaioejacaaaBa7
import Derived.Test.YtabmjaioejacaaaBa12
namespace Go.Proofs.Ytabmjaioejacaaa
open Go.RowKit Kt Qu
set_option linter.unusedVariables false

/-- A base that a law made: all that it touched lies from C on. -/
structure Bv (C : Nat) (w0 w : World) (b n : Nat) (P : Nat → Option Qa) (R : Rows6) : Prop where
  bs : Bs w b n P R
  low : Below C w0 w
  cs : C ≤ w.heap.size
  foot : ∀ k, bfoot b P k → C ≤ k
section
variable {C : Nat} {w0 w w' : World} {b n n' : Nat} {P P' : Nat → Option Qa} {R R' : Rows6}
theorem Bv.step (h : Bv C w0 w b n P R) (h2 : Bs w' b n' P' R') (f : Ft (bfoot b P) w w') (hf : ∀ k, bfoot b P' k → bfoot b P k ∨ w.heap.size ≤ k) : Bv C w0 w' b n' P' R' :=
  ⟨h2, f.low h.low h.foot h.cs, Nat.le_trans h.cs f.size, fun k hk => by
    rcases hf k hk with q | q
    · exact h.foot k q
    · exact Nat.le_trans h.cs q⟩
theorem Bv.step0 (h : Bv C w0 w b n P R) (h2 : Bs w' b n' P R') (f : Ft (bfoot b P) w w') : Bv C w0 w' b n' P R' := h.step h2 f (fun k hk => .inl hk)
theorem Bv.below (h : Bv C w0 w b n P R) (hb : Below w.heap.size w w') : Bv C w0 w' b n P R := h.step0 (h.bs.below hb) (Ft.of_below _ hb)
theorem Bv.new (hb : Below C w0 w) (hC : C ≤ w.heap.size) (hq : Bs w' b n (fun _ => none) R) (h1 : Below w.heap.size w w') (hf : b = w.heap.size) : Bv C w0 w' b n (fun _ => none) R :=
  ⟨hq, hb.trans (h1.mono hC), Nat.le_trans hC h1.size, fun k hk => by
    rcases hk with rfl | ⟨i, hi, hk⟩
    · omega
    · exact hk.elim⟩
theorem cellB {w w' : World} {x : Addr} {v : Value} (hb : Below w.heap.size w w') (hc : w.cell? x = some v) : w'.cell? x = some v := by
  rw [hb.cell (World.block_lt_of_cell? w x hc)]; exact hc
end
theorem okT_small {a b c d : Int} {e : Bool} (ha : -9223372036854775808 ≤ a ∧ a ≤ 9223372036854775807) (hb : -9223372036854775808 ≤ b ∧ b ≤ 9223372036854775807) (hc : -9223372036854775808 ≤ c ∧ c ≤ 9223372036854775807) (hd : -9223372036854775808 ≤ d ∧ d ≤ 9223372036854775807) : okT ⟨a, b, c, d, e⟩ :=
  ⟨isI_of ha.1 ha.2, isI_of hb.1 hb.2, isI_of hc.1 hc.2, isI_of hd.1 hd.2⟩
end Go.Proofs.Ytabmjaioejacaaa
