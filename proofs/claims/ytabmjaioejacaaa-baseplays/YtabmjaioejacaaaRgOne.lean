/- One more record in a row of one's own, and where the row lies. -/
import Derived.Test.YtabmjaioejacaaaRgStep
import Derived.Deep.AppendLies
namespace Go.Proofs.Ytabmjaioejacaaa
open Go.RowKit
set_option linter.unusedVariables false
section
variable {P : Program} {α : Type}
/-- One more record, out of a box that was made just now: and where the new row lies. -/
theorem rlist_one (R : Rec P α) {ops : Array Oper} {rest : List Oper} {o : Oper} {a : Act} {w0 : World} {Q : Exit → Act → World → Prop} (hg : o.guard = none) (s x : Operand)
    (hop : o.op = .call { callee := .builtin .append, args := #[s, x], argTypes := #[R.ty, R.ty] }) (D : Nat) (v : Value) (L : List α) (hs : a.eval s = v) (hown : Rg R w0 D v L) (y : α) (cs : Array Value) (hcs : cs.toList = R.c y)
    (G : Nat) (hG : w0.heap.size = G) (hx : a.eval x = .slice (some ⟨G, 0, none⟩) 1 1) (hl : L.length ≤ 20000) (hD : D ≤ G)
    (h : ∀ g cap w', Rg R w' D (.slice (some ⟨g, 0, none⟩) (L.length + 1) cap) (L ++ [y]) → w0.grownBy w' v.ownBlock → (v.ownBlock = some g ∨ g = G + 1) → wpList P ops Q rest (a.put o.dst (.slice (some ⟨g, 0, none⟩) (L.length + 1) cap)) w') :
    wpList P ops Q (o :: rest) a (w0.alloc (.cells cs R.e)) := by
  obtain ⟨i0, hi0, hz0, hz1, hz2⟩ := R.info
  have hb := R.hb
  have hm : (L.length + 1) * R.bytes ≤ 20001 * 1000 := Nat.mul_le_mul (by omega) hb
  have hn := rnews_box R (Blk.new_at w0 R.e cs hG.symm) hcs
  obtain ⟨n1, n2, n3⟩ := hn
  have hcl : (R.c y).length = R.K := R.len y
  have e1 : R.row [y] = R.c y := by unfold Rec.row; simp
  refine wpList_append_lies _ hg s x R.ty hop D R.e i0 R.z R.K R.bytes R.und hi0 hz0 hz1 hz2 R.hz R.pos v L.length (R.row L) hs (World.ownsRow.alloc hown _) ⟨G, 0, none⟩ 1 1 (R.row [y]) hx (by rw [R.row_len]; rfl) ?_ (R.row_one [y]) (by decide) (by unfold maxLen; omega) (by omega) (by simp; omega) (G + 1) (by simp [hG]) ?_
  · intro j u hu
    rcases n3 with ⟨q, -⟩ | ⟨ad, c, q, hc⟩
    · cases q
    · cases q; exact hc j u hu
  · intro g cap w' h1 h2 h3 _
    refine h g cap w' ?_ ((World.grownBy_alloc w0 _ _).trans h2) h3
    unfold Rg
    rw [List.length_append, R.row_app]
    exact h1
end
end Go.Proofs.Ytabmjaioejacaaa
