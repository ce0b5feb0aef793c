import Derived.Test.YtjjdkkdnlnbedaaGreatQueD
import Derived.Deep.AppendLies
/- An append in a region that draws, whatever else the world holds; a row as what is appended. -/
namespace Go.Proofs.YtjjdkkdnlnbedaaGreat
open Go.RowKit
set_option linter.unusedVariables false
section
variable {P : Program} {α : Type} (R : Rec P α)
theorem rstep_g {ops : Array Oper} {o : Oper} {a : Act} {w : World} {K : Act → World → Prop} {Q : Exit → Act → World → Prop} {E : Prop}
    (hg : o.guard = none) (s x : Operand) (hop : o.op = .call { callee := .builtin .append, args := #[s, x], argTypes := #[R.ty, R.ty] }) {D : Nat}
    (v : Value) (L : List α) (hs : a.eval s = v) (hown : Rg R w D v L) (M : List α) (hn : News w (a.eval x) M.length R.K (R.row M)) (hl : L.length + M.length ≤ 20000) (hD : D ≤ w.heap.size)
    (hK : ∀ v' w', Rg R w' D v' (L ++ M) → w.grownBy w' v.ownBlock → K (a.put o.dst v') w') :
    if Region.wanted o (yielded ops a.tmps) = true then Oper.wp P o a w K Q else E := by
  obtain ⟨i0, hi0, hz0, hz1, hz2⟩ := R.info
  exact step_app hg s x R.ty hop D R.e i0 R.z R.K R.bytes R.und hi0 hz0 hz1 hz2 R.hz R.pos v L.length (R.row L) hs hown M.length (R.row M) hn (by omega) R.hb hD
    fun v' w' q1 q2 => hK v' w' (by unfold Rg; rw [List.length_append, R.row_app]; exact q1) q2
variable {R} {w w' : World} {C : Nat} {v : Value} {L : List α}
theorem Rg.news (h : Rg R w C v L) : News w v L.length R.K (R.row L) := by
  refine ⟨R.row_len L, R.row_one L, ?_⟩
  rcases h.2 with ⟨h2, h3⟩ | ⟨g, cap, cur, h1, _⟩
  · exact .inl ⟨h2, h3⟩
  · refine .inr ⟨⟨g, 0, none⟩, cap, by rw [h1], fun j u hu => World.ownsRow.cells h (g := g) (by rw [h1]; rfl) j u hu⟩
theorem Rg.grown (h : Rg R w C v L) {r : Option Nat} (hg : w.grownBy w' r) (hn : ∀ g, v.ownBlock = some g → some g ≠ r) : Rg R w' C v L := h.keep fun g hg' => hg.block g (h.lt g hg').2 (hn g hg')
theorem Rg.setB {B : Nat} (h : Rg R w (B + 1) v L) (j : Nat) (u : Value) : Rg R (w.setCell ⟨B, j, none⟩ u) (B + 1) v L := h.keep fun g hg => Below.heap_setCell _ _ _ _ (by have := (h.lt g hg).1; intro e; have e' : g = B := e; omega)
theorem box_app {w w1 w2 : World} {B : Nat} {t : TypeId} {cs : Array Value} {v : Value} (k : Blk w B t cs) (hb : Below w.heap.size w w1) (g : w1.grownBy w2 v.ownBlock) (hn : ∀ x, v.ownBlock = some x → B + 1 ≤ x) : Blk w2 B t cs :=
  (k.below hb k.lt).grownR g fun e => by have := hn B e.symm; omega
end
end Go.Proofs.YtjjdkkdnlnbedaaGreat


/- One more record in a row of one's own, and where the row lies. -/
namespace Go.Proofs.YtjjdkkdnlnbedaaGreat
open Go.RowKit
set_option linter.unusedVariables false
section
variable {P : Program} {α : Type}
/-- One more record, out of a box that was made just now: and where the new row lies. -/
theorem rlist_one (R : Rec P α) {ops : Array Oper} {rest : List Oper} {o : Oper} {a : Act} {w0 : World} {Q : Exit → Act → World → Prop} (hg : o.guard = none) (s x : Operand)
    (hop : o.op = .call { callee := .builtin .append, args := #[s, x], argTypes := #[R.ty, R.ty] }) (D : Nat) (v : Value) (L : List α) (hs : a.eval s = v) (hown : Rg R w0 D v L) (y : α) (cs : Array Value) (hcs : cs.toList = R.c y)
    (G : Nat) (hG : w0.heap.size = G) (hx : a.eval x = .slice (some ⟨G, 0, none⟩) 1 1) (hl : L.length ≤ 20000) (hD : D ≤ G)
    (h : ∀ g cap w', Rg R w' D (.slice (some ⟨g, 0, none⟩) (L.length + 1) cap) (L ++ [y]) → w0.grownBy w' v.ownBlock → (v.ownBlock = some g ∨ g = G + 1) → wpList P ops Q rest (a.put o.dst (.slice (some ⟨g, 0, none⟩) (L.length + 1) cap)) w') :
    wpList P ops Q (o :: rest) a (w0.alloc (.cells cs R.e)) := by
  obtain ⟨i0, hi0, hz0, hz1, hz2⟩ := R.info
  have hb := R.hb
  have hm : (L.length + 1) * R.bytes ≤ 20001 * 1000 := Nat.mul_le_mul (by omega) hb
  have hn := rnews_box R (Blk.new_at w0 R.e cs hG.symm) hcs
  obtain ⟨n1, n2, n3⟩ := hn
  have hcl : (R.c y).length = R.K := R.len y
  have e1 : R.row [y] = R.c y := by unfold Rec.row; simp
  refine wpList_append_lies _ hg s x R.ty hop D R.e i0 R.z R.K R.bytes R.und hi0 hz0 hz1 hz2 R.hz R.pos v L.length (R.row L) hs (World.ownsRow.alloc hown _) ⟨G, 0, none⟩ 1 1 (R.row [y]) hx (by rw [R.row_len]; rfl) ?_ (R.row_one [y]) (by decide) (by unfold maxLen; omega) (by omega) (by simp; omega) (G + 1) (by simp [hG]) ?_
  · intro j u hu
    rcases n3 with ⟨q, -⟩ | ⟨ad, c, q, hc⟩
    · cases q
    · cases q; exact hc j u hu
  · intro g cap w' h1 h2 h3 _
    refine h g cap w' ?_ ((World.grownBy_alloc w0 _ _).trans h2) h3
    unfold Rg
    rw [List.length_append, R.row_app]
    exact h1
end
end Go.Proofs.YtjjdkkdnlnbedaaGreat

