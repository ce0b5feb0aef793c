/- Appending to a row that a call owns, as a step of a region that draws its order. -/
import Derived.Test.YtihfldjoogaolaaBlk
import Derived.Deep.Onto
import Derived.Deep.RegionLaw
import Derived.Laws.OwnMore
namespace Go.Proofs.Ytihfldjoogaolaa
open Go.RowKit

/-- What is appended: nothing (a nil slice), or so many elements whose cells are these. -/
def News (w : World) (x : Value) (m size : Nat) (news : List Value) : Prop :=
  news.length = m * size ∧ (∀ u ∈ news, u.oneCell' = true) ∧ ((x = .slice none 0 0 ∧ m = 0) ∨ ∃ ad c, x = .slice (some ad) m c ∧ ∀ j u, news[j]? = some u → w.cell? (ad.add j) = some u)
theorem News.below {w w' : World} {x : Value} {m size : Nat} {news : List Value} (h : News w x m size news) (hb : Below w.heap.size w w') : News w' x m size news := by
  refine ⟨h.1, h.2.1, ?_⟩
  rcases h.2.2 with h2 | ⟨ad, c, h2, h3⟩
  · exact .inl h2
  · refine .inr ⟨ad, c, h2, fun j u hu => ?_⟩
    have := h3 j u hu
    rw [hb.cell (World.block_lt_of_cell? w _ this)]
    exact this
/-- What news are, in every world in which the old blocks stand. -/
def NewsIn (W : World) (x : Value) (m size : Nat) (news : List Value) : Prop := ∀ w', Below W.heap.size W w' → News w' x m size news
theorem News.held {W : World} {x : Value} {m size : Nat} {news : List Value} (h : News W x m size news) : NewsIn W x m size news := fun _ hb => h.below hb
theorem step_app {P : Program} {ops : Array Oper} {o : Oper} {a : Act} {w : World} {K : Act → World → Prop} {Q : Exit → Act → World → Prop} {E : Prop}
    (hg : o.guard = none) (s x : Operand) (t : TypeId) (hop : o.op = .call { callee := .builtin .append, args := #[s, x], argTypes := #[t, t] })
    (B : Nat) (e : TypeId) (i : TypeInfo) (z : Value) (size bytes : Nat) (ht : P.underlying t = some (.slice e)) (hi : P.info? e = some i) (hz : i.zero = some z)
    (hsize : i.size = size) (hby : i.bytes = bytes) (hzs : z.cells.size = size) (hsz : 0 < size)
    (v : Value) (n : Nat) (xs : List Value) (hs : a.eval s = v) (hown : w.ownsRow B e size v n xs) (m : Nat) (news : List Value) (hn : News w (a.eval x) m size news)
    (h63 : n + m ≤ 1000000) (hb : bytes ≤ 1000) (hbase : B ≤ w.heap.size)
    (hK : ∀ v' w', w'.ownsRow B e size v' (n + m) (xs ++ news) → w.grownBy w' v.ownBlock → K (a.put o.dst v') w') :
    if Region.wanted o (yielded ops a.tmps) = true then Oper.wp P o a w K Q else E := by
  have hw : Region.wanted o (yielded ops a.tmps) = true := by simp [Region.wanted, hg]
  rw [if_pos hw]
  have hmul : (n + m) * bytes ≤ 1000000 * 1000 := Nat.mul_le_mul h63 hb
  obtain ⟨h1, h2, h3⟩ := hn
  rcases h3 with ⟨hx, rfl⟩ | ⟨ad, c, hx, hc⟩
  · have hnil : news = [] := by
      apply List.length_eq_zero_iff.1
      rw [h1]; simp
    subst hnil
    have hr := run_append_owned_none (P := P) w B t o.type e i size ht hi v n xs hown
    unfold Oper.wp execOp
    simp only [hop, resolve, invoke, builtin, Sem.run_bind, Sem.run_pure, Result.andThen_ok, List.map_toArray, List.map_cons, List.map_nil, hs, hx, hr]
    refine hK v w (by simpa using hown) ⟨rfl, rfl, rfl, Nat.le_refl _, fun _ _ _ => rfl⟩
  · exact wp_append_own w s x t hop B e i z size bytes ht hi hz hsize hby hzs hsz v n xs hs hown ad m c news hx h1 hc h2 (by unfold maxLen; omega) (by omega) hbase fun v' w' q1 q2 _ => hK v' w' q1 q2
/-- The same in a region that keeps its order. -/
theorem list_app {P : Program} {ops : Array Oper} {rest : List Oper} {o : Oper} {a : Act} {w : World} {Q : Exit → Act → World → Prop} (hg : o.guard = none) (s x : Operand) (t : TypeId)
    (hop : o.op = .call { callee := .builtin .append, args := #[s, x], argTypes := #[t, t] })
    (B : Nat) (e : TypeId) (i : TypeInfo) (z : Value) (size bytes : Nat) (ht : P.underlying t = some (.slice e)) (hi : P.info? e = some i) (hz : i.zero = some z)
    (hsize : i.size = size) (hby : i.bytes = bytes) (hzs : z.cells.size = size) (hsz : 0 < size)
    (v : Value) (n : Nat) (xs : List Value) (hs : a.eval s = v) (hown : w.ownsRow B e size v n xs) (m : Nat) (news : List Value) (hn : News w (a.eval x) m size news)
    (h63 : n + m ≤ 1000000) (hb : bytes ≤ 1000) (hbase : B ≤ w.heap.size)
    (hK : ∀ v' w', w'.ownsRow B e size v' (n + m) (xs ++ news) → w.grownBy w' v.ownBlock → wpList P ops Q rest (a.put o.dst v') w') : wpList P ops Q (o :: rest) a w := by
  refine wpList_plain hg fun K hK2 => ?_
  have := step_app (P := P) (ops := ops) (o := o) (a := a) (w := w) (K := K) (Q := Q) (E := True) hg s x t hop B e i z size bytes ht hi hz hsize hby hzs hsz v n xs hs hown m news hn h63 hb hbase fun v' w' q1 q2 => hK2 _ _ (hK v' w' q1 q2)
  have hw : Region.wanted o (yielded ops a.tmps) = true := by simp [Region.wanted, hg]
  rw [if_pos hw] at this
  exact this
end Go.Proofs.Ytihfldjoogaolaa
