import Derived.Test.YtkglaklkbodjkaaWh10
import Derived.Laws.OwnMore
namespace Go.Proofs.Ytkglaklkbodjkaa
open Go.RowKit Wh

theorem app_rows {ops : Array Oper} {rest : List Oper} {o : Oper} {a : Act} {Q : Exit → Act → World → Prop} {w0 : World} (hgd : o.guard = none) (s x : Operand)
    (ho : o.op = .call { callee := .builtin .append, args := #[s, x], argTypes := #[35, 35] }) (B C : Nat) (v u : Value) (l m : List Int) (hs : a.eval s = v) (hrow : Ir w0 B v l)
    (hx : a.eval x = u) (hu : Ir w0 C u m) (hB : B ≤ w0.heap.size) (hl : l.length + m.length ≤ 1000000)
    (h : ∀ v' w', Ir w' B v' (l ++ m) → w0.grownBy w' v.ownBlock → (∀ g, v'.ownBlock = some g → v.ownBlock = some g ∨ w0.heap.size ≤ g) → wpList Try.prog ops Q rest (a.put o.dst v') w') :
    wpList Try.prog ops Q (o :: rest) a w0 := by
  obtain ⟨i0, hi0, hz0, hz1, hz2⟩ := iparts iInfo
  rcases hu.2 with ⟨h2, h3⟩ | ⟨g, cap, cur, h1, h2, h3, h4⟩
  · have hm : m = [] := List.length_eq_zero_iff.1 h3
    subst hm
    refine wpList_plain hgd fun K hK => ?_
    have hr := run_append_owned_none (P := Try.prog) w0 B 35 o.type 3 i0 1 Try.underlying35 hi0 v l.length _ hrow
    unfold Oper.wp execOp
    simp only [ho, resolve, invoke, builtin, Sem.run_bind, Sem.run_pure, Result.andThen_ok, List.map_toArray, List.map_cons, List.map_nil, hs, hx, h2, hr]
    exact hK _ _ (h v w0 (by rw [List.append_nil]; exact hrow) ⟨rfl, rfl, rfl, Nat.le_refl _, fun _ _ _ => rfl⟩ (fun _ hg => .inl hg))
  · refine wpList_append_own_at _ hgd s x 35 ho B 3 i0 (.int .i64 0) 1 8 Try.underlying35 hi0 hz0 hz1 hz2 rfl (by decide) v l.length (l.map (Value.int .i64)) hs hrow ⟨g, 0, none⟩ m.length cap (m.map (Value.int .i64)) (by rw [hx, h1]) (by simp) ?_ ?_ (by unfold maxLen; omega) (by omega) hB ?_
    · exact World.ownsRow.cells hu (g := g) (by rw [h1]; rfl)
    · intro y hy
      obtain ⟨z, _, rfl⟩ := List.mem_map.1 hy
      rfl
    · intro v' w' k1 k2 _ k4
      refine h v' w' ?_ k2 ?_
      · unfold Ir
        rw [List.length_append, List.map_append]
        exact k1
      · intro g' hg'
        rcases k4 with k4 | k4
        · exact .inl (by rw [← k4]; exact hg')
        · rw [k4] at hg'; cases hg'; exact .inr (Nat.le_refl _)
section
variable {B H Mb now n : Nat} {sv : Nat → Value} {sl : Nat → List Int} {L : List Wh.Item} {f : Int → Option Int} {sz : Nat}
theorem Whl.tick {w : World} (h : Whl w B H Mb now n f sz sv sl) (now' : Nat) : Whl (w.setCell ⟨H, 0, none⟩ (.int .i64 (now' : Int))) B H Mb now' n f sz sv sl ∧ Fr w (w.setCell ⟨H, 0, none⟩ (.int .i64 (now' : Int))) (Foot H Mb sv) (Foot H Mb sv) := by
  refine ⟨⟨?_, h.mp.set h.lo.2.2 _ _, fun j hj => (h.rows j hj).keep fun g hg _ => Below.heap_setCell w ⟨H, 0, none⟩ _ g (by have := h.lo.1; show g ≠ H; omega), h.ap, h.lo⟩, ⟨rfl, rfl, rfl, by simp [World.setCell], fun g hg hF => Below.heap_setCell w ⟨H, 0, none⟩ _ g (fun e => hF (.inl e)), fun g hg => .inl hg⟩⟩
  have := h.blk.put 0 (.int .i64 (now' : Int))
  rw [wc_now] at this
  exact this
theorem Whl.lt {w : World} (h : Whl w B H Mb now n f sz sv sl) (g : Nat) (hg : Foot H Mb sv g) : g < w.heap.size := by
  rcases hg with rfl | rfl | ⟨j, hj, ho⟩
  · exact h.blk.lt
  · exact h.mp.lt
  · exact ((h.rows j hj).lt g ho).2
/-- A row outside the wheel grew. -/
theorem Whl.beside {w w1 : World} (h : Whl w B H Mb now n f sz sv sl) {row : Option Nat} (hg : w.grownBy w1 row) (hn : ∀ g, row = some g → ¬ Foot H Mb sv g) : Whl w1 B H Mb now n f sz sv sl := by
  have hk : ∀ g, Foot H Mb sv g → w1.heap[g]? = w.heap[g]? := fun g hF => hg.block g (h.lt g hF) (fun e => hn g e.symm hF)
  refine ⟨?_, h.mp.same (hk Mb (.inr (.inl rfl))), fun j hj => ?_, h.ap, h.lo⟩
  · unfold Blk
    rw [hk H (.inl rfl)]; exact h.blk
  · refine World.ownsRow.kept (h.rows j hj) hg ?_
    cases ho : (sv j).ownBlock with
    | none => exact .inl rfl
    | some a => exact .inr (fun q => hn a q.symm (.inr (.inr ⟨j, hj, ho⟩)))
end
end Go.Proofs.Ytkglaklkbodjkaa
