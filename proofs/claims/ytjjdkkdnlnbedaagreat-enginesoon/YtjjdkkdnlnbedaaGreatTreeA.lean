import Derived.WalkKit
import Derived.ScopeJumps
import Derived.WalkMore
import Derived.Below
import Derived.WalkLawsBesides
namespace Go.Proofs.YtjjdkkdnlnbedaaGreat
open Go.RowKit

/-- A scope with one label behind what is ahead of it: what holds whenever the run is at the label, and a measure. -/
theorem wp_scope_one {P : Program} {a : Act} {w : World} {Q : Exit → Act → World → Prop} {pre body : Code} (l : Nat) (J : Act → World → Prop) (μ : Act → World → Nat) (hn : findLabel pre l = none)
    (first : pre.wp P (fun e a w => e = .normal ∧ J a w) a w)
    (pass : ∀ a w, J a w → body.wp P (Exit.jump l (fun a' w' => J a' w' ∧ μ a' w' < μ a w) Q) a w) :
    (Code.scope (pre.seq ((Code.label l).seq body))).wp P Q a w := by
  have weak : ∀ a w, J a w → body.wp P (Exit.jump l J Q) a w := by
    intro a w hJ
    refine wp_mono (pass a w hJ) ?_
    intro e a w h
    cases e <;> simp only [Exit.jump] at h ⊢
    · exact h
    · exact h
    · exact ⟨h.1, h.2.1⟩
    · exact h
    · exact h
    · exact h
  refine wp_scope_jumps (rest := Code.skip.seq body) l J μ (by simp [findLabel, hn]) ?_ ?_
  · refine wp_seq (wp_mono first ?_)
    rintro e a w ⟨rfl, hJ⟩
    exact wp_seq (wp_label (weak a w hJ))
  · intro a w hJ
    exact wp_seq (wp_skip (pass a w hJ))

theorem exists_least (p : Nat → Prop) : ∀ n, p n → ∃ k, p k ∧ ∀ m, p m → k ≤ m := by
  intro n
  induction n using Nat.strongRecOn with
  | _ n ih =>
    intro hn
    by_cases h : ∃ m, m < n ∧ p m
    · obtain ⟨m, hm, hp⟩ := h
      exact ih m hm hp
    · exact ⟨n, hn, fun m hm => by
        by_cases c : n ≤ m
        · exact c
        · exact absurd ⟨m, by omega, hm⟩ h⟩

/-- The same, where the measure is a number that goes along. -/
theorem wp_scope_ghost {P : Program} {a : Act} {w : World} {Q : Exit → Act → World → Prop} {pre body : Code} (l : Nat) (J : Nat → Act → World → Prop) (hn : findLabel pre l = none)
    (first : pre.wp P (fun e a w => e = .normal ∧ ∃ k, J k a w) a w)
    (pass : ∀ k a w, J k a w → body.wp P (Exit.jump l (fun a' w' => ∃ m, m < k ∧ J m a' w') Q) a w) :
    (Code.scope (pre.seq ((Code.label l).seq body))).wp P Q a w := by
  have ex : ∀ a w, ∃ k, (∃ n, J n a w) → (J k a w ∧ ∀ m, J m a w → k ≤ m) := by
    intro a w
    by_cases h : ∃ n, J n a w
    · obtain ⟨n, hn⟩ := h
      obtain ⟨k, hk⟩ := exists_least (fun n => J n a w) n hn
      exact ⟨k, fun _ => hk⟩
    · exact ⟨0, fun c => absurd c h⟩
  refine wp_scope_one l (fun a w => ∃ k, J k a w) (fun a w => Classical.choose (ex a w)) hn first ?_
  intro a w hJ
  have hk := Classical.choose_spec (ex a w) hJ
  refine wp_mono (pass _ a w hk.1) ?_
  intro e a' w' h
  cases e <;> simp only [Exit.jump] at h ⊢
  · exact h
  · exact h
  · obtain ⟨h1, m, hm, hJm⟩ := h
    have := (Classical.choose_spec (ex a' w') ⟨m, hJm⟩).2 m hJm
    exact ⟨h1, ⟨m, hJm⟩, by omega⟩
  · exact h
  · exact h
  · exact h

/-- The slot of a row, or none. -/
def nthV : List Value → Nat → Value
  | [], _ => undef
  | x :: _, 0 => x
  | _ :: xs, n + 1 => nthV xs n
theorem frame_ex {a' : Act} (f : (Nat → Value) → Act) (h : a' = f (nthV a'.tmps.toList)) : ∃ us, a' = f us := ⟨_, h⟩
end Go.Proofs.YtjjdkkdnlnbedaaGreat


namespace Go.Proofs.YtjjdkkdnlnbedaaGreat
open Go.RowKit

/-- A scope of any form with one label: what holds whenever the run is at the label. -/
theorem wp_scope_any {P : Program} {a : Act} {w : World} {Q : Exit → Act → World → Prop} {c body : Code} (l : Nat) (J : Nat → Act → World → Prop) (hf : findLabel c l = some (Code.skip.seq body))
    (first : (∀ R : Act → World → Prop, (∀ k a w, J k a w → R a w) → (∀ a w, R a w → body.wp P (Exit.jump l R Q) a w) → c.wp P (Exit.jump l R Q) a w))
    (pass : ∀ k a w, J k a w → body.wp P (Exit.jump l (fun a' w' => ∃ m, m < k ∧ J m a' w') Q) a w) :
    (Code.scope c).wp P Q a w := by
  have ex : ∀ a w, ∃ k, (∃ n, J n a w) → (J k a w ∧ ∀ m, J m a w → k ≤ m) := by
    intro a w
    by_cases h : ∃ n, J n a w
    · obtain ⟨n, hn⟩ := h
      obtain ⟨k, hk⟩ := exists_least (fun n => J n a w) n hn
      exact ⟨k, fun _ => hk⟩
    · exact ⟨0, fun c => absurd c h⟩
  have strong : ∀ a w, (∃ k, J k a w) → body.wp P (Exit.jump l (fun a' w' => (∃ k, J k a' w') ∧ Classical.choose (ex a' w') < Classical.choose (ex a w)) Q) a w := by
    intro a w hJ
    have hk := Classical.choose_spec (ex a w) hJ
    refine wp_mono (pass _ a w hk.1) ?_
    intro e a' w' h
    cases e <;> simp only [Exit.jump] at h ⊢
    · exact h
    · exact h
    · obtain ⟨h1, m, hm, hJm⟩ := h
      have := (Classical.choose_spec (ex a' w') ⟨m, hJm⟩).2 m hJm
      exact ⟨h1, ⟨m, hJm⟩, by omega⟩
    · exact h
    · exact h
    · exact h
  refine wp_scope_jumps (rest := Code.skip.seq body) l (fun a w => ∃ k, J k a w) (fun a w => Classical.choose (ex a w)) hf ?_ ?_
  · refine first _ (fun k a w h => ⟨k, h⟩) ?_
    intro a w hJ
    refine wp_mono (strong a w hJ) ?_
    intro e a' w' h
    cases e <;> simp only [Exit.jump] at h ⊢
    · exact h
    · exact h
    · exact ⟨h.1, h.2.1⟩
    · exact h
    · exact h
    · exact h
  · intro a w hJ
    exact wp_seq (wp_skip (strong a w hJ))
end Go.Proofs.YtjjdkkdnlnbedaaGreat


namespace Go.Proofs.YtjjdkkdnlnbedaaGreat
open Go.RowKit

/-- Block g holds just these cells, and none of them is shared with a string. -/
def Blk (w : World) (g : Nat) (t : TypeId) (cs : Array Value) : Prop := w.heap[g]? = some (.cells cs t (0, 0))

section
variable {w : World} {g : Nat} {t : TypeId} {cs : Array Value}
theorem Blk.cell (h : Blk w g t cs) (j : Nat) : w.cell? ⟨g, j, none⟩ = cs[j]? := by
  unfold Blk at h
  simp [World.cell?, h]
theorem Blk.free (h : Blk w g t cs) (j : Nat) : w.frozen? ⟨g, j, none⟩ = false := by
  unfold Blk at h
  simp [World.frozen?, h]
theorem Blk.lt (h : Blk w g t cs) : g < w.heap.size := by
  unfold Blk at h
  by_cases c : g < w.heap.size
  · exact c
  · rw [Array.getElem?_eq_none (by omega)] at h; cases h
theorem Blk.put (h : Blk w g t cs) (j : Nat) (u : Value) : Blk (w.setCell ⟨g, j, none⟩ u) g t (cs.setIfInBounds j u) := by
  unfold Blk at *
  simp [World.setCell, Array.getElem?_modify, h]
theorem Blk.other (h : Blk w g t cs) {k : Nat} (hk : k ≠ g) (j : Nat) (u : Value) : Blk (w.setCell ⟨k, j, none⟩ u) g t cs := by
  unfold Blk at *
  rw [Below.heap_setCell w ⟨k, j, none⟩ u g (fun e => hk e.symm)]; exact h
theorem Blk.alloc (h : Blk w g t cs) (o : Obj) : Blk (w.alloc o) g t cs := by
  have hl := h.lt
  unfold Blk at *
  rw [Below.heap_alloc w o g hl]; exact h
theorem Blk.below (h : Blk w g t cs) {B : Nat} {w' : World} (hb : Below B w w') (hg : g < B) : Blk w' g t cs := by
  unfold Blk at *
  rw [hb.block g hg]; exact h
theorem Blk.new (w : World) (t : TypeId) (cs : Array Value) : Blk (w.alloc (.cells cs t)) w.heap.size t cs := by
  unfold Blk
  exact heap_alloc_new w _
theorem Blk.new_at (w : World) (t : TypeId) (cs : Array Value) {g : Nat} (hg : g = w.heap.size) : Blk (w.alloc (.cells cs t)) g t cs := by
  subst hg; exact Blk.new w t cs
end
end Go.Proofs.YtjjdkkdnlnbedaaGreat

