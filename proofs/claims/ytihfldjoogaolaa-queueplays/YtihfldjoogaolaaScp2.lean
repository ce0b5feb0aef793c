import Derived.Test.YtihfldjoogaolaaScp
namespace Go.Proofs.Ytihfldjoogaolaa
open Go.RowKit

/-- A scope of any form with one label: what holds whenever the run is at the label. -/
theorem wp_scope_any {P : Program} {a : Act} {w : World} {Q : Exit → Act → World → Prop} {c body : Code} (l : Nat) (J : Nat → Act → World → Prop) (hf : findLabel c l = some (Code.skip.seq body))
    (first : (∀ R : Act → World → Prop, (∀ k a w, J k a w → R a w) → (∀ a w, R a w → body.wp P (Exit.jump l R Q) a w) → c.wp P (Exit.jump l R Q) a w))
    (pass : ∀ k a w, J k a w → body.wp P (Exit.jump l (fun a' w' => ∃ m, m < k ∧ J m a' w') Q) a w) :
    (Code.scope c).wp P Q a w := by
  have ex : ∀ a w, ∃ k, (∃ n, J n a w) → (J k a w ∧ ∀ m, J m a w → k ≤ m) := by
    intro a w
    by_cases h : ∃ n, J n a w
    · obtain ⟨n, hn⟩ := h
      obtain ⟨k, hk⟩ := exists_least (fun n => J n a w) n hn
      exact ⟨k, fun _ => hk⟩
    · exact ⟨0, fun c => absurd c h⟩
  have strong : ∀ a w, (∃ k, J k a w) → body.wp P (Exit.jump l (fun a' w' => (∃ k, J k a' w') ∧ Classical.choose (ex a' w') < Classical.choose (ex a w)) Q) a w := by
    intro a w hJ
    have hk := Classical.choose_spec (ex a w) hJ
    refine wp_mono (pass _ a w hk.1) ?_
    intro e a' w' h
    cases e <;> simp only [Exit.jump] at h ⊢
    · exact h
    · exact h
    · obtain ⟨h1, m, hm, hJm⟩ := h
      have := (Classical.choose_spec (ex a' w') ⟨m, hJm⟩).2 m hJm
      exact ⟨h1, ⟨m, hJm⟩, by omega⟩
    · exact h
    · exact h
    · exact h
  refine wp_scope_jumps (rest := Code.skip.seq body) l (fun a w => ∃ k, J k a w) (fun a w => Classical.choose (ex a w)) hf ?_ ?_
  · refine first _ (fun k a w h => ⟨k, h⟩) ?_
    intro a w hJ
    refine wp_mono (strong a w hJ) ?_
    intro e a' w' h
    cases e <;> simp only [Exit.jump] at h ⊢
    · exact h
    · exact h
    · exact ⟨h.1, h.2.1⟩
    · exact h
    · exact h
    · exact h
  · intro a w hJ
    exact wp_seq (wp_skip (strong a w hJ))
end Go.Proofs.Ytihfldjoogaolaa
