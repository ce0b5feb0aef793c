import Derived.Test.YtihfldjoogaolaaTy
import Derived.Test.YtihfldjoogaolaaScp2
namespace Go.Proofs.Ytihfldjoogaolaa
open Go.RowKit

/-- The first place, on the way down, whose time isn't below one. -/
def atD (st : St) (tm : Int) : Tr → Nat → Nat
  | .nil, d => d
  | .node p l r, d => if tm ≤ (st.nd p).time then atD st tm l p else atD st tm r d
theorem atD_find (st : St) (tm : Int) : ∀ (t : Tr) (d : Nat), Srt st t.list → atD st tm t d = (t.list.find? (fun x => decide (tm ≤ (st.nd x).time))).getD d
  | .nil, d, _ => rfl
  | .node p l r, d, hs => by
    have hs' := hs
    unfold Srt at hs'
    rw [Tr.list, List.pairwise_append, List.pairwise_cons] at hs'
    obtain ⟨h1, ⟨h2, h3⟩, h4⟩ := hs'
    rw [atD, Tr.list, List.find?_append, List.find?_cons]
    by_cases c : tm ≤ (st.nd p).time
    · rw [if_pos c, atD_find st tm l p h1]
      simp only [c, decide_true]
      cases List.find? (fun x => decide (tm ≤ (st.nd x).time)) l.list <;> rfl
    · rw [if_neg c, atD_find st tm r d h3]
      have hn : l.list.find? (fun x => decide (tm ≤ (st.nd x).time)) = none := by
        rw [List.find?_eq_none]
        intro x hx
        have := h4 x hx p (by simp)
        unfold kle at this
        rw [klt_not] at this
        simp only [decide_eq_true_eq]
        omega
      rw [hn]
      simp only [c, decide_false, Option.none_or]

end Go.Proofs.Ytihfldjoogaolaa
