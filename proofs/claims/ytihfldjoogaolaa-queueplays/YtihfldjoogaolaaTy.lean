import Derived.Test.YtihfldjoogaolaaTw
namespace Go.Proofs.Ytihfldjoogaolaa
open Go.RowKit

theorem least_le : ∀ t : Tr, t.least ≤ t.size ∧ t.most ≤ t.size
  | .nil => ⟨Nat.le_refl _, Nat.le_refl _⟩
  | .node p l r => by
    have a := least_le l
    have b := least_le r
    simp only [Tr.least, Tr.most, Tr.size]
    omega
theorem size_list : ∀ t : Tr, t.size = t.list.length
  | .nil => rfl
  | .node p l r => by
    rw [Tr.size, Tr.list, List.length_append, List.length_cons, size_list l, size_list r]; omega

end Go.Proofs.Ytihfldjoogaolaa
