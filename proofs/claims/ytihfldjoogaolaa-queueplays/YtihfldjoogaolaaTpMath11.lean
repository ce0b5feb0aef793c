import Derived.Test.YtihfldjoogaolaaTpMath10
import Derived.Test.YtihfldjoogaolaaTn
namespace Go.Proofs.Ytihfldjoogaolaa

theorem nxt_head : ∀ cx : Cx, cx.nxt = cx.post.headD 0
  | .top => rfl
  | .fr false _ _ _ => rfl
  | .fr true _ _ up => nxt_head up
/-- The next place is the one that stands behind in the row. -/
theorem nextOf_head (cx : Cx) (r : Tr) : nextOf cx r = (r.list ++ cx.post).headD 0 := by
  unfold nextOf
  cases r with
  | nil => simp only [Tr.list, List.nil_append]; exact nxt_head cx
  | node p a b =>
    show Tr.fst 0 (.node p a b) = _
    rw [fst_list]
    cases h : (Tr.node p a b).list with
    | nil => simp [Tr.list] at h
    | cons x y => rfl
/-- Where a place stands in a row without doubles. -/
theorem split_unique {A A' B B' : List Nat} {n : Nat} (h : A ++ n :: B = A' ++ n :: B') (hn : (A ++ n :: B).Nodup) : A = A' ∧ B = B' := by
  induction A generalizing A' with
  | nil =>
    cases A' with
    | nil => simp at h; exact ⟨rfl, h⟩
    | cons x xs =>
      simp only [List.nil_append, List.cons_append, List.cons.injEq] at h
      obtain ⟨rfl, rfl⟩ := h
      simp [List.nodup_cons] at hn
  | cons a rest ih =>
    cases A' with
    | nil =>
      simp only [List.nil_append, List.cons_append, List.cons.injEq] at h
      obtain ⟨rfl, rfl⟩ := h
      simp [List.nodup_cons] at hn
    | cons x xs =>
      simp only [List.cons_append, List.cons.injEq] at h
      obtain ⟨rfl, h⟩ := h
      obtain ⟨e1, e2⟩ := ih h (List.nodup_cons.1 hn).2
      exact ⟨by rw [e1], e2⟩
/-- What hasB asks: the place is among the tree's, with that turn. -/
theorem hasB_iff {P : Nat} {st : St} {t : Tr} {fl : List Nat} (hi : Inv P st t fl) (pl tn : Int) : hasB P st pl tn = true ↔ 0 ≤ pl ∧ pl.toNat ∈ t.list ∧ (st.nd pl.toNat).turn = tn := by
  unfold hasB
  simp only [Bool.and_eq_true, decide_eq_true_eq]
  constructor
  · rintro ⟨⟨⟨h1, h2⟩, h3⟩, h4⟩
    exact ⟨by omega, (hi.fil _ (by omega)).1 h3, h4⟩
  · rintro ⟨h1, h2, h3⟩
    have hb := hi.good.z.nd.bt _ h2
    have h0 : pl.toNat ≠ 0 := fun e => not_zero_mem hi.good.z.sh (e ▸ h2)
    exact ⟨⟨⟨by omega, by omega⟩, (hi.fil _ hb).2 h2⟩, h3⟩
/-- How high a tree is. -/
theorem inv_balance {P : Nat} {st : St} {t : Tr} {fl : List Nat} (hi : Inv P st t fl) : t.most ≤ 2 * t.least := by
  obtain ⟨K, h⟩ := hi.good.rb
  have := rb_ways h
  rw [hi.good.root] at this
  simp only [Bool.false_eq_true, if_false] at this
  omega
end Go.Proofs.Ytihfldjoogaolaa
