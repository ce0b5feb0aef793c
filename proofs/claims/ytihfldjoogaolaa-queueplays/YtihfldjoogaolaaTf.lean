import Derived.Test.YtihfldjoogaolaaTm
namespace Go.Proofs.Ytihfldjoogaolaa
open Go.RowKit

/-- All places of a tree are within bounds. -/
def Bd (P : Nat) (t : Tr) : Prop := ∀ p ∈ t.list, p ≤ P
theorem bd_node {P p : Nat} {l r : Tr} : Bd P (.node p l r) ↔ Bd P l ∧ p ≤ P ∧ Bd P r := by
  unfold Bd
  simp only [Tr.list, List.mem_append, List.mem_cons]
  constructor
  · intro h; exact ⟨fun q hq => h q (Or.inl hq), h p (Or.inr (Or.inl rfl)), fun q hq => h q (Or.inr (Or.inr hq))⟩
  · rintro ⟨h1, h2, h3⟩ q (hq | rfl | hq)
    · exact h1 q hq
    · exact h2
    · exact h3 q hq
theorem bd_root {P : Nat} {t : Tr} (h : Bd P t) : t.root ≤ P := by
  cases t with
  | nil => exact Nat.zero_le _
  | node p l r => exact (bd_node.1 h).2.1

set_option maxHeartbeats 1000000 in
theorem first_any (T G P : Nat) (st : St) (w : World) (h : Own w T G P st) (t : Tr) (u : Nat) (ht : Sh st.nd t u) (hb : Bd P t) :
    Calls Try.prog 31 #[.pointer (some ⟨T, 0, none⟩), .int .i64 t.root] w fun e w' => e = .returned (.int .i64 (t.fst 0)) ∧ ∃ m, w' = w.drewN m := by
  have hP := h.hP
  have c0 := h.slice
  go_enter Try.func31, Try.ntmps31
  go_wp2
  obtain ⟨J, hJ⟩ : ∃ J : Nat → Act → World → Prop, J = (fun k a' w' => ∃ (t' : Tr) (u' d m : Nat), k = t'.size ∧ w' = w.drewN m ∧ Sh st.nd t' u' ∧ Bd P t' ∧ t'.fst d = t.fst 0 ∧ ∃ us : Nat → Value, a' = { tmps := #[.pointer (some ⟨T, 0, none⟩), .int .i64 t'.root, us 2, us 3, .int .i64 0, .int .i64 d, us 6, us 7, us 8, us 9, us 10, us 11, us 12, us 13, us 14, us 15, us 16, us 17, us 18], defers := [] }) := ⟨_, rfl⟩
  replace hJ := hide hJ
  refine wp_scope_ghost 0 J rfl ?_ ?_
  · go_wp2
    exact ⟨_, by rw [unhide hJ]; exact ⟨t, u, 0, 0, rfl, rfl, ht, hb, rfl, frame_ex _ rfl⟩⟩
  · intro k a' w' hj
    rw [unhide hJ] at hj
    obtain ⟨t', u', d, m, rfl, rfl, ht', hb', hf, us, rfl⟩ := hj
    cases t' with
    | nil =>
      rw [show ((Tr.root .nil : Nat) : Int) = 0 from rfl]
      go_wp2
      simp only [Exit.jump]
      go_ret
      exact ⟨ret_int (by rw [← hf]; rfl), _, rfl⟩
    | node p l r =>
      rw [show Tr.root (.node p l r) = p from rfl]
      obtain ⟨hp, h1, h2, h3, h4, h5⟩ := ht'
      obtain ⟨b1, b2, b3⟩ := bd_node.1 hb'
      have c1 := (h.at p b2).2.2.2.2.2.2.1
      rw [h2] at c1
      go_wp2
      go_step3
      refine ⟨rfl, _, ?_, by rw [unhide hJ]; exact ⟨l, p, p, m, rfl, rfl, h4, b1, hf, frame_ex _ rfl⟩⟩
      simp only [Tr.size]; omega
end Go.Proofs.Ytihfldjoogaolaa
