import Derived.Test.YtihfldjoogaolaaTc
namespace Go.Proofs.Ytihfldjoogaolaa
open Go.RowKit

theorem tnext (T G P : Nat) (tf : Nat → Int) (A B : List It) (y : It) (w : World) (h : Tre w T G P tf (A ++ y :: B)) :
    Calls Try.prog 23 #[.pointer (some ⟨T, 0, none⟩), .agg #[.int .i64 y.n, .int .i64 y.tu]] w fun e w' => e = .returned (hdV B) ∧ Below w.heap.size w w' := by
  obtain ⟨st, t, fl, o, i, e, f⟩ := h
  obtain ⟨A0, R0, el, ea, er⟩ := List.map_eq_append_iff.1 e.symm
  obtain ⟨n, B0, rfl, rfl, eb⟩ := List.map_eq_cons_iff.1 er
  obtain ⟨cx, l, r, hcx⟩ := find_cx t n (by rw [el]; simp)
  have hz : Z P st cx (.node n l r) := by rw [z_top, ← hcx]; exact i.good.z
  have hl := el
  have hnd := i.good.z.nd.nt
  rw [hcx, plug_pp, show cx.pre ++ ((Tr.node n l r).list ++ cx.post) = (cx.pre ++ l.list) ++ n :: (r.list ++ cx.post) by simp [Tr.list]] at hl
  rw [el] at hnd
  have hB := (split_unique hl (by rw [hl]; exact hnd)).2
  refine (nextH_any T G P st w o cx n l r hz (st.nd n).turn ((hasB_iff i _ _).2 ⟨by omega, by rw [el]; simp, by simp⟩)).mono ?_
  rintro e w' ⟨rfl, hb⟩
  refine ⟨?_, hb⟩
  rw [nextOf_head, hB, hdl_of i B0 (fun x hx => by rw [el]; simp [hx]), eb]
/-- What a handle's box holds. -/
theorem hdV_cases (B : List It) : ∃ (u v : Int) (o : Bool), hdV B = .tuple #[.agg #[.int .i64 u, .int .i64 v], .bool o] ∧ ((B = [] ∧ o = false) ∨ ∃ y R, B = y :: R ∧ o = true ∧ u = y.n ∧ v = y.tu) := by
  cases B with
  | nil => exact ⟨0, 0, false, rfl, .inl ⟨rfl, rfl⟩⟩
  | cons y R => exact ⟨y.n, y.tu, true, rfl, .inr ⟨y, R, rfl, rfl, rfl, rfl⟩⟩
def cntB (tm : Int) (L : List It) : Nat := (L.filter (fun y => decide (y.a < tm))).length
theorem cnt_put (tm : Int) (pre post : List It) (x : It) : cntB tm (pre ++ x :: post) = cntB tm (pre ++ post) + (if x.a < tm then 1 else 0) := by
  unfold cntB
  rw [List.filter_append, List.filter_append, List.filter_cons]
  by_cases h : x.a < tm
  · rw [decide_eq_true h, if_pos rfl, if_pos h]; simp only [List.length_append, List.length_cons]; omega
  · rw [decide_eq_false h, if_neg (by decide), if_neg h]; simp
theorem cnt_le (tm : Int) (L : List It) : cntB tm L ≤ L.length := List.length_filter_le _ _
theorem at_split (tm : Int) (L : List It) (hs : L.Pairwise (fun x y => klt y.a y.b x.a x.b = false)) : ∃ A R, L = A ++ R ∧ (L.find? (fun y => decide (tm ≤ y.a))).toList.head? = R.head? ∧ A.length = cntB tm L ∧ ∀ y ∈ R, tm ≤ y.a := by
  cases hf : L.find? (fun y => decide (tm ≤ y.a)) with
  | none =>
    refine ⟨L, [], by simp, rfl, ?_, by simp⟩
    have h := List.find?_eq_none.1 hf
    unfold cntB
    rw [List.filter_eq_self.2]
    intro y hy
    have := h y hy
    simp only [decide_eq_true_eq] at this ⊢
    omega
  | some y =>
    obtain ⟨hy, A, R, rfl, hA⟩ := List.find?_eq_some_iff_append.1 hf
    have hy' : tm ≤ y.a := by simpa using hy
    have hR : ∀ z ∈ R, tm ≤ z.a := by
      intro z hz
      have := (List.pairwise_append.1 hs).2.1
      have h2 := (List.pairwise_cons.1 this).1 z hz
      rcases klt_not.1 h2 with h3 | h3 <;> omega
    refine ⟨A, y :: R, rfl, rfl, ?_, ?_⟩
    · unfold cntB
      rw [List.filter_append, List.filter_cons, decide_eq_false (show ¬ y.a < tm by omega), if_neg (by decide)]
      have e1 : A.filter (fun y => decide (y.a < tm)) = A := by
        rw [List.filter_eq_self]
        intro z hz
        have := hA z hz
        simp only [Bool.not_eq_true', decide_eq_false_iff_not, decide_eq_true_eq] at this ⊢
        omega
      have e2 : R.filter (fun y => decide (y.a < tm)) = [] := by
        rw [List.filter_eq_nil_iff]
        intro z hz
        have := hR z hz
        simp only [decide_eq_true_eq]; omega
      rw [e1, e2, List.append_nil]
    · intro z hz
      rcases List.mem_cons.1 hz with rfl | hz
      · exact hy'
      · exact hR z hz
end Go.Proofs.Ytihfldjoogaolaa
