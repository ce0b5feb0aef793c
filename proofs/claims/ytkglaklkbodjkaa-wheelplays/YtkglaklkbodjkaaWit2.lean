import Derived.Test.YtkglaklkbodjkaaWit
namespace Go.Proofs.Ytkglaklkbodjkaa
open Go.RowKit Wh
set_option linter.unusedVariables false

/-- An item laid among others, behind those that aren't due later. -/
def insI (x : Wh.Item) (D : List Wh.Item) : List Wh.Item := D.takeWhile (fun y => decide (y.2 ≤ x.2)) ++ x :: D.dropWhile (fun y => decide (y.2 ≤ x.2))
/-- The items of the next k ticks, tick by tick. -/
def cat (now : Nat) (L : List Wh.Item) : Nat → List Wh.Item
  | 0 => []
  | k + 1 => cat now L k ++ L.filter fun x => decide (x.2 = now + k + 1)
def later (u : Nat) (L : List Wh.Item) : List Wh.Item := L.filter fun x => decide (u < x.2)
theorem tw_app {A B : List Wh.Item} {p : Wh.Item → Bool} (h : ∀ b ∈ B, p b = false) : (A ++ B).takeWhile p = A.takeWhile p ∧ (A ++ B).dropWhile p = A.dropWhile p ++ B := by
  induction A with
  | nil =>
    cases B with
    | nil => exact ⟨rfl, rfl⟩
    | cons b B =>
      have := h b (List.mem_cons_self ..)
      simp [this]
  | cons a A ih =>
    rw [List.cons_append, List.takeWhile_cons, List.takeWhile_cons, List.dropWhile_cons, List.dropWhile_cons]
    cases p a
    · exact ⟨rfl, rfl⟩
    · simp [ih.1, ih.2]
theorem tw_all {A : List Wh.Item} {p : Wh.Item → Bool} (h : ∀ b ∈ A, p b = true) : A.takeWhile p = A ∧ A.dropWhile p = [] := by
  induction A with
  | nil => exact ⟨rfl, rfl⟩
  | cons a A ih =>
    have h1 := h a (List.mem_cons_self ..)
    have h2 := ih fun b hb => h b (List.mem_cons_of_mem _ hb)
    rw [List.takeWhile_cons, List.dropWhile_cons, h1]
    simp [h2.1, h2.2]
theorem cat_le (now : Nat) (L : List Wh.Item) (k : Nat) : ∀ x ∈ cat now L k, x.2 ≤ now + k := by
  induction k with
  | zero => intro x hx; cases hx
  | succ k ih =>
    intro x hx
    rcases List.mem_append.1 hx with hx | hx
    · have := ih x hx; omega
    · have := of_decide_eq_true (List.mem_filter.1 hx).2; omega
theorem cat_skip (now : Nat) (L : List Wh.Item) (x : Wh.Item) (k : Nat) (h : now + k < x.2) : cat now (L ++ [x]) k = cat now L k := by
  induction k with
  | zero => rfl
  | succ k ih =>
    show cat now (L ++ [x]) k ++ _ = cat now L k ++ _
    rw [ih (by omega), List.filter_append, List.filter_cons, if_neg (by simp; omega), List.filter_nil, List.append_nil]
theorem cat_snoc (now : Nat) (L : List Wh.Item) (x : Wh.Item) (k : Nat) (h0 : now < x.2) (h : x.2 ≤ now + k) : cat now (L ++ [x]) k = insI x (cat now L k) := by
  induction k with
  | zero => omega
  | succ k ih =>
    show cat now (L ++ [x]) k ++ _ = insI x (cat now L k ++ _)
    by_cases e : x.2 = now + k + 1
    · rw [cat_skip now L x k (by omega), List.filter_append, List.filter_cons, if_pos (by simp [e]), List.filter_nil, ← List.append_assoc]
      unfold insI
      have h2 := tw_all (A := cat now L k ++ L.filter fun x => decide (x.2 = now + k + 1)) (p := fun y => decide (y.2 ≤ x.2)) (fun b hb => by
        have := cat_le now L (k + 1) b hb
        exact decide_eq_true (by omega))
      rw [h2.1, h2.2]
    · rw [ih (by omega), List.filter_append, List.filter_cons, if_neg (by simp [e]), List.filter_nil, List.append_nil]
      unfold insI
      have h2 := tw_app (A := cat now L k) (B := L.filter fun x => decide (x.2 = now + k + 1)) (p := fun y => decide (y.2 ≤ x.2)) (fun b hb => by
        have := of_decide_eq_true (List.mem_filter.1 hb).2
        exact decide_eq_false (by omega))
      rw [h2.1, h2.2]
      simp
theorem later_snoc (u : Nat) (L : List Wh.Item) (x : Wh.Item) : later u (L ++ [x]) = later u L ++ if u < x.2 then [x] else [] := by
  unfold later
  rw [List.filter_append, List.filter_cons, List.filter_nil]
  by_cases h : u < x.2
  · rw [if_pos h, if_pos (by simp [h])]
  · rw [if_neg h, if_neg (by simp; omega)]
theorem ran_is (now : Nat) (L : List Wh.Item) (h : ∀ x ∈ L, now < x.2) (k : Nat) : ran now L k = (later (now + k) L, (cat now L k).map (·.1)) := by
  induction k with
  | zero =>
    show (L, []) = (later now L, [])
    unfold later
    rw [List.filter_eq_self.2 (fun x hx => decide_eq_true (h x hx))]
  | succ k ih =>
    show (restOf (now + k + 1) (ran now L k).1, (ran now L k).2 ++ firedOf (now + k + 1) (ran now L k).1) = _
    rw [ih]
    refine Prod.ext ?_ ?_
    · show restOf (now + k + 1) (later (now + k) L) = later (now + (k + 1)) L
      unfold restOf later
      rw [List.filter_filter]
      apply List.filter_congr
      intro x _
      rw [← Bool.decide_and, decide_eq_decide]
      omega
    · show (cat now L k).map (·.1) ++ firedOf (now + k + 1) (later (now + k) L) = (cat now L k ++ L.filter fun x => decide (x.2 = now + k + 1)).map (·.1)
      rw [List.map_append]
      unfold firedOf later
      rw [List.filter_filter]
      congr 2
      apply List.filter_congr
      intro x _
      rw [← Bool.decide_and, decide_eq_decide]
      omega
theorem take_snoc {α : Type} {L : List α} {i : Nat} {x : α} (h : L[i]? = some x) : L.take (i + 1) = L.take i ++ [x] := by
  rw [List.take_add_one, h]; rfl
theorem cat_len (now : Nat) (L : List Wh.Item) (h : ∀ x ∈ L, now < x.2) (k : Nat) : (cat now L k).length ≤ L.length := by
  have h1 := ran_len now L k
  rw [ran_is now L h k] at h1
  simp only [List.length_map] at h1
  omega
theorem later_len (u : Nat) (L : List Wh.Item) : (later u L).length ≤ L.length := List.length_filter_le _ _
end Go.Proofs.Ytkglaklkbodjkaa
