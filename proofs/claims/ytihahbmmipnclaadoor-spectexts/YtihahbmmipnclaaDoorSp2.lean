import Derived.Test.YtihahbmmipnclaaDoorSp
import Derived.Test.YtihahbmmipnclaaDoorDgMath
import Derived.Lib.OthersKept
namespace Go.Proofs.YtihahbmmipnclaaDoor
open Go.RowKit Kt Dg

/-- Which one is less. -/
def lessB (a b c d : Int) : Bool := if a = c then decide (b < d) else decide (a < c)
set_option maxHeartbeats 400000 in
theorem sless_any (a b c d : Int) (w : World) :
    Calls Tryd.prog 16 #[.agg #[.int .i64 a, .int .i64 b], .agg #[.int .i64 c, .int .i64 d]] w fun e w' => e = .returned (.bool (lessB a b c d)) ∧ Below w.heap.size w w' := by
  by_cases h : a = c
  · subst h
    go_enter Tryd.func16, Tryd.ntmps16
    go_wp2
    go_ret
    exact ⟨ret_bool (by unfold lessB; rw [if_pos rfl]), ((Below.refl _ _).alloc (Nat.le_refl _) _).alloc (by simp) _⟩
  · have hn : (a == c) = false := by simp [h]
    have HB := hide (show lessB a b c d = decide (a < c) by unfold lessB; rw [if_neg h])
    clear h
    go_enter Tryd.func16, Tryd.ntmps16
    go_wp2
    go_ret
    exact ⟨ret_bool (unhide HB).symm, ((Below.refl _ _).alloc (Nat.le_refl _) _).alloc (by simp) _⟩

set_option maxHeartbeats 400000 in
theorem smicro_bad (s u : Int) (w : World) (h : s < 0 ∨ u < 0 ∨ 999999 < u) :
    Calls Tryd.prog 17 #[.int .i64 s, .int .i64 u] w fun e w' => e = .returned (.tuple #[.agg #[.int .i64 0, .int .i64 0], .int .i64 2]) ∧ Below w.heap.size w w' := by
  have hc : s < 0 ∨ (0 ≤ s ∧ u < 0) ∨ (0 ≤ s ∧ 0 ≤ u ∧ 999999 < u) := by omega
  clear h
  rcases hc with h | ⟨h1, h⟩ | ⟨h1, h2, h⟩
  all_goals
    go_enter Tryd.func17, Tryd.ntmps17
    go_wp2
    exact bodyPost_ret (v := .tuple #[.agg #[.int .i64 0, .int .i64 0], .int .i64 2]) (by simp [results, Tryd.results17, go_sem]) rfl ⟨rfl, (Below.refl _ _).alloc (Nat.le_refl _) _⟩
set_option maxHeartbeats 400000 in
theorem smicro_good (s u : Int) (w : World) (h1 : 0 ≤ s) (h2 : 0 ≤ u) (h3 : u ≤ 999999) :
    Calls Tryd.prog 17 #[.int .i64 s, .int .i64 u] w fun e w' => e = .returned (.tuple #[.agg #[.int .i64 s, .int .i64 (u * 1000)], .int .i64 0]) ∧ Below w.heap.size w w' := by
  go_enter Tryd.func17, Tryd.ntmps17
  go_wp2
  exact bodyPost_ret (v := .tuple #[.agg #[.int .i64 s, .int .i64 (u * 1000)], .int .i64 0]) (by simp [results, Tryd.results17, go_sem]) rfl ⟨rfl, (Below.refl _ _).alloc (Nat.le_refl _) _⟩

theorem below_four (w : World) (a b c d : Obj) : Below w.heap.size w ((((w.alloc a).alloc b).alloc c).alloc d) :=
  ((((Below.refl _ _).alloc (Nat.le_refl _) _).alloc (by simp) _).alloc (by simp; omega) _).alloc (by simp; omega) _
theorem below_five (w : World) (a b c d e : Obj) : Below w.heap.size w (((((w.alloc a).alloc b).alloc c).alloc d).alloc e) :=
  (below_four w a b c d).alloc (by simp; omega) _

set_option maxHeartbeats 400000 in
theorem sadd_bad (a b c d : Int) (w : World) (h : rightB a b = false ∨ rightB c d = false) :
    Calls Tryd.prog 18 #[.agg #[.int .i64 a, .int .i64 b], .agg #[.int .i64 c, .int .i64 d]] w fun e w' => e = .returned (.tuple #[.agg #[.int .i64 0, .int .i64 0], .int .i64 2]) ∧ Below w.heap.size w w' := by
  by_cases h1 : rightB a b = false
  · go_enter Tryd.func18, Tryd.ntmps18
    go_wp2_with (go_at_call 8; refine (sright_any _ _ _).mono ?_; rintro e w' ⟨rfl, rfl⟩)
    exact bodyPost_ret (v := .tuple #[.agg #[.int .i64 0, .int .i64 0], .int .i64 2]) (by simp [results, Tryd.results18, go_sem]) rfl ⟨rfl, below_four _ _ _ _ _⟩
  · have h2 : rightB a b = true := by simpa using h1
    have h3 : rightB c d = false := by rcases h with h | h; exact absurd h h1; exact h
    clear h h1
    go_enter Tryd.func18, Tryd.ntmps18
    go_wp2_with (go_at_call 8; refine (sright_any _ _ _).mono ?_; rintro e w' ⟨rfl, rfl⟩)
    exact bodyPost_ret (v := .tuple #[.agg #[.int .i64 0, .int .i64 0], .int .i64 2]) (by simp [results, Tryd.results18, go_sem]) rfl ⟨rfl, below_five _ _ _ _ _ _⟩
set_option maxHeartbeats 400000 in
theorem sadd_range (a b c d : Int) (w : World) (h1 : rightB a b = true) (h2 : rightB c d = true) (ha : a ≤ 9223372036854775807) (hc : c ≤ 9223372036854775807) (h : 4611686018427387904 < a + c + (b + d) / 1000000000) :
    Calls Tryd.prog 18 #[.agg #[.int .i64 a, .int .i64 b], .agg #[.int .i64 c, .int .i64 d]] w fun e w' => e = .returned (.tuple #[.agg #[.int .i64 0, .int .i64 0], .int .i64 6]) ∧ Below w.heap.size w w' := by
  have r1 := rightB_true h1
  have r2 := rightB_true h2
  go_enter Tryd.func18, Tryd.ntmps18
  go_wp2_with (go_at_call 8; refine (sright_any _ _ _).mono ?_; rintro e w' ⟨rfl, rfl⟩)
  exact bodyPost_ret (v := .tuple #[.agg #[.int .i64 0, .int .i64 0], .int .i64 6]) (by simp [results, Tryd.results18, go_sem]) rfl ⟨rfl, below_five _ _ _ _ _ _⟩
set_option maxHeartbeats 400000 in
theorem sadd_good (a b c d : Int) (w : World) (h1 : rightB a b = true) (h2 : rightB c d = true) (ha : a ≤ 9223372036854775807) (hc : c ≤ 9223372036854775807) (h : a + c + (b + d) / 1000000000 ≤ 4611686018427387904) :
    Calls Tryd.prog 18 #[.agg #[.int .i64 a, .int .i64 b], .agg #[.int .i64 c, .int .i64 d]] w fun e w' => e = .returned (.tuple #[.agg #[.int .i64 (a + c + (b + d) / 1000000000), .int .i64 ((b + d) % 1000000000)], .int .i64 0]) ∧ Below w.heap.size w w' := by
  have r1 := rightB_true h1
  have r2 := rightB_true h2
  go_enter Tryd.func18, Tryd.ntmps18
  go_wp2_with (go_at_call 8; refine (sright_any _ _ _).mono ?_; rintro e w' ⟨rfl, rfl⟩)
  exact bodyPost_ret (v := .tuple #[.agg #[.int .i64 (a + c + (b + d) / 1000000000), .int .i64 ((b + d) % 1000000000)], .int .i64 0]) (by simp [results, Tryd.results18, go_sem]) rfl ⟨rfl, below_five _ _ _ _ _ _⟩
end Go.Proofs.YtihahbmmipnclaaDoor
