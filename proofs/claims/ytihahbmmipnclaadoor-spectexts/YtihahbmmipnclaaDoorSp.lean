import Derived.Test.YtihahbmmipnclaaDoorKtMul
import Derived.Test.YtihahbmmipnclaaDoorKtRmul
import Derived.Deep.QuietTactic
import Derived.BigQuiet
import Derived.Below
namespace Go.Proofs.YtihahbmmipnclaaDoor
open Go.RowKit Kt

/-- All old cells and marks read as before. -/
theorem bcell {W w1 : World} (hb : Below W.heap.size W w1) : (∀ b o, b < W.heap.size → w1.cell? ⟨b, o, none⟩ = W.cell? ⟨b, o, none⟩) ∧ (∀ b o, b < W.heap.size → w1.frozen? ⟨b, o, none⟩ = W.frozen? ⟨b, o, none⟩) :=
  ⟨fun b o h => hb.cell (p := ⟨b, o, none⟩) h, fun b o h => hb.frozen (p := ⟨b, o, none⟩) h⟩
/-- Whether a spec may be. -/
def rightB (s n : Int) : Bool := decide (0 ≤ s) && decide (0 ≤ n) && decide (n ≤ 999999999)
/-- Its time. -/
def timeZ (s n : Int) : Int := addZ (mulZ 1000000000 s) n
theorem rightB_true {s n : Int} (h : rightB s n = true) : 0 ≤ s ∧ 0 ≤ n ∧ n ≤ 999999999 := by simpa [rightB, and_assoc] using h
theorem right_cases (s n : Int) : (s < 0 ∧ rightB s n = false) ∨ (0 ≤ s ∧ n < 0 ∧ rightB s n = false) ∨ (0 ≤ s ∧ 0 ≤ n ∧ 999999999 < n ∧ rightB s n = false) ∨ (0 ≤ s ∧ 0 ≤ n ∧ n ≤ 999999999 ∧ rightB s n = true) := by
  by_cases h1 : s < 0
  · exact .inl ⟨h1, by simp [rightB]; omega⟩
  by_cases h2 : n < 0
  · exact .inr (.inl ⟨by omega, h2, by simp [rightB]; omega⟩)
  by_cases h3 : 999999999 < n
  · exact .inr (.inr (.inl ⟨by omega, by omega, h3, by simp [rightB]; omega⟩))
  · exact .inr (.inr (.inr ⟨by omega, by omega, by omega, by simp [rightB]; omega⟩))

set_option maxHeartbeats 400000 in
theorem sright_any (s n : Int) (w : World) :
    Calls Tryd.prog 8 #[.agg #[.int .i64 s, .int .i64 n]] w fun e w' => e = .returned (.bool (rightB s n)) ∧ w' = w.alloc (.cells #[.int .i64 s, .int .i64 n] 23) := by
  rcases right_cases s n with ⟨h1, hr⟩ | ⟨h1, h2, hr⟩ | ⟨h1, h2, h3, hr⟩ | ⟨h1, h2, h3, hr⟩
  all_goals
    rw [hr]
    clear hr
    go_enter Tryd.func8, Tryd.ntmps8
    go_wp2
    go_ret
    exact ⟨ret_bool (by first | rfl | exact decide_eq_false (by omega) | exact decide_eq_true (by omega)), rfl⟩

set_option maxHeartbeats 400000 in
theorem rright_any (s n : Int) (w : World) :
    Calls Tryd.prog 9 #[.agg #[.int .i64 s, .int .i64 n]] w fun e w' => e = .returned (.bool (rightB s n)) ∧ w' = w.alloc (.cells #[.int .i64 s, .int .i64 n] 23) := by
  rcases right_cases s n with ⟨h1, hr⟩ | ⟨h1, h2, hr⟩ | ⟨h1, h2, h3, hr⟩ | ⟨h1, h2, h3, hr⟩
  all_goals
    rw [hr]
    clear hr
    go_enter Tryd.func9, Tryd.ntmps9
    go_wp2
    go_ret
    exact ⟨ret_bool (by first | rfl | exact decide_eq_false (by omega) | exact decide_eq_true (by omega)), rfl⟩

set_option maxHeartbeats 400000 in
theorem stime_bad (s n : Int) (w : World) (h : rightB s n = false) :
    Calls Tryd.prog 7 #[.agg #[.int .i64 s, .int .i64 n]] w fun e w' => e = .returned (.tuple #[.int .i64 0, .int .i64 2]) ∧ Below w.heap.size w w' := by
  go_enter Tryd.func7, Tryd.ntmps7
  go_wp2_with (go_at_call 8; refine (sright_any _ _ _).mono ?_; rintro e w' ⟨rfl, rfl⟩)
  go_ret2
  exact ⟨rfl, ((Below.refl _ _).alloc (Nat.le_refl _) _).alloc (by simp) _⟩

set_option maxHeartbeats 400000 in
theorem stime_good (s n : Int) (w : World) (h : rightB s n = true) (hs : s ≤ 9223372036854775807) :
    Calls Tryd.prog 7 #[.agg #[.int .i64 s, .int .i64 n]] w fun e w' => e = .returned (.tuple #[.int .i64 (timeZ s n), .int .i64 0]) ∧ Below w.heap.size w w' := by
  have hr := rightB_true h
  go_enter Tryd.func7, Tryd.ntmps7
  go_wp2_with (go_at_call 8; refine (sright_any _ _ _).mono ?_; rintro e w' ⟨rfl, rfl⟩)
  go_quiet ((first | (go_at_call 20; exact Calls.quiet_of_same (mul_any _ _ _ (by omega) (by omega))) | (go_at_call 19; exact Calls.quiet_of_same (add_world _ _ _))))
  go_wp2
  go_ret2
  exact ⟨rfl, below_drewN (((Below.refl _ _).alloc (Nat.le_refl _) _).alloc (by simp) _) _⟩

set_option maxHeartbeats 400000 in
theorem rtime_any (s n : Int) (w : World) (h0 : -9223372036854775808 ≤ s) (hs : s ≤ 9223372036854775807) :
    Calls Tryd.prog 10 #[.agg #[.int .i64 s, .int .i64 n]] w fun e w' => e = .returned (.int .i64 (timeZ s n)) ∧ Below w.heap.size w w' := by
  go_enter Tryd.func10, Tryd.ntmps10
  go_wp2
  go_quiet ((first | (go_at_call 22; exact Calls.quiet_of_same (rmul_any _ _ _ (by omega) (by omega))) | (go_at_call 21; exact Calls.quiet_of_same (radd_any _ _ _))))
  go_wp2
  go_ret
  exact ⟨rfl, below_drewN ((Below.refl _ _).alloc (Nat.le_refl _) _) _⟩

/-- The time that a time's spec is made of. -/
def ofZ (t : Int) : Int := if clampZ t < 0 then 0 else clampZ t
set_option maxHeartbeats 400000 in
theorem sof_any (t : Int) (w : World) :
    Calls Tryd.prog 11 #[.int .i64 t] w fun e w' => e = .returned (.agg #[.int .i64 (ofZ t / 1000000000), .int .i64 (ofZ t % 1000000000)]) ∧ Below w.heap.size w w' := by
  have hb := clampZ_bd t
  have ho : 0 ≤ ofZ t ∧ ofZ t ≤ 4611686018427387903 := by unfold ofZ; split <;> omega
  by_cases h : clampZ t < 0
  · have e1 : ofZ t = 0 := by unfold ofZ; rw [if_pos h]
    rw [e1]
    clear e1 ho
    go_enter Tryd.func11, Tryd.ntmps11
    go_wp2_with (go_at_call 23; refine (kclamp_any _ _).mono ?_; rintro e w' ⟨rfl, rfl⟩)
    exact bodyPost_ret (v := .agg #[.int .i64 0, .int .i64 0]) (by simp [results, Tryd.results11, go_sem]) rfl ⟨rfl, (Below.refl _ _).alloc (Nat.le_refl _) _⟩
  · have e1 : ofZ t = clampZ t := by unfold ofZ; rw [if_neg h]
    rw [e1]
    clear e1 ho
    go_enter Tryd.func11, Tryd.ntmps11
    go_wp2_with (go_at_call 23; refine (kclamp_any _ _).mono ?_; rintro e w' ⟨rfl, rfl⟩)
    exact bodyPost_ret (v := .agg #[.int .i64 (clampZ t / 1000000000), .int .i64 (clampZ t % 1000000000)]) (by simp [results, Tryd.results11, go_sem]) rfl ⟨rfl, (Below.refl _ _).alloc (Nat.le_refl _) _⟩
end Go.Proofs.YtihahbmmipnclaaDoor
