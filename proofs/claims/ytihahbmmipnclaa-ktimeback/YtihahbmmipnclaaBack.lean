import Derived.Test.YtihahbmmipnclaaFixed
namespace Go.Proofs.Ytihahbmmipnclaa
open Go.RowKit Kt

theorem addZ_small {x y : Int} (h1 : -4294967296 ≤ x) (h2 : x ≤ 4294967296) (h3 : -4294967296 ≤ y) (h4 : y ≤ 4294967296) : addZ x y = x + y := by
  unfold addZ
  rw [if_neg (by omega), clampZ_id (t := x) (by omega) (by omega), clampZ_id (t := y) (by omega) (by omega), clampZ_id (by omega) (by omega)]
theorem subZ_small {x y : Int} (h1 : -4294967296 ≤ x) (h2 : x ≤ 4294967296) (h3 : -4294967296 ≤ y) (h4 : y ≤ 4294967296) : subZ x y = x - y := by
  unfold subZ
  rw [if_neg (by omega), clampZ_id (t := x) (by omega) (by omega), clampZ_id (t := y) (by omega) (by omega), clampZ_id (by omega) (by omega)]
theorem mulZ_small_comm {x y : Int} (h1 : -4294967296 ≤ x) (h2 : x ≤ 4294967296) (h3 : -4294967296 ≤ y) (h4 : y ≤ 4294967296) : mulZ x y = mulZ y x := by
  unfold mulZ
  rw [clampZ_id (t := x) (by omega) (by omega), clampZ_id (t := y) (by omega) (by omega), Int.mul_comm]

set_option maxHeartbeats 2000000 in
theorem back_walk (x y n : Int) (w : World) (x0 : -2147483648 ≤ x) (x1 : x ≤ 2147483647) (y0 : -2147483648 ≤ y) (y1 : y ≤ 2147483647) (n0 : -2147483648 ≤ n) (n1 : n ≤ 2147483647) :
    Calls Try.prog 6 #[.int .i32 x, .int .i32 y, .int .i32 n] w fun e w' => e = .returned (.bool true) ∧ w' = w.alloc (.cells #[.int .i64 4, .int .i64 2, .int .i64 9] 3) := by
  have e1 : subZ (addZ x y) y = x := by rw [addZ_small (by omega) (by omega) (by omega) (by omega), subZ_small (by omega) (by omega) (by omega) (by omega)]; omega
  have e3 : (mulZ x y == mulZ y x) = true := by rw [beq_iff_eq]; exact mulZ_small_comm (by omega) (by omega) (by omega) (by omega)
  have e5 : (subZ x y == addZ x (-y)) = true := by rw [beq_iff_eq, addZ_small (by omega) (by omega) (by omega) (by omega), subZ_small (by omega) (by omega) (by omega) (by omega)]; omega
  have eu : untilZ n x = if x - n < 0 then 0 else x - n := by unfold untilZ; rw [subZ_small (by omega) (by omega) (by omega) (by omega)]
  by_cases hn : n < x
  all_goals
    by_cases hxy : x < y
    all_goals
      have e4 : x ≤ betweenZ x n (if x < y then y else x) := by
        unfold betweenZ
        rw [clampZ_id (t := x) (by omega) (by omega), clampZ_id (t := n) (by omega) (by omega), clampZ_id (t := if x < y then y else x) (by split <;> omega) (by split <;> omega)]
        split <;> omega
      have e2 : addZ n (untilZ n x) = if n < x then x else n := by
        rw [eu]; split <;> rw [addZ_small (by omega) (by omega) (by omega) (by omega)] <;> (try split) <;> omega
      simp only [hn, hxy, if_true, if_false] at e4 e2
      clear eu
      go_enter Try.func6, Try.ntmps6
      go_wp2_with (first | (go_at_call 7; refine (fixed_any _).mono ?_; rintro e w' ⟨rfl, rfl⟩) | (go_at_call 11; refine (add_world _ _ _).mono ?_; rintro e w' ⟨rfl, rfl⟩) | (go_at_call 13; refine (sub_any _ _ _).mono ?_; rintro e w' ⟨rfl, rfl⟩) | (go_at_call 14; refine (mul_any _ _ _ (by omega) (by omega)).mono ?_; rintro e w' ⟨rfl, rfl⟩) | (go_at_call 17; refine (until_any _ _ _).mono ?_; rintro e w' ⟨rfl, rfl⟩) | (go_at_call 18; refine (between_any _ _ _ _).mono ?_; rintro e w' ⟨rfl, rfl⟩))
      go_ret
      exact ⟨rfl, rfl⟩
end Go.Proofs.Ytihahbmmipnclaa
