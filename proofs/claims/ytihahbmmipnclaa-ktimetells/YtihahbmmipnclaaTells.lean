import Derived.Test.YtihahbmmipnclaaFixed
import Derived.Test.YtihahbmmipnclaaRmul
namespace Go.Proofs.Ytihahbmmipnclaa
open Go.RowKit Kt

theorem until_cases (a b : Int) : (4611686018427387903 ≤ b ∧ untilZ a b = 4611686018427387903) ∨ (b < 4611686018427387903 ∧ subZ b a < 0 ∧ untilZ a b = 0) ∨ (b < 4611686018427387903 ∧ 0 ≤ subZ b a ∧ untilZ a b = subZ b a) := by
  unfold untilZ
  by_cases h : 4611686018427387903 ≤ b
  · left
    have : subZ b a = 4611686018427387903 := by unfold subZ; rw [if_pos h]
    rw [this]; exact ⟨h, rfl⟩
  · right
    split
    · exact .inl ⟨by omega, by assumption, rfl⟩
    · exact .inr ⟨by omega, by omega, rfl⟩
theorem between_cases (a b c : Int) : (clampZ b < clampZ a ∧ clampZ c < clampZ a ∧ betweenZ a b c = clampZ c) ∨ (clampZ b < clampZ a ∧ clampZ a ≤ clampZ c ∧ betweenZ a b c = clampZ a) ∨ (clampZ a ≤ clampZ b ∧ clampZ c < clampZ b ∧ betweenZ a b c = clampZ c) ∨ (clampZ a ≤ clampZ b ∧ clampZ b ≤ clampZ c ∧ betweenZ a b c = clampZ b) := by
  unfold betweenZ; omega

set_option maxHeartbeats 2000000 in
theorem tells_walk (a b c : Int) (w : World) (b0 : -9223372036854775808 ≤ b) (b1 : b ≤ 9223372036854775807) :
    Calls Try.prog 3 #[.int .i64 a, .int .i64 b, .int .i64 c] w fun e w' => e = .returned (.bool true) ∧ w' = w.alloc (.cells #[.int .i64 4, .int .i64 2, .int .i64 9] 3) := by
  have hn : neverB a = decide (4611686018427387903 ≤ a) := rfl
  rcases until_cases a b with ⟨u0, u1⟩ | ⟨u0, u2, u1⟩ | ⟨u0, u2, u1⟩
  all_goals
    rcases between_cases a b c with ⟨c0, c1, c2⟩ | ⟨c0, c1, c2⟩ | ⟨c0, c1, c2⟩ | ⟨c0, c1, c2⟩
    all_goals
      go_enter Try.func3, Try.ntmps3
      go_wp2_with (first | (go_at_call 7; refine (fixed_any _).mono ?_; rintro e w' ⟨rfl, rfl⟩) | (go_at_call 9; refine (rclamp_any _ _).mono ?_; rintro e w' ⟨rfl, rfl⟩) | (go_at_call 8; refine (rsub_any _ _ _).mono ?_; rintro e w' ⟨rfl, rfl⟩) | (go_at_call 12; refine (radd_any _ _ _).mono ?_; rintro e w' ⟨rfl, rfl⟩) | (go_at_call 15; refine (rmul_any _ _ _ (by omega) (by omega)).mono ?_; rintro e w' ⟨rfl, rfl⟩) | (go_at_call 11; refine (add_world _ _ _).mono ?_; rintro e w' ⟨rfl, rfl⟩) | (go_at_call 13; refine (sub_any _ _ _).mono ?_; rintro e w' ⟨rfl, rfl⟩) | (go_at_call 14; refine (mul_any _ _ _ (by omega) (by omega)).mono ?_; rintro e w' ⟨rfl, rfl⟩) | (go_at_call 16; refine (never_any _ _).mono ?_; rintro e w' ⟨rfl, rfl⟩) | (go_at_call 10; refine (kclamp_any _ _).mono ?_; rintro e w' ⟨rfl, rfl⟩) | (go_at_call 17; refine (until_any _ _ _).mono ?_; rintro e w' ⟨rfl, rfl⟩) | (go_at_call 18; refine (between_any _ _ _ _).mono ?_; rintro e w' ⟨rfl, rfl⟩))
      go_ret
      exact ⟨rfl, rfl⟩
end Go.Proofs.Ytihahbmmipnclaa
