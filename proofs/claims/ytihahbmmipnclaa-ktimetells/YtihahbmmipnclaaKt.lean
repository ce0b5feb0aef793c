import Derived.Test.YtihahbmmipnclaaRows
import Derived.Test.YtihahbmmipnclaaMath
import Derived.WalkKit
import Derived.WalkSpells
import Derived.WalkLawsBesides
import Derived.Lib.Mul64
import Derived.Laws.Bits64b
namespace Go.Proofs.Ytihahbmmipnclaa
open Go.RowKit Kt

theorem hide {p : Prop} (h : p) : Hid p := h
theorem unhide {p : Prop} (h : Hid p) : p := h
theorem ret_int {k : IntKind} {a b : Int} (h : a = b) : Ending.returned (.int k a) = .returned (.int k b) := by rw [h]
theorem ret_bool {a b : Bool} (h : a = b) : Ending.returned (.bool a) = .returned (.bool b) := by rw [h]

set_option maxHeartbeats 400000 in
theorem kclamp_any (a : Int) (w : World) :
    Calls Try.prog 10 #[.int .i64 a] w fun e w' => e = .returned (.int .i64 (clampZ a)) ∧ w' = w := by
  go_enter Try.func10, Try.ntmps10
  go_wp2
  all_goals
    go_ret
    refine ⟨ret_int ?_, rfl⟩
    unfold clampZ
    repeat' split at *
    all_goals omega

set_option maxHeartbeats 400000 in
theorem rclamp_any (a : Int) (w : World) :
    Calls Try.prog 9 #[.int .i64 a] w fun e w' => e = .returned (.int .i64 (clampZ a)) ∧ w' = w := by
  go_enter Try.func9, Try.ntmps9
  go_wp2
  all_goals
    go_ret
    refine ⟨ret_int ?_, rfl⟩
    unfold clampZ
    repeat' split
    all_goals omega

set_option maxHeartbeats 400000 in
theorem never_any (a : Int) (w : World) :
    Calls Try.prog 16 #[.int .i64 a] w fun e w' => e = .returned (.bool (neverB a)) ∧ w' = w := by
  go_enter Try.func16, Try.ntmps16
  go_wp2
  all_goals
    go_ret
    exact ⟨rfl, rfl⟩

theorem add_world (a b : Int) (w : World) :
    Calls Try.prog 11 #[.int .i64 a, .int .i64 b] w fun e w' => e = .returned (.int .i64 (addZ a b)) ∧ w' = w := by
  have ba := clampZ_bd a
  have bb := clampZ_bd b
  by_cases h : 4611686018427387903 ≤ a
  · have hn : neverB a = true := by simp [neverB, h]
    go_enter Try.func11, Try.ntmps11
    go_wp2_with (first | (go_at_call 16; refine (never_any _ _).mono ?_; rintro e w' ⟨rfl, rfl⟩) | (go_at_call 10; refine (kclamp_any _ _).mono ?_; rintro e w' ⟨rfl, rfl⟩))
    go_ret
    exact ⟨ret_int (by unfold addZ; split <;> first | rfl | omega), rfl⟩
  · have hn : neverB a = false := by simp [neverB, h]
    go_enter Try.func11, Try.ntmps11
    go_wp2_with (first | (go_at_call 16; refine (never_any _ _).mono ?_; rintro e w' ⟨rfl, rfl⟩) | (go_at_call 10; refine (kclamp_any _ _).mono ?_; rintro e w' ⟨rfl, rfl⟩))
    go_ret
    exact ⟨ret_int (by unfold addZ; split <;> first | rfl | omega), rfl⟩

theorem radd_any (a b : Int) (w : World) :
    Calls Try.prog 12 #[.int .i64 a, .int .i64 b] w fun e w' => e = .returned (.int .i64 (addZ a b)) ∧ w' = w := by
  have ba := clampZ_bd a
  have bb := clampZ_bd b
  by_cases h : 4611686018427387903 ≤ a
  all_goals
    go_enter Try.func12, Try.ntmps12
    go_wp2_with (go_at_call 9; refine (rclamp_any _ _).mono ?_; rintro e w' ⟨rfl, rfl⟩)
    go_ret
    exact ⟨ret_int (by unfold addZ; split <;> first | rfl | omega), rfl⟩

theorem rsub_any (a b : Int) (w : World) :
    Calls Try.prog 8 #[.int .i64 a, .int .i64 b] w fun e w' => e = .returned (.int .i64 (subZ a b)) ∧ w' = w := by
  have ba := clampZ_bd a
  have bb := clampZ_bd b
  by_cases h : 4611686018427387903 ≤ a
  all_goals
    go_enter Try.func8, Try.ntmps8
    go_wp2_with (go_at_call 9; refine (rclamp_any _ _).mono ?_; rintro e w' ⟨rfl, rfl⟩)
    go_ret
    exact ⟨ret_int (by unfold subZ; split <;> first | rfl | omega), rfl⟩

theorem sub_any (a b : Int) (w : World) :
    Calls Try.prog 13 #[.int .i64 a, .int .i64 b] w fun e w' => e = .returned (.int .i64 (subZ a b)) ∧ w' = w := by
  have bb := clampZ_bd b
  go_enter Try.func13, Try.ntmps13
  go_wp2_with (first | (go_at_call 10; refine (kclamp_any _ _).mono ?_; rintro e w' ⟨rfl, rfl⟩) | (go_at_call 11; refine (add_world _ _ _).mono ?_; rintro e w' ⟨rfl, rfl⟩))
  go_ret
  exact ⟨ret_int (addZ_neg a b), rfl⟩

theorem until_any (a b : Int) (w : World) :
    Calls Try.prog 17 #[.int .i64 a, .int .i64 b] w fun e w' => e = .returned (.int .i64 (untilZ a b)) ∧ w' = w := by
  by_cases h : subZ b a < 0
  all_goals
    go_enter Try.func17, Try.ntmps17
    go_wp2_with (go_at_call 13; refine (sub_any _ _ _).mono ?_; rintro e w' ⟨rfl, rfl⟩)
    go_ret
    exact ⟨ret_int (by unfold untilZ; split <;> first | rfl | omega), rfl⟩

theorem between_any (a b c : Int) (w : World) :
    Calls Try.prog 18 #[.int .i64 a, .int .i64 b, .int .i64 c] w fun e w' => e = .returned (.int .i64 (betweenZ a b c)) ∧ w' = w := by
  go_enter Try.func18, Try.ntmps18
  go_wp2_with (go_at_call 10; refine (kclamp_any _ _).mono ?_; rintro e w' ⟨rfl, rfl⟩)
  all_goals
    go_ret
    refine ⟨ret_int ?_, rfl⟩
    unfold betweenZ
    repeat' split at *
    all_goals omega
end Go.Proofs.Ytihahbmmipnclaa
