import Derived.Test.YtihfldjoogaolaaTm
import Derived.Test.YtihfldjoogaolaaRows
import Derived.Test.YtihfldjoogaolaaKtMath
import Derived.WalkKit
import Derived.WalkSpells
import Derived.WalkLawsBesides
import Derived.Lib.Mul64
import Derived.Laws.Bits64b
namespace Go.Proofs.Ytihfldjoogaolaa
open Go.RowKit Kt

theorem ret_bool {a b : Bool} (h : a = b) : Ending.returned (.bool a) = .returned (.bool b) := by rw [h]

set_option maxHeartbeats 400000 in
theorem kclamp_any (a : Int) (w : World) :
    Calls Try.prog 19 #[.int .i64 a] w fun e w' => e = .returned (.int .i64 (clampZ a)) ∧ w' = w := by
  go_enter Try.func19, Try.ntmps19
  go_wp2
  all_goals
    go_ret
    refine ⟨ret_int ?_, rfl⟩
    unfold clampZ
    repeat' split at *
    all_goals omega

set_option maxHeartbeats 400000 in
theorem rclamp_any (a : Int) (w : World) :
    Calls Try.prog 12 #[.int .i64 a] w fun e w' => e = .returned (.int .i64 (clampZ a)) ∧ w' = w := by
  go_enter Try.func12, Try.ntmps12
  go_wp2
  all_goals
    go_ret
    refine ⟨ret_int ?_, rfl⟩
    unfold clampZ
    repeat' split
    all_goals omega

set_option maxHeartbeats 400000 in
theorem never_any (a : Int) (w : World) :
    Calls Try.prog 40 #[.int .i64 a] w fun e w' => e = .returned (.bool (neverB a)) ∧ w' = w := by
  go_enter Try.func40, Try.ntmps40
  go_wp2
  all_goals
    go_ret
    exact ⟨rfl, rfl⟩

theorem add_world (a b : Int) (w : World) :
    Calls Try.prog 39 #[.int .i64 a, .int .i64 b] w fun e w' => e = .returned (.int .i64 (addZ a b)) ∧ w' = w := by
  have ba := clampZ_bd a
  have bb := clampZ_bd b
  by_cases h : 4611686018427387903 ≤ a
  · have hn : neverB a = true := by simp [neverB, h]
    go_enter Try.func39, Try.ntmps39
    go_wp2_with (first | (go_at_call 40; refine (never_any _ _).mono ?_; rintro e w' ⟨rfl, rfl⟩) | (go_at_call 19; refine (kclamp_any _ _).mono ?_; rintro e w' ⟨rfl, rfl⟩))
    go_ret
    exact ⟨ret_int (by unfold addZ; split <;> first | rfl | omega), rfl⟩
  · have hn : neverB a = false := by simp [neverB, h]
    go_enter Try.func39, Try.ntmps39
    go_wp2_with (first | (go_at_call 40; refine (never_any _ _).mono ?_; rintro e w' ⟨rfl, rfl⟩) | (go_at_call 19; refine (kclamp_any _ _).mono ?_; rintro e w' ⟨rfl, rfl⟩))
    go_ret
    exact ⟨ret_int (by unfold addZ; split <;> first | rfl | omega), rfl⟩



theorem sub_any (a b : Int) (w : World) :
    Calls Try.prog 29 #[.int .i64 a, .int .i64 b] w fun e w' => e = .returned (.int .i64 (subZ a b)) ∧ w' = w := by
  have bb := clampZ_bd b
  go_enter Try.func29, Try.ntmps29
  go_wp2_with (first | (go_at_call 19; refine (kclamp_any _ _).mono ?_; rintro e w' ⟨rfl, rfl⟩) | (go_at_call 39; refine (add_world _ _ _).mono ?_; rintro e w' ⟨rfl, rfl⟩))
  go_ret
  exact ⟨ret_int (addZ_neg a b), rfl⟩

theorem until_any (a b : Int) (w : World) :
    Calls Try.prog 21 #[.int .i64 a, .int .i64 b] w fun e w' => e = .returned (.int .i64 (untilZ a b)) ∧ w' = w := by
  by_cases h : subZ b a < 0
  all_goals
    go_enter Try.func21, Try.ntmps21
    go_wp2_with (go_at_call 29; refine (sub_any _ _ _).mono ?_; rintro e w' ⟨rfl, rfl⟩)
    go_ret
    exact ⟨ret_int (by unfold untilZ; split <;> first | rfl | omega), rfl⟩

end Go.Proofs.Ytihfldjoogaolaa
