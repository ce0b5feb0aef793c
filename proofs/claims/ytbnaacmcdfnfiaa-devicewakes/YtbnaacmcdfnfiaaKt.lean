import Derived.Test.YtbnaacmcdfnfiaaRows
import Derived.Test.YtbnaacmcdfnfiaaKtMath
import Derived.WalkKit
import Derived.WalkSpells
import Derived.WalkLawsBesides
import Derived.Lib.Mul64
import Derived.Laws.Bits64b
namespace Go.Proofs.Ytbnaacmcdfnfiaa
open Go.RowKit Kt

theorem hide {p : Prop} (h : p) : Hid p := h
theorem unhide {p : Prop} (h : Hid p) : p := h
theorem ret_int {k : IntKind} {a b : Int} (h : a = b) : Ending.returned (.int k a) = .returned (.int k b) := by rw [h]
theorem ret_bool {a b : Bool} (h : a = b) : Ending.returned (.bool a) = .returned (.bool b) := by rw [h]

set_option maxHeartbeats 400000 in
theorem kclamp_any (a : Int) (w : World) :
    Calls Try.prog 38 #[.int .i64 a] w fun e w' => e = .returned (.int .i64 (clampZ a)) ∧ w' = w := by
  go_enter Try.func38, Try.ntmps38
  go_wp2
  all_goals
    go_ret
    refine ⟨ret_int ?_, rfl⟩
    unfold clampZ
    repeat' split at *
    all_goals omega

set_option maxHeartbeats 400000 in
theorem rclamp_any (a : Int) (w : World) :
    Calls Try.prog 27 #[.int .i64 a] w fun e w' => e = .returned (.int .i64 (clampZ a)) ∧ w' = w := by
  go_enter Try.func27, Try.ntmps27
  go_wp2
  all_goals
    go_ret
    refine ⟨ret_int ?_, rfl⟩
    unfold clampZ
    repeat' split
    all_goals omega

set_option maxHeartbeats 400000 in
theorem never_any (a : Int) (w : World) :
    Calls Try.prog 41 #[.int .i64 a] w fun e w' => e = .returned (.bool (neverB a)) ∧ w' = w := by
  go_enter Try.func41, Try.ntmps41
  go_wp2
  all_goals
    go_ret
    exact ⟨rfl, rfl⟩

theorem add_world (a b : Int) (w : World) :
    Calls Try.prog 40 #[.int .i64 a, .int .i64 b] w fun e w' => e = .returned (.int .i64 (addZ a b)) ∧ w' = w := by
  have ba := clampZ_bd a
  have bb := clampZ_bd b
  by_cases h : 4611686018427387903 ≤ a
  · have hn : neverB a = true := by simp [neverB, h]
    go_enter Try.func40, Try.ntmps40
    go_wp2_with (first | (go_at_call 41; refine (never_any _ _).mono ?_; rintro e w' ⟨rfl, rfl⟩) | (go_at_call 38; refine (kclamp_any _ _).mono ?_; rintro e w' ⟨rfl, rfl⟩))
    go_ret
    exact ⟨ret_int (by unfold addZ; split <;> first | rfl | omega), rfl⟩
  · have hn : neverB a = false := by simp [neverB, h]
    go_enter Try.func40, Try.ntmps40
    go_wp2_with (first | (go_at_call 41; refine (never_any _ _).mono ?_; rintro e w' ⟨rfl, rfl⟩) | (go_at_call 38; refine (kclamp_any _ _).mono ?_; rintro e w' ⟨rfl, rfl⟩))
    go_ret
    exact ⟨ret_int (by unfold addZ; split <;> first | rfl | omega), rfl⟩

theorem radd_any (a b : Int) (w : World) :
    Calls Try.prog 28 #[.int .i64 a, .int .i64 b] w fun e w' => e = .returned (.int .i64 (addZ a b)) ∧ w' = w := by
  have ba := clampZ_bd a
  have bb := clampZ_bd b
  by_cases h : 4611686018427387903 ≤ a
  all_goals
    go_enter Try.func28, Try.ntmps28
    go_wp2_with (go_at_call 27; refine (rclamp_any _ _).mono ?_; rintro e w' ⟨rfl, rfl⟩)
    go_ret
    exact ⟨ret_int (by unfold addZ; split <;> first | rfl | omega), rfl⟩

theorem rsub_any (a b : Int) (w : World) :
    Calls Try.prog 21 #[.int .i64 a, .int .i64 b] w fun e w' => e = .returned (.int .i64 (subZ a b)) ∧ w' = w := by
  have ba := clampZ_bd a
  have bb := clampZ_bd b
  by_cases h : 4611686018427387903 ≤ a
  all_goals
    go_enter Try.func21, Try.ntmps21
    go_wp2_with (go_at_call 27; refine (rclamp_any _ _).mono ?_; rintro e w' ⟨rfl, rfl⟩)
    go_ret
    exact ⟨ret_int (by unfold subZ; split <;> first | rfl | omega), rfl⟩

theorem sub_any (a b : Int) (w : World) :
    Calls Try.prog 37 #[.int .i64 a, .int .i64 b] w fun e w' => e = .returned (.int .i64 (subZ a b)) ∧ w' = w := by
  have bb := clampZ_bd b
  go_enter Try.func37, Try.ntmps37
  go_wp2_with (first | (go_at_call 38; refine (kclamp_any _ _).mono ?_; rintro e w' ⟨rfl, rfl⟩) | (go_at_call 40; refine (add_world _ _ _).mono ?_; rintro e w' ⟨rfl, rfl⟩))
  go_ret
  exact ⟨ret_int (addZ_neg a b), rfl⟩


theorem between_any (a b c : Int) (w : World) :
    Calls Try.prog 42 #[.int .i64 a, .int .i64 b, .int .i64 c] w fun e w' => e = .returned (.int .i64 (betweenZ a b c)) ∧ w' = w := by
  go_enter Try.func42, Try.ntmps42
  go_wp2_with (go_at_call 38; refine (kclamp_any _ _).mono ?_; rintro e w' ⟨rfl, rfl⟩)
  all_goals
    go_ret
    refine ⟨ret_int ?_, rfl⟩
    unfold betweenZ
    repeat' split at *
    all_goals omega
end Go.Proofs.Ytbnaacmcdfnfiaa
