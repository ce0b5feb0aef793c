import Derived.Test.YtkglaklkbodjkaaRows
import Derived.Test.YtkglaklkbodjkaaKtMath
import Derived.WalkKit
import Derived.WalkSpells
import Derived.WalkLawsBesides
import Derived.Lib.Mul64
import Derived.Laws.Bits64b
namespace Go.Proofs.Ytkglaklkbodjkaa
open Go.RowKit Kt

theorem hide {p : Prop} (h : p) : Hid p := h
theorem unhide {p : Prop} (h : Hid p) : p := h
theorem ret_int {k : IntKind} {a b : Int} (h : a = b) : Ending.returned (.int k a) = .returned (.int k b) := by rw [h]
theorem ret_bool {a b : Bool} (h : a = b) : Ending.returned (.bool a) = .returned (.bool b) := by rw [h]

set_option maxHeartbeats 400000 in
theorem kclamp_any (a : Int) (w : World) :
    Calls Try.prog 60 #[.int .i64 a] w fun e w' => e = .returned (.int .i64 (clampZ a)) ∧ w' = w := by
  go_enter Try.func60, Try.ntmps60
  go_wp2
  all_goals
    go_ret
    refine ⟨ret_int ?_, rfl⟩
    unfold clampZ
    repeat' split at *
    all_goals omega

set_option maxHeartbeats 400000 in
theorem rclamp_any (a : Int) (w : World) :
    Calls Try.prog 41 #[.int .i64 a] w fun e w' => e = .returned (.int .i64 (clampZ a)) ∧ w' = w := by
  go_enter Try.func41, Try.ntmps41
  go_wp2
  all_goals
    go_ret
    refine ⟨ret_int ?_, rfl⟩
    unfold clampZ
    repeat' split
    all_goals omega

set_option maxHeartbeats 400000 in
theorem never_any (a : Int) (w : World) :
    Calls Try.prog 65 #[.int .i64 a] w fun e w' => e = .returned (.bool (neverB a)) ∧ w' = w := by
  go_enter Try.func65, Try.ntmps65
  go_wp2
  all_goals
    go_ret
    exact ⟨rfl, rfl⟩

theorem add_world (a b : Int) (w : World) :
    Calls Try.prog 64 #[.int .i64 a, .int .i64 b] w fun e w' => e = .returned (.int .i64 (addZ a b)) ∧ w' = w := by
  have ba := clampZ_bd a
  have bb := clampZ_bd b
  by_cases h : 4611686018427387903 ≤ a
  · have hn : neverB a = true := by simp [neverB, h]
    go_enter Try.func64, Try.ntmps64
    go_wp2_with (first | (go_at_call 65; refine (never_any _ _).mono ?_; rintro e w' ⟨rfl, rfl⟩) | (go_at_call 60; refine (kclamp_any _ _).mono ?_; rintro e w' ⟨rfl, rfl⟩))
    go_ret
    exact ⟨ret_int (by unfold addZ; split <;> first | rfl | omega), rfl⟩
  · have hn : neverB a = false := by simp [neverB, h]
    go_enter Try.func64, Try.ntmps64
    go_wp2_with (first | (go_at_call 65; refine (never_any _ _).mono ?_; rintro e w' ⟨rfl, rfl⟩) | (go_at_call 60; refine (kclamp_any _ _).mono ?_; rintro e w' ⟨rfl, rfl⟩))
    go_ret
    exact ⟨ret_int (by unfold addZ; split <;> first | rfl | omega), rfl⟩

theorem radd_any (a b : Int) (w : World) :
    Calls Try.prog 42 #[.int .i64 a, .int .i64 b] w fun e w' => e = .returned (.int .i64 (addZ a b)) ∧ w' = w := by
  have ba := clampZ_bd a
  have bb := clampZ_bd b
  by_cases h : 4611686018427387903 ≤ a
  all_goals
    go_enter Try.func42, Try.ntmps42
    go_wp2_with (go_at_call 41; refine (rclamp_any _ _).mono ?_; rintro e w' ⟨rfl, rfl⟩)
    go_ret
    exact ⟨ret_int (by unfold addZ; split <;> first | rfl | omega), rfl⟩

theorem rsub_any (a b : Int) (w : World) :
    Calls Try.prog 35 #[.int .i64 a, .int .i64 b] w fun e w' => e = .returned (.int .i64 (subZ a b)) ∧ w' = w := by
  have ba := clampZ_bd a
  have bb := clampZ_bd b
  by_cases h : 4611686018427387903 ≤ a
  all_goals
    go_enter Try.func35, Try.ntmps35
    go_wp2_with (go_at_call 41; refine (rclamp_any _ _).mono ?_; rintro e w' ⟨rfl, rfl⟩)
    go_ret
    exact ⟨ret_int (by unfold subZ; split <;> first | rfl | omega), rfl⟩

theorem sub_any (a b : Int) (w : World) :
    Calls Try.prog 59 #[.int .i64 a, .int .i64 b] w fun e w' => e = .returned (.int .i64 (subZ a b)) ∧ w' = w := by
  have bb := clampZ_bd b
  go_enter Try.func59, Try.ntmps59
  go_wp2_with (first | (go_at_call 60; refine (kclamp_any _ _).mono ?_; rintro e w' ⟨rfl, rfl⟩) | (go_at_call 64; refine (add_world _ _ _).mono ?_; rintro e w' ⟨rfl, rfl⟩))
  go_ret
  exact ⟨ret_int (addZ_neg a b), rfl⟩


theorem between_any (a b c : Int) (w : World) :
    Calls Try.prog 66 #[.int .i64 a, .int .i64 b, .int .i64 c] w fun e w' => e = .returned (.int .i64 (betweenZ a b c)) ∧ w' = w := by
  go_enter Try.func66, Try.ntmps66
  go_wp2_with (go_at_call 60; refine (kclamp_any _ _).mono ?_; rintro e w' ⟨rfl, rfl⟩)
  all_goals
    go_ret
    refine ⟨ret_int ?_, rfl⟩
    unfold betweenZ
    repeat' split at *
    all_goals omega
end Go.Proofs.Ytkglaklkbodjkaa
