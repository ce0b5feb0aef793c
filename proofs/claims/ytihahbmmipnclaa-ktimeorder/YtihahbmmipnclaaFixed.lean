import Derived.Test.YtihahbmmipnclaaMul
import Derived.Test.YtihahbmmipnclaaFirst
import Derived.Deep.RegionWith
namespace Go.Proofs.Ytihahbmmipnclaa
open Go.RowKit Kt

theorem first_429 : firstZ (List.take 3 [4, 2, 9]) = 2 := by decide
theorem cell_429 (w : World) (k : Nat) (hk : k < 3) : (w.alloc (.cells #[.int .i64 4, .int .i64 2, .int .i64 9] 3)).cell? ⟨w.heap.size, 0 + k, none⟩ = some (.int .i64 (([4, 2, 9] : List Int)[k]?.getD 0)) := by
  match k, hk with
  | 0, _ => simp [go_sem]
  | 1, _ => simp [go_sem]
  | 2, _ => simp [go_sem]
theorem first_three (w : World) : Calls Try.prog 19 #[.slice (some ⟨w.heap.size, 0, none⟩) 3 3] (w.alloc (.cells #[.int .i64 4, .int .i64 2, .int .i64 9] 3)) fun e w' => e = .returned (.int .i64 2) ∧ w' = w.alloc (.cells #[.int .i64 4, .int .i64 2, .int .i64 9] 3) := by
  have h := first_some w.heap.size 0 3 3 [4, 2, 9] (w.alloc (.cells #[.int .i64 4, .int .i64 2, .int .i64 9] 3)) (by simp) (by omega) (cell_429 w)
  rw [first_429] at h
  exact h

set_option maxHeartbeats 400000 in
theorem fixed_any (w : World) :
    Calls Try.prog 7 #[] w fun e w' => e = .returned (.bool true) ∧ w' = w.alloc (.cells #[.int .i64 4, .int .i64 2, .int .i64 9] 3) := by
  have e1 : addZ 4611686018427387903 (-5) = 4611686018427387903 := by decide
  have e2 : addZ 2 3 = 5 := by decide
  have e3 : subZ 2 5 = -3 := by decide
  have e4 : mulZ (-3) 4 = -12 := by decide
  have e5 : mulZ 1099511627776 1099511627776 = 4611686018427387903 := by decide
  have e6 : neverB 4611686018427387903 = true := by decide
  have e7 : untilZ 7 5 = 0 := by decide
  have e8 : untilZ 5 7 = 2 := by decide
  have e9 : betweenZ 3 1 9 = 3 := by decide
  go_enter Try.func7, Try.ntmps7
  go_wp2_with (first | (go_at_call 11; refine (add_world _ _ _).mono ?_; rintro e w' ⟨rfl, rfl⟩) | (go_at_call 13; refine (sub_any _ _ _).mono ?_; rintro e w' ⟨rfl, rfl⟩) | (go_at_call 14; refine (mul_any _ _ _ (by omega) (by omega)).mono ?_; rintro e w' ⟨rfl, rfl⟩) | (go_at_call 16; refine (never_any _ _).mono ?_; rintro e w' ⟨rfl, rfl⟩) | (go_at_call 17; refine (until_any _ _ _).mono ?_; rintro e w' ⟨rfl, rfl⟩) | (go_at_call 18; refine (between_any _ _ _ _).mono ?_; rintro e w' ⟨rfl, rfl⟩) | (go_at_call 19; refine Hid.out ?_))
  refine hide ?_
  refine (first_nil _).mono ?_
  rintro e w' ⟨rfl, rfl⟩
  go_wp2_with (go_at_call 19; refine Hid.out ?_)
  refine hide ?_
  refine (first_three _).mono ?_
  rintro e w' ⟨rfl, rfl⟩
  go_wp2_with (go_at_call 18; refine (between_any _ _ _ _).mono ?_; rintro e w' ⟨rfl, rfl⟩)
  go_ret
  exact ⟨rfl, rfl⟩
end Go.Proofs.Ytihahbmmipnclaa
