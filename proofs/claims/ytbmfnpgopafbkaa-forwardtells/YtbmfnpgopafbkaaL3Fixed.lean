import Derived.Test.YtbmfnpgopafbkaaFw3
namespace Go.Proofs.Ytbmfnpgopafbkaa
open Go.RowKit Kt

set_option maxHeartbeats 1000000 in
theorem fixed3_any (w : World) :
    Calls Try.prog 10 #[] w fun e w' => e = .returned (.bool true) ∧ w' = w := by
  have e1 : nthZ 10 5 (cntZ 10 5 20) = 25 := by decide
  have e2 : cntZ 10 5 20 = 3 := by decide
  have e3 : phaseZ 10 5 22 = 2 := by decide
  have e4 : phaseB 10 5 22 = true := by decide
  have e5 : phaseB 10 5 9 = false := by decide
  have e6 : nthZ 10 0 (cntZ 10 0 20) = 4611686018427387903 := by decide
  have e7 : cntZ 10 0 20 = 1 := by decide
  have e8 : cntZ 10 5 9 = 0 := by decide
  have e9 : nthZ 10 5 3 = 25 := by decide
  have e10 : nthZ 10 5 (-1) = 4611686018427387903 := by decide
  have e11 : overZ (-1) = 0 := by decide
  have e12 : overZ 1099511627776 = 2147483647 := by decide
  rw [e2] at e1
  rw [e7] at e6
  go_enter Try.func10, Try.ntmps10
  go_wp2_with (first | (go_at_call 13; refine (next_any _ _ _ _).mono ?_; rintro e w' ⟨rfl, rfl⟩) | (go_at_call 15; refine (phase_any _ _ _ _).mono ?_; rintro e w' ⟨rfl, rfl⟩) | (go_at_call 14; refine (count_any _ _ _ _).mono ?_; rintro e w' ⟨rfl, rfl⟩) | (go_at_call 17; refine (nth_any _ _ _ _ (by omega) (by omega)).mono ?_; rintro e w' ⟨rfl, rfl⟩) | (go_at_call 18; refine (over_any _ _).mono ?_; rintro e w' ⟨rfl, rfl⟩))
  go_ret
  exact ⟨rfl, rfl⟩
end Go.Proofs.Ytbmfnpgopafbkaa
