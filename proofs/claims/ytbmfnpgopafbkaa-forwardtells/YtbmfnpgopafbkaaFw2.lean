import Derived.Test.YtbmfnpgopafbkaaFw
namespace Go.Proofs.Ytbmfnpgopafbkaa
open Go.RowKit Kt

theorem cntZ_bd (f p n : Int) : 0 ≤ cntZ f p n ∧ cntZ f p n ≤ 9223372036854775806 := ⟨cntC_nn _ _ _, cntC_le _ _ _ (clampZ_bd f).1⟩
theorem nthZ_bd (f p n : Int) : -4611686018427387903 ≤ nthZ f p n ∧ nthZ f p n ≤ 4611686018427387903 := nthC_bd _ _ _ (clampZ_bd f).1

set_option maxHeartbeats 400000 in
theorem next_any (f p n : Int) (w : World) :
    Calls Try.prog 13 #[.int .i64 f, .int .i64 p, .int .i64 n] w fun e w' => e = .returned (.tuple #[.int .i64 (nthZ f p (cntZ f p n)), .int .i64 (cntZ f p n)]) ∧ w' = w := by
  have hc := cntZ_bd f p n
  have cC := count_any f p n
  have cN := fun w => nth_any f p (cntZ f p n) w (by omega) (by omega)
  generalize cntZ f p n = C at *
  go_enter Try.func13, Try.ntmps13
  go_wp2_with (first | (go_at_call 14; refine (cC _).mono ?_; rintro e w' ⟨rfl, rfl⟩) | (go_at_call 17; refine (cN _).mono ?_; rintro e w' ⟨rfl, rfl⟩))
  go_ret2
  exact ⟨rfl, rfl⟩

def overZ (n : Int) : Int := min (max n 0) 2147483647
set_option maxHeartbeats 400000 in
theorem over_any (n : Int) (w : World) :
    Calls Try.prog 18 #[.int .i64 n] w fun e w' => e = .returned (.int .i64 (overZ n)) ∧ w' = w := by
  go_enter Try.func18, Try.ntmps18
  go_wp2
  all_goals
    go_ret
    refine ⟨ret_int ?_, rfl⟩
    unfold overZ
    repeat' split at *
    all_goals omega

set_option maxHeartbeats 400000 in
theorem phase_none (f p n : Int) (w : World) (h : cntZ f p n = 0) :
    Calls Try.prog 15 #[.int .i64 f, .int .i64 p, .int .i64 n] w fun e w' => e = .returned (.tuple #[.int .i64 0, .bool false]) ∧ w' = w := by
  have cC := count_any f p n
  rw [h] at cC
  go_enter Try.func15, Try.ntmps15
  go_wp2_with (go_at_call 14; refine (cC _).mono ?_; rintro e w' ⟨rfl, rfl⟩)
  go_ret2
  exact ⟨rfl, rfl⟩
set_option maxHeartbeats 400000 in
theorem phase_some (f p n : Int) (w : World) (h : cntZ f p n ≠ 0) :
    Calls Try.prog 15 #[.int .i64 f, .int .i64 p, .int .i64 n] w fun e w' => e = .returned (.tuple #[.int .i64 (clampZ n - nthZ f p (cntZ f p n - 1)), .bool true]) ∧ w' = w := by
  have hc := cntZ_bd f p n
  have cC := count_any f p n
  have cN := fun w => nth_any f p (cntZ f p n - 1) w (by omega) (by omega)
  have bN := nthZ_bd f p (cntZ f p n - 1)
  have bn := clampZ_bd n
  have cM := kclamp_any n
  generalize cntZ f p n = C at *
  generalize nthZ f p (C - 1) = T at *
  generalize clampZ n = M at *
  have hz : (C == 0) = false := by simp [h]
  clear h
  go_enter Try.func15, Try.ntmps15
  go_wp2_with (first | (go_at_call 14; refine (cC _).mono ?_; rintro e w' ⟨rfl, rfl⟩) | (go_at_call 17; refine (cN _).mono ?_; rintro e w' ⟨rfl, rfl⟩) | (go_at_call 29; refine (cM _).mono ?_; rintro e w' ⟨rfl, rfl⟩))
  go_ret2
  exact ⟨rfl, rfl⟩
def phaseZ (f p n : Int) : Int := if cntZ f p n = 0 then 0 else clampZ n - nthZ f p (cntZ f p n - 1)
def phaseB (f p n : Int) : Bool := if cntZ f p n = 0 then false else true
theorem phase_any (f p n : Int) (w : World) :
    Calls Try.prog 15 #[.int .i64 f, .int .i64 p, .int .i64 n] w fun e w' => e = .returned (.tuple #[.int .i64 (phaseZ f p n), .bool (phaseB f p n)]) ∧ w' = w := by
  unfold phaseZ phaseB
  by_cases h : cntZ f p n = 0
  · rw [if_pos h, if_pos h]; exact phase_none f p n w h
  · rw [if_neg h, if_neg h]; exact phase_some f p n w h
end Go.Proofs.Ytbmfnpgopafbkaa
