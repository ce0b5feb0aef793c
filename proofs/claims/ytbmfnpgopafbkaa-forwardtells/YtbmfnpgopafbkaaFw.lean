import Derived.Test.YtbmfnpgopafbkaaKt
import Derived.Test.YtbmfnpgopafbkaaFwMath
namespace Go.Proofs.Ytbmfnpgopafbkaa
open Go.RowKit Kt

set_option maxHeartbeats 400000 in
theorem periods_any (f t p : Int) (w : World) (h0 : -4611686018427387903 ≤ f) (h1 : f ≤ t) (h2 : t ≤ 4611686018427387903) (hp : 0 < p) (hp' : p ≤ 4611686018427387903) :
    Calls Try.prog 30 #[.int .i64 f, .int .i64 t, .int .i64 p] w fun e w' => e = .returned (.int .u64 ((t - f) / p)) ∧ w' = w := by
  go_enter Try.func30, Try.ntmps30
  go_wp2
  go_ret
  refine ⟨ret_int ?_, rfl⟩
  have e1 : IntKind.u64.wrap (IntKind.u64.wrap t - IntKind.u64.wrap f) = t - f := by simp only [IntKind.wrap_u64]; omega
  have e2 := Int.ediv_nonneg (a := t - f) (b := p) (by omega) (by omega)
  have e3 := Int.ediv_le_self (a := t - f) p (by omega)
  rw [e1, Int.tdiv_eq_ediv_of_nonneg (by omega)]
  simp only [IntKind.wrap_u64]; omega

set_option maxHeartbeats 1000000 in
theorem count_any (f p n : Int) (w : World) :
    Calls Try.prog 14 #[.int .i64 f, .int .i64 p, .int .i64 n] w fun e w' => e = .returned (.int .i64 (cntZ f p n)) ∧ w' = w := by
  have bf := clampZ_bd f
  have bp := clampZ_bd p
  have bn := clampZ_bd n
  have hl := cntC_le (clampZ f) (clampZ p) (clampZ n) bf.1
  have hn := cntC_nn (clampZ f) (clampZ p) (clampZ n)
  unfold cntZ
  have cF := kclamp_any f
  have cP := kclamp_any p
  have cM := kclamp_any n
  generalize clampZ f = F at *
  generalize clampZ p = P at *
  generalize clampZ n = M at *
  by_cases hM : 4611686018427387902 < M
  all_goals
    go_enter Try.func14, Try.ntmps14
    go_wp2_with (first | (go_at_call 29; (first | refine (cF _).mono ?_ | refine (cP _).mono ?_ | refine (cM _).mono ?_); rintro e w' ⟨rfl, rfl⟩) | (go_at_call 30; refine (periods_any _ _ _ _ (by omega) (by omega) (by omega) (by omega) (by omega)).mono ?_; rintro e w' ⟨rfl, rfl⟩))
    all_goals
      go_ret
      refine ⟨ret_int ?_, rfl⟩
      unfold cntC at *
      first | rw [Int.min_eq_right (a := M) (by omega)] at * | rw [Int.min_eq_left (a := M) (by omega)] at *
      repeat' split at *
      all_goals (first | omega | (simp only [wrap64]; omega))

set_option maxHeartbeats 1000000 in
theorem nth_any (f p n : Int) (w : World) (n0 : -9223372036854775808 ≤ n) (n1 : n ≤ 9223372036854775807) :
    Calls Try.prog 17 #[.int .i64 f, .int .i64 p, .int .i64 n] w fun e w' => e = .returned (.int .i64 (nthZ f p n)) ∧ w' = w := by
  have bf := clampZ_bd f
  have bp := clampZ_bd p
  unfold nthZ
  have cF := kclamp_any f
  have cP := kclamp_any p
  generalize clampZ f = F at *
  generalize clampZ p = P at *
  by_cases hn : n < 0
  · go_enter Try.func17, Try.ntmps17
    go_wp2_with (first | (go_at_call 29; (first | refine (cF _).mono ?_ | refine (cP _).mono ?_); rintro e w' ⟨rfl, rfl⟩))
    go_ret
    exact ⟨ret_int (by unfold nthC; rw [if_pos (.inl hn)]), rfl⟩
  cases hF : neverB F
  · have hF' : ¬ 4611686018427387903 ≤ F := by simpa [neverB] using hF
    by_cases hz : n = 0
    · subst hz
      go_enter Try.func17, Try.ntmps17
      go_wp2_with (first | (go_at_call 29; (first | refine (cF _).mono ?_ | refine (cP _).mono ?_); rintro e w' ⟨rfl, rfl⟩) | (go_at_call 31; refine (never_any _ _).mono ?_; rintro e w' ⟨rfl, rfl⟩))
      go_ret
      exact ⟨ret_int (nthC_zero (by omega)).symm, rfl⟩
    have hz1 : (n == 0) = false := by simp [hz]
    by_cases hP : P ≤ 0
    · have HC := hide (nthC_none (F := F) hz hP)
      clear hz
      go_enter Try.func17, Try.ntmps17
      go_wp2_with (first | (go_at_call 29; (first | refine (cF _).mono ?_ | refine (cP _).mono ?_); rintro e w' ⟨rfl, rfl⟩) | (go_at_call 31; refine (never_any _ _).mono ?_; rintro e w' ⟨rfl, rfl⟩))
      go_ret
      exact ⟨ret_int (unhide HC).symm, rfl⟩
    · have HC := hide (nthC_pos (F := F) (n := n) (P := P) (by omega) (by omega) (by omega))
      have hu : IntKind.u64.wrap n = n := by simp only [IntKind.wrap_u64]; omega
      have h1 := hide (Int.ediv_lt_iff_lt_mul (a := 4611686018427387902 - F) (b := n) (c := P) (by omega))
      have hnn := Int.mul_nonneg (a := n) (b := P) (by omega) (by omega)
      clear hz
      by_cases hq : (4611686018427387902 - F) / P < n
      all_goals
        have h2 := unhide h1
        go_enter Try.func17, Try.ntmps17
        go_wp2_with (first | (go_at_call 29; (first | refine (cF _).mono ?_ | refine (cP _).mono ?_); rintro e w' ⟨rfl, rfl⟩) | (go_at_call 31; refine (never_any _ _).mono ?_; rintro e w' ⟨rfl, rfl⟩) | (go_at_call 30; refine (periods_any _ _ _ _ (by omega) (by omega) (by omega) (by omega) (by omega)).mono ?_; rintro e w' ⟨rfl, rfl⟩))
        go_ret
        refine ⟨ret_int ?_, rfl⟩
        rw [unhide HC]
        have h3 := unhide h1
        first | omega | (simp only [wrap64]; omega)
  · have hF' : 4611686018427387903 ≤ F := by simpa [neverB] using hF
    go_enter Try.func17, Try.ntmps17
    go_wp2_with (first | (go_at_call 29; (first | refine (cF _).mono ?_ | refine (cP _).mono ?_); rintro e w' ⟨rfl, rfl⟩) | (go_at_call 31; refine (never_any _ _).mono ?_; rintro e w' ⟨rfl, rfl⟩))
    go_ret
    exact ⟨ret_int (nthC_never hF').symm, rfl⟩
end Go.Proofs.Ytbmfnpgopafbkaa
