import Derived.Test.YtbmfnpgopafbkaaL3Fixed
namespace Go.Proofs.Ytbmfnpgopafbkaa
open Go.RowKit Kt

/-- The count, laid open: nothing has come, or the last one that came, and none behind it. -/
theorem cnt_cases (F P M : Int) (hF : F ≤ 4611686018427387903) : (cntC F P M = 0 ∧ (M < F ∨ 4611686018427387903 ≤ F) ∧ nthC F P 0 = F) ∨
    (0 < cntC F P M ∧ nthC F P (cntC F P M - 1) = F + (cntC F P M - 1) * P ∧ F + (cntC F P M - 1) * P ≤ M ∧ F + (cntC F P M - 1) * P ≤ 4611686018427387902 ∧ (M < nthC F P (cntC F P M) ∨ 4611686018427387903 ≤ nthC F P (cntC F P M)) ∧ (P ≤ 0 → cntC F P M = 1)) := by
  have hn := cntC_nn F P M
  by_cases hz : cntC F P M = 0
  · have := cntC_zero.1 hz
    exact .inl ⟨hz, by omega, nthC_zero hF⟩
  · right
    have hE : F ≤ min M 4611686018427387902 := by
      by_cases h : min M 4611686018427387902 < F
      · exact absurd (cntC_zero.2 h) hz
      · omega
    by_cases hP : P ≤ 0
    · have e : cntC F P M = 1 := by unfold cntC; rw [if_neg (by omega), if_pos hP]
      rw [e, show (1 : Int) - 1 = 0 from rfl, nthC_zero hF, nthC_none (n := 1) (by omega) hP]
      simp; omega
    · have e : cntC F P M = (min M 4611686018427387902 - F) / P + 1 := by unfold cntC; rw [if_neg (by omega), if_neg hP]
      have h1 := Int.ediv_mul_le (min M 4611686018427387902 - F) (b := P) (by omega)
      have h2 := Int.lt_ediv_add_one_mul_self (min M 4611686018427387902 - F) (b := P) (by omega)
      rw [e, show (min M 4611686018427387902 - F) / P + 1 - 1 = (min M 4611686018427387902 - F) / P by omega]
      have h0 := Int.ediv_nonneg (a := min M 4611686018427387902 - F) (b := P) (by omega) (by omega)
      generalize (min M 4611686018427387902 - F) / P = q at *
      refine ⟨by omega, ?_, by omega, by omega, ?_, fun h => absurd h hP⟩
      · by_cases hq : q = 0
        · subst hq; rw [nthC_zero hF]; simp
        · rw [nthC_pos (by omega) (by omega) (by omega)]; omega
      · rw [nthC_pos (by omega) (by omega) (by omega)]; omega

set_option maxRecDepth 100000 in
set_option maxHeartbeats 4000000 in
theorem llater_walk (f p n : Int) (w : World) :
    Calls Try.prog 5 #[.int .i64 f, .int .i64 p, .int .i64 n] w fun e w' => e = .returned (.bool true) ∧ Below w.heap.size w w' := by
  have hcs := cnt_cases (clampZ f) (clampZ p) (clampZ n) (clampZ_bd f).2
  have bC := cntZ_bd f p n
  have bT := nthZ_bd f p (cntZ f p n)
  have hO : 0 ≤ overZ (cntZ f p n) ∧ overZ (cntZ f p n) ≤ 2147483647 ∧ overZ (cntZ f p n) ≤ cntZ f p n := by unfold overZ; omega
  rw [show cntC (clampZ f) (clampZ p) (clampZ n) = cntZ f p n from rfl, show nthC (clampZ f) (clampZ p) (cntZ f p n) = nthZ f p (cntZ f p n) from rfl, show nthC (clampZ f) (clampZ p) (cntZ f p n - 1) = nthZ f p (cntZ f p n - 1) from rfl, show nthC (clampZ f) (clampZ p) 0 = nthZ f p 0 from rfl] at hcs
  obtain ⟨C, hC⟩ : ∃ C, cntZ f p n = C := ⟨_, rfl⟩
  rw [hC] at hcs bC bT hO
  obtain ⟨T, hT⟩ : ∃ T, nthZ f p C = T := ⟨_, rfl⟩
  rw [hT] at hcs bT
  obtain ⟨L, hL⟩ : ∃ L, nthZ f p (C - 1) = L := ⟨_, rfl⟩
  rw [hL] at hcs
  rcases hcs with ⟨c0, c1, c2⟩ | ⟨c0, c1, c2, c3, c4, -⟩
  · subst c0
    rw [hT] at c2
    replace c2 := c2.symm
    have c1' : clampZ n < T ∨ (T ≤ clampZ n ∧ 4611686018427387903 ≤ T) := by omega
    clear c1
    rcases c1' with c1 | ⟨c1, c3⟩
    all_goals
      go_enter Try.func5, Try.ntmps5
      go_wp2_with (first | (go_at_call 10; refine (fixed3_any _).mono ?_; rintro e w' ⟨rfl, rfl⟩) | (go_at_call 16; refine (rclamp_any _ _).mono ?_; rintro e w' ⟨rfl, rfl⟩) | (go_at_call 17; refine (nth_any _ _ _ _ (by omega) (by omega)).mono ?_; rintro e w' ⟨rfl, rfl⟩) | (go_at_call 13; refine (next_any _ _ _ _).mono ?_; rintro e w' ⟨rfl, rfl⟩) | (go_at_call 18; refine (over_any _ _).mono ?_; rintro e w' ⟨rfl, rfl⟩))
      go_ret
      exact ⟨rfl, Below.refl _ _⟩
  · have c4' : clampZ n < T ∨ (T ≤ clampZ n ∧ 4611686018427387903 ≤ T) := by omega
    have hz : (C == 0) = false := by simp; omega
    rw [← c1] at c2
    clear c4 c3 c1
    rcases c4' with c1 | ⟨c1, c3⟩
    all_goals
      go_enter Try.func5, Try.ntmps5
      go_wp2_with (first | (go_at_call 10; refine (fixed3_any _).mono ?_; rintro e w' ⟨rfl, rfl⟩) | (go_at_call 16; refine (rclamp_any _ _).mono ?_; rintro e w' ⟨rfl, rfl⟩) | (go_at_call 17; refine (nth_any _ _ _ _ (by omega) (by omega)).mono ?_; rintro e w' ⟨rfl, rfl⟩) | (go_at_call 13; refine (next_any _ _ _ _).mono ?_; rintro e w' ⟨rfl, rfl⟩) | (go_at_call 18; refine (over_any _ _).mono ?_; rintro e w' ⟨rfl, rfl⟩))
      go_ret
      exact ⟨rfl, Below.refl _ _⟩
end Go.Proofs.Ytbmfnpgopafbkaa
