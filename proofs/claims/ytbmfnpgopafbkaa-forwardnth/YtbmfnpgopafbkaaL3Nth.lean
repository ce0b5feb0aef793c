import Derived.Test.YtbmfnpgopafbkaaL3Fixed
namespace Go.Proofs.Ytbmfnpgopafbkaa
open Go.RowKit Kt

theorem nth_back (f p n : Int) : nthZ f p n = 4611686018427387903 ∨ nthZ f p n = -4611686018427387903 ∨ n < 0 ∨ (cntZ f p (nthZ f p n) = n + 1 ∧ cntZ f p (nthZ f p n - 1) = n) := by
  have bf := clampZ_bd f
  have bt := nthZ_bd f p n
  by_cases h1 : nthZ f p n = 4611686018427387903
  · exact .inl h1
  by_cases h2 : nthZ f p n = -4611686018427387903
  · exact .inr (.inl h2)
  by_cases h3 : n < 0
  · exact .inr (.inr (.inl h3))
  refine .inr (.inr (.inr ?_))
  unfold cntZ
  rw [clampZ_id (t := nthZ f p n) (by omega) (by omega), clampZ_id (t := nthZ f p n - 1) (by omega) (by omega)]
  unfold nthZ at *
  generalize clampZ f = F at *
  generalize clampZ p = P at *
  have hF : ¬ 4611686018427387903 ≤ F := fun h => h1 (nthC_never h)
  by_cases hz : n = 0
  · subst hz
    rw [nthC_zero (by omega)] at *
    refine ⟨?_, cntC_zero.2 (by omega)⟩
    unfold cntC
    rw [if_neg (by omega)]
    split
    · rfl
    · rw [Int.min_eq_left (by omega)]; simp
  have hP : 0 < P := by
    by_cases hP : 0 < P
    · exact hP
    · exact absurd (nthC_none hz (by omega)) h1
  rw [nthC_pos (by omega) (by omega) hP] at *
  have hm := Int.mul_nonneg (a := n - 1) (b := P) (by omega) (by omega)
  have e1 : n * P = (n - 1) * P + P := by rw [Int.sub_mul]; omega
  have e2 : (n + 1) * P = n * P + P := by rw [Int.add_mul]; omega
  refine ⟨cntC_spec (k := n) hP (by omega) (by omega) (by omega), ?_⟩
  have := cntC_spec (F := F) (P := P) (N := min (F + n * P) 4611686018427387903 - 1) (k := n - 1) hP (by omega) (by rw [show n - 1 + 1 = n by omega]; omega) (by omega)
  omega
theorem want_eq {F P n : Int} (hn : 0 < n) (hP : 0 < P) (hF : F < 4611686018427387903) (h : n ≤ (4611686018427387903 - F) / P) : nthC F P n = F + n * P ∧ F + n * P ≤ 4611686018427387903 ∧ 0 ≤ n * P := by
  have := (Int.le_ediv_iff_mul_le hP).1 h
  have := Int.mul_nonneg (a := n) (b := P) (by omega) (by omega)
  rw [nthC_pos hF hn hP]; omega
theorem want_ne {F P n : Int} (hn : 0 < n) (hP : 0 < P) (hF : F < 4611686018427387903) (h : ¬ n ≤ (4611686018427387903 - F) / P) : nthC F P n = 4611686018427387903 := by
  have := (Int.le_ediv_iff_mul_le (a := n) (b := 4611686018427387903 - F) hP).2
  rw [nthC_pos hF hn hP]
  by_cases hh : n * P ≤ 4611686018427387903 - F
  · exact absurd (this hh) h
  · omega

set_option maxRecDepth 100000 in
set_option maxHeartbeats 4000000 in
theorem lnth_walk (f p n : Int) (w : World) (n0 : -9223372036854775808 ≤ n) (n1 : n ≤ 9223372036854775807) :
    Calls Try.prog 4 #[.int .i64 f, .int .i64 p, .int .i64 n] w fun e w' => e = .returned (.bool true) ∧ Below w.heap.size w w' := by
  have hfin := nth_back f p n
  have bT := nthZ_bd f p n
  have bF := clampZ_bd f
  have bP := clampZ_bd p
  have hdef : nthZ f p n = nthC (clampZ f) (clampZ p) n := rfl
  obtain ⟨T, hT⟩ : ∃ T, nthZ f p n = T := ⟨_, rfl⟩
  obtain ⟨F, hF⟩ : ∃ F, clampZ f = F := ⟨_, rfl⟩
  obtain ⟨P, hP⟩ : ∃ P, clampZ p = P := ⟨_, rfl⟩
  rw [hT] at hfin bT hdef
  rw [hF] at bF hdef
  rw [hP] at bP hdef
  have HD := hide hdef
  clear hdef
  rcases Int.lt_trichotomy n 0 with hn | hn | hn
  · have e1 : T = 4611686018427387903 := by rw [unhide HD]; unfold nthC; rw [if_pos (.inl hn)]
    subst e1
    clear hfin
    go_enter Try.func4, Try.ntmps4
    go_wp2_with (first | (go_at_call 10; refine (fixed3_any _).mono ?_; rintro e w' ⟨rfl, rfl⟩) | (go_at_call 16; refine (rclamp_any _ _).mono ?_; rintro e w' ⟨rfl, rfl⟩) | (go_at_call 17; refine (nth_any _ _ _ _ (by omega) (by omega)).mono ?_; rintro e w' ⟨rfl, rfl⟩) | (go_at_call 14; refine (count_any _ _ _ _).mono ?_; rintro e w' ⟨rfl, rfl⟩))
    go_ret
    exact ⟨rfl, Below.refl _ _⟩
  · subst hn
    have e1 : T = F := by rw [unhide HD, nthC_zero bF.2]
    subst e1
    rcases hfin with h | h | h | ⟨h1, h2⟩
    · subst h
      go_enter Try.func4, Try.ntmps4
      go_wp2_with (first | (go_at_call 10; refine (fixed3_any _).mono ?_; rintro e w' ⟨rfl, rfl⟩) | (go_at_call 16; refine (rclamp_any _ _).mono ?_; rintro e w' ⟨rfl, rfl⟩) | (go_at_call 17; refine (nth_any _ _ _ _ (by omega) (by omega)).mono ?_; rintro e w' ⟨rfl, rfl⟩) | (go_at_call 14; refine (count_any _ _ _ _).mono ?_; rintro e w' ⟨rfl, rfl⟩))
      go_ret
      exact ⟨rfl, Below.refl _ _⟩
    · subst h
      go_enter Try.func4, Try.ntmps4
      go_wp2_with (first | (go_at_call 10; refine (fixed3_any _).mono ?_; rintro e w' ⟨rfl, rfl⟩) | (go_at_call 16; refine (rclamp_any _ _).mono ?_; rintro e w' ⟨rfl, rfl⟩) | (go_at_call 17; refine (nth_any _ _ _ _ (by omega) (by omega)).mono ?_; rintro e w' ⟨rfl, rfl⟩) | (go_at_call 14; refine (count_any _ _ _ _).mono ?_; rintro e w' ⟨rfl, rfl⟩))
      go_ret
      exact ⟨rfl, Below.refl _ _⟩
    · omega
    · by_cases h3 : T = 4611686018427387903
      · subst h3
        go_enter Try.func4, Try.ntmps4
        go_wp2_with (first | (go_at_call 10; refine (fixed3_any _).mono ?_; rintro e w' ⟨rfl, rfl⟩) | (go_at_call 16; refine (rclamp_any _ _).mono ?_; rintro e w' ⟨rfl, rfl⟩) | (go_at_call 17; refine (nth_any _ _ _ _ (by omega) (by omega)).mono ?_; rintro e w' ⟨rfl, rfl⟩) | (go_at_call 14; refine (count_any _ _ _ _).mono ?_; rintro e w' ⟨rfl, rfl⟩))
        go_ret
        exact ⟨rfl, Below.refl _ _⟩
      by_cases h4 : T = -4611686018427387903
      · subst h4
        go_enter Try.func4, Try.ntmps4
        go_wp2_with (first | (go_at_call 10; refine (fixed3_any _).mono ?_; rintro e w' ⟨rfl, rfl⟩) | (go_at_call 16; refine (rclamp_any _ _).mono ?_; rintro e w' ⟨rfl, rfl⟩) | (go_at_call 17; refine (nth_any _ _ _ _ (by omega) (by omega)).mono ?_; rintro e w' ⟨rfl, rfl⟩) | (go_at_call 14; refine (count_any _ _ _ _).mono ?_; rintro e w' ⟨rfl, rfl⟩))
        go_ret
        exact ⟨rfl, Below.refl _ _⟩
      have d3 : (T == 4611686018427387903) = false := by simp [h3]
      have d4 : (T == -4611686018427387903) = false := by simp [h4]
      clear h3 h4
      go_enter Try.func4, Try.ntmps4
      go_wp2_with (first | (go_at_call 10; refine (fixed3_any _).mono ?_; rintro e w' ⟨rfl, rfl⟩) | (go_at_call 16; refine (rclamp_any _ _).mono ?_; rintro e w' ⟨rfl, rfl⟩) | (go_at_call 17; refine (nth_any _ _ _ _ (by omega) (by omega)).mono ?_; rintro e w' ⟨rfl, rfl⟩) | (go_at_call 14; refine (count_any _ _ _ _).mono ?_; rintro e w' ⟨rfl, rfl⟩))
      go_ret
      exact ⟨rfl, Below.refl _ _⟩
  · have hz : (n == 0) = false := by simp; omega
    by_cases hP0 : P ≤ 0
    · have e1 : T = 4611686018427387903 := by rw [unhide HD]; exact nthC_none (by omega) hP0
      subst e1
      clear hfin
      go_enter Try.func4, Try.ntmps4
      go_wp2_with (first | (go_at_call 10; refine (fixed3_any _).mono ?_; rintro e w' ⟨rfl, rfl⟩) | (go_at_call 16; refine (rclamp_any _ _).mono ?_; rintro e w' ⟨rfl, rfl⟩) | (go_at_call 17; refine (nth_any _ _ _ _ (by omega) (by omega)).mono ?_; rintro e w' ⟨rfl, rfl⟩) | (go_at_call 14; refine (count_any _ _ _ _).mono ?_; rintro e w' ⟨rfl, rfl⟩))
      go_ret
      exact ⟨rfl, Below.refl _ _⟩
    by_cases hF0 : 4611686018427387903 ≤ F
    · have e1 : T = 4611686018427387903 := by rw [unhide HD]; exact nthC_never hF0
      subst e1
      clear hfin
      go_enter Try.func4, Try.ntmps4
      go_wp2_with (first | (go_at_call 10; refine (fixed3_any _).mono ?_; rintro e w' ⟨rfl, rfl⟩) | (go_at_call 16; refine (rclamp_any _ _).mono ?_; rintro e w' ⟨rfl, rfl⟩) | (go_at_call 17; refine (nth_any _ _ _ _ (by omega) (by omega)).mono ?_; rintro e w' ⟨rfl, rfl⟩) | (go_at_call 14; refine (count_any _ _ _ _).mono ?_; rintro e w' ⟨rfl, rfl⟩))
      go_ret
      exact ⟨rfl, Below.refl _ _⟩
    have u1 : IntKind.u64.wrap n = n := by simp only [IntKind.wrap_u64]; omega
    have u2 : IntKind.u64.wrap P = P := by simp only [IntKind.wrap_u64]; omega
    have u3 : IntKind.u64.wrap (4611686018427387903 - IntKind.u64.wrap F) = 4611686018427387903 - F := by simp only [IntKind.wrap_u64]; omega
    have q0 := Int.ediv_nonneg (a := 4611686018427387903 - F) (b := P) (by omega) (by omega)
    have q1 := Int.ediv_le_self (a := 4611686018427387903 - F) P (by omega)
    have u4 : IntKind.u64.wrap ((4611686018427387903 - F).tdiv P) = (4611686018427387903 - F) / P := by
      rw [Int.tdiv_eq_ediv_of_nonneg (by omega)]; simp only [IntKind.wrap_u64]; omega
    by_cases hq : n ≤ (4611686018427387903 - F) / P
    · obtain ⟨e1, e2, e3⟩ := want_eq hn (by omega) (by omega) hq
      rw [← unhide HD] at e1
      have u5 : wrap64 (IntKind.u64.wrap (IntKind.u64.wrap F + n * P)) = T := by simp only [IntKind.wrap_u64, wrap64]; omega
      replace e1 := e1.symm
      have e4 := Int.mul_pos (a := n) (b := P) (by omega) (by omega)
      clear e2 q0 q1
      rcases hfin with h | h | h | ⟨h1, h2⟩
      · subst h
        go_enter Try.func4, Try.ntmps4
        go_wp2_with (first | (go_at_call 10; refine (fixed3_any _).mono ?_; rintro e w' ⟨rfl, rfl⟩) | (go_at_call 16; refine (rclamp_any _ _).mono ?_; rintro e w' ⟨rfl, rfl⟩) | (go_at_call 17; refine (nth_any _ _ _ _ (by omega) (by omega)).mono ?_; rintro e w' ⟨rfl, rfl⟩) | (go_at_call 14; refine (count_any _ _ _ _).mono ?_; rintro e w' ⟨rfl, rfl⟩))
        go_ret
        exact ⟨rfl, Below.refl _ _⟩
      · omega
      · omega
      · by_cases h3 : T = 4611686018427387903
        · subst h3
          go_enter Try.func4, Try.ntmps4
          go_wp2_with (first | (go_at_call 10; refine (fixed3_any _).mono ?_; rintro e w' ⟨rfl, rfl⟩) | (go_at_call 16; refine (rclamp_any _ _).mono ?_; rintro e w' ⟨rfl, rfl⟩) | (go_at_call 17; refine (nth_any _ _ _ _ (by omega) (by omega)).mono ?_; rintro e w' ⟨rfl, rfl⟩) | (go_at_call 14; refine (count_any _ _ _ _).mono ?_; rintro e w' ⟨rfl, rfl⟩))
          go_ret
          exact ⟨rfl, Below.refl _ _⟩
        have h4 : T ≠ -4611686018427387903 := by omega
        have n2 : n + 1 ≤ 9223372036854775806 := by have := cntZ_bd f p T; omega
        have d3 : (T == 4611686018427387903) = false := by simp [h3]
        have d4 : (T == -4611686018427387903) = false := by simp [h4]
        clear h3 h4
        go_enter Try.func4, Try.ntmps4
        go_wp2_with (first | (go_at_call 10; refine (fixed3_any _).mono ?_; rintro e w' ⟨rfl, rfl⟩) | (go_at_call 16; refine (rclamp_any _ _).mono ?_; rintro e w' ⟨rfl, rfl⟩) | (go_at_call 17; refine (nth_any _ _ _ _ (by omega) (by omega)).mono ?_; rintro e w' ⟨rfl, rfl⟩) | (go_at_call 14; refine (count_any _ _ _ _).mono ?_; rintro e w' ⟨rfl, rfl⟩))
        go_ret
        exact ⟨rfl, Below.refl _ _⟩
    · have e1 : T = 4611686018427387903 := by rw [unhide HD]; exact want_ne hn (by omega) (by omega) hq
      subst e1
      clear hfin
      go_enter Try.func4, Try.ntmps4
      go_wp2_with (first | (go_at_call 10; refine (fixed3_any _).mono ?_; rintro e w' ⟨rfl, rfl⟩) | (go_at_call 16; refine (rclamp_any _ _).mono ?_; rintro e w' ⟨rfl, rfl⟩) | (go_at_call 17; refine (nth_any _ _ _ _ (by omega) (by omega)).mono ?_; rintro e w' ⟨rfl, rfl⟩) | (go_at_call 14; refine (count_any _ _ _ _).mono ?_; rintro e w' ⟨rfl, rfl⟩))
      go_ret
      exact ⟨rfl, Below.refl _ _⟩
end Go.Proofs.Ytbmfnpgopafbkaa
