import Derived.Test.YtcpehfjpdegmbaaDoorDuTab
namespace Go.Proofs.YtcpehfjpdegmbaaDoor
open Go.RowKit Kt Dg Du

theorem counts_iff (u : Int) : countsB u = true ↔ 1 ≤ u ∧ u ≤ 4611686018427387903 := by
  unfold countsB; simp
theorem rounds_facts (t u : Int) (h1 : 1 ≤ u) (h2 : u ≤ 4611686018427387903) :
    floorZ t u ≤ clampZ t ∧ floorZ t u ≤ roundZ t u ∧ -4611686018427387903 ≤ floorZ t u ∧ roundZ t u ≤ 4611686018427387903 ∧
    (-2305843009213693952 ≤ clampZ t → clampZ t ≤ 2305843009213693952 → u ≤ 2305843009213693952 →
      (floorZ t u).tmod u = 0 ∧ (roundZ t u).tmod u = 0 ∧ clampZ t - floorZ t u < u ∧ ((roundZ t u = floorZ t u ∧ 2 * (clampZ t - floorZ t u) < u) ∨ (roundZ t u = floorZ t u + u ∧ u ≤ 2 * (clampZ t - floorZ t u)))) := by
  have hc := (counts_iff u).2 ⟨h1, h2⟩
  have bc := clampZ_bd t
  have ef : floorZ t u = clampZ (clampZ t - clampZ t % u) := by unfold floorZ; rw [if_pos hc]
  have er : roundZ t u = if u - clampZ t % u ≤ clampZ t % u then clampZ (clampZ t - clampZ t % u + u) else clampZ (clampZ t - clampZ t % u) := by unfold roundZ; rw [if_pos hc]
  have m0 := Int.emod_nonneg (clampZ t) (show u ≠ 0 by omega)
  have m1 := Int.emod_lt_of_pos (clampZ t) (show 0 < u by omega)
  have ed : clampZ t - clampZ t % u = u * (clampZ t / u) := by have := Int.mul_ediv_add_emod (clampZ t) u; omega
  have z1 : (clampZ t - clampZ t % u).tmod u = 0 := by rw [ed]; exact Int.mul_tmod_right _ _
  have z2 : (clampZ t - clampZ t % u + u).tmod u = 0 := by
    rw [ed, show u * (clampZ t / u) + u = u * (clampZ t / u + 1) by rw [Int.mul_add, Int.mul_one]]; exact Int.mul_tmod_right _ _
  rw [ef, er]
  clear ef er hc ed
  generalize clampZ t = c at *
  generalize c % u = m at *
  refine ⟨?_, ?_, (clampZ_bd _).1, ?_, ?_⟩
  · unfold clampZ; repeat' split
    all_goals omega
  · split
    · exact clampZ_mono (by omega)
    · exact Int.le_refl _
  · split <;> exact (clampZ_bd _).2
  · intro g1 g2 g3
    rw [clampZ_id (t := c - m) (by omega) (by omega)]
    split
    · rw [clampZ_id (t := c - m + u) (by omega) (by omega)]
      exact ⟨z1, z2, by omega, .inr ⟨rfl, by omega⟩⟩
    · exact ⟨z1, z1, by omega, .inl ⟨rfl, by omega⟩⟩
set_option maxRecDepth 100000 in
set_option maxHeartbeats 4000000 in
theorem lrounds_walk (t u : Int) (w : World) (hw : DTab w) :
    Calls Tryd.prog 5 #[.int .i64 t, .int .i64 u] w fun e w' => e = .returned (.bool true) ∧ Below w.heap.size w w' := by
  have CF := hide (fixed8 w hw)
  have CK := fun w' => hide (rclamp_any t w')
  have CL := fun w' => hide (floor_any t u w')
  have CR := fun w' => hide (round_any t u w')
  have bc := clampZ_bd t
  by_cases hc : 1 ≤ u ∧ u ≤ 4611686018427387903
  · obtain ⟨h1, h2⟩ := hc
    obtain ⟨f1, f2, f3, f4, f5⟩ := rounds_facts t u h1 h2
    have z0 : (u == 0) = false := by rw [beq_eq_false_iff_ne]; omega
    generalize floorZ t u = F at *
    generalize roundZ t u = R at *
    generalize clampZ t = c at *
    by_cases hs : -2305843009213693952 ≤ c ∧ c ≤ 2305843009213693952 ∧ u ≤ 2305843009213693952
    · obtain ⟨s1, s2, s3⟩ := hs
      obtain ⟨e1, e2, e3, e4⟩ := f5 s1 s2 s3
      clear f5
      rcases e4 with ⟨rfl, e4⟩ | ⟨rfl, e4⟩
      · go_enter Tryd.func5, Tryd.ntmps5
        go_wp2_with (first | (go_at_call 7; refine (unhide CF).mono ?_; rintro e w1 ⟨rfl, hb1⟩) | (go_at_call 12; refine (unhide (CK _)).mono ?_; rintro e w' ⟨rfl, rfl⟩) | (go_at_call 13; refine (unhide (CL _)).mono ?_; rintro e w' ⟨rfl, rfl⟩) | (go_at_call 14; refine (unhide (CR _)).mono ?_; rintro e w' ⟨rfl, rfl⟩))
        go_ret
        exact ⟨rfl, hb1⟩
      · have g1 : (F + u == F) = false := by rw [beq_eq_false_iff_ne]; omega
        go_enter Tryd.func5, Tryd.ntmps5
        go_wp2_with (first | (go_at_call 7; refine (unhide CF).mono ?_; rintro e w1 ⟨rfl, hb1⟩) | (go_at_call 12; refine (unhide (CK _)).mono ?_; rintro e w' ⟨rfl, rfl⟩) | (go_at_call 13; refine (unhide (CL _)).mono ?_; rintro e w' ⟨rfl, rfl⟩) | (go_at_call 14; refine (unhide (CR _)).mono ?_; rintro e w' ⟨rfl, rfl⟩))
        go_ret
        exact ⟨rfl, hb1⟩
    · clear f5
      have hs' : c < -2305843009213693952 ∨ (-2305843009213693952 ≤ c ∧ 2305843009213693952 < c) ∨ (-2305843009213693952 ≤ c ∧ c ≤ 2305843009213693952 ∧ 2305843009213693952 < u) := by omega
      clear hs
      rcases hs' with h | ⟨h, h'⟩ | ⟨h, h', h''⟩
      all_goals
        go_enter Tryd.func5, Tryd.ntmps5
        go_wp2_with (first | (go_at_call 7; refine (unhide CF).mono ?_; rintro e w1 ⟨rfl, hb1⟩) | (go_at_call 12; refine (unhide (CK _)).mono ?_; rintro e w' ⟨rfl, rfl⟩) | (go_at_call 13; refine (unhide (CL _)).mono ?_; rintro e w' ⟨rfl, rfl⟩) | (go_at_call 14; refine (unhide (CR _)).mono ?_; rintro e w' ⟨rfl, rfl⟩))
        go_ret
        exact ⟨rfl, hb1⟩
  · have hcf : countsB u = false := by
      cases e : countsB u
      · rfl
      · exact absurd ((counts_iff u).1 e) hc
    have e1 : floorZ t u = clampZ t := by unfold floorZ; rw [hcf, if_neg (by decide)]
    have e2 : roundZ t u = clampZ t := by unfold roundZ; rw [hcf, if_neg (by decide)]
    rw [e1] at CL
    rw [e2] at CR
    clear e1 e2 hcf
    generalize clampZ t = c at *
    have hc' : u < 1 ∨ (1 ≤ u ∧ 4611686018427387903 < u) := by omega
    clear hc
    rcases hc' with h | ⟨h, h'⟩
    all_goals
      go_enter Tryd.func5, Tryd.ntmps5
      go_wp2_with (first | (go_at_call 7; refine (unhide CF).mono ?_; rintro e w1 ⟨rfl, hb1⟩) | (go_at_call 12; refine (unhide (CK _)).mono ?_; rintro e w' ⟨rfl, rfl⟩) | (go_at_call 13; refine (unhide (CL _)).mono ?_; rintro e w' ⟨rfl, rfl⟩) | (go_at_call 14; refine (unhide (CR _)).mono ?_; rintro e w' ⟨rfl, rfl⟩))
      go_ret
      exact ⟨rfl, hb1⟩
end Go.Proofs.YtcpehfjpdegmbaaDoor
