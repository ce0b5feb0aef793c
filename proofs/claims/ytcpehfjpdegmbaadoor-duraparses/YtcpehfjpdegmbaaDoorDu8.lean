import Derived.Test.YtcpehfjpdegmbaaDoorDu7
namespace Go.Proofs.YtcpehfjpdegmbaaDoor
open Go.RowKit Kt Dg Du

theorem lenT_len (r : Int) (h0 : 0 ≤ r) (h1 : r ≤ 4611686018427387902) : (lenT r).length ≤ 140 := by
  unfold lenT
  split
  · decide
  · rw [← jn_end]; exact jn_len r h0 h1 7 (Nat.le_refl _)
set_option maxHeartbeats 1000000 in
theorem text_any (t : Int) (w : World) (ht : DTab w) :
    Calls Tryd.prog 8 #[.int .i64 t] w fun e w' => e = .returned (.string (bs (textZ t))) ∧ Below w.heap.size w w' := by
  have hb := size_bd t
  have hl := lenT_len (sizeZ t) hb.1 hb.2
  have CN := fun w' => hide (never_any t w')
  have CP := fun w' => hide (parts_any t w')
  have CJ := fun w' (hb' : Below w.heap.size w w') => hide (joined_any (sizeZ t) w' (ht.on hb') hb.1 hb.2)
  have HX := hide (bs_join [45] (lenT (sizeZ t)))
  have hz := bs_size (lenT (sizeZ t))
  have S0 := Below.refl w.heap.size w
  have HT := hide (show textZ t = if 4611686018427387903 ≤ t then neverL else if t < 0 then 45 :: lenT (sizeZ t) else lenT (sizeZ t) from rfl)
  have hn : neverB t = decide (4611686018427387903 ≤ t) := rfl
  rw [hn] at CN
  clear hn
  generalize textZ t = T at *
  generalize lenT (sizeZ t) = L at *
  generalize partsV (sizeZ t) = PV at *
  clear hb
  by_cases h1 : 4611686018427387903 ≤ t
  · have HT2 := hide (show T = neverL by rw [unhide HT, if_pos h1])
    rw [decide_eq_true h1] at CN
    clear HT
    go_enter Tryd.func8, Tryd.ntmps8
    go_wp2_with (go_at_call 17; refine (unhide (CN _)).mono ?_; rintro e w' ⟨rfl, rfl⟩)
    go_ret
    exact ⟨by rw [unhide HT2]; rfl, S0⟩
  · rw [decide_eq_false h1] at CN
    by_cases h2 : t < 0
    · have HT2 := hide (show T = 45 :: L by rw [unhide HT, if_neg h1, if_pos h2])
      clear HT
      go_enter Tryd.func8, Tryd.ntmps8
      go_wp2_with (first | (go_at_call 17; refine (unhide (CN _)).mono ?_; rintro e w' ⟨rfl, rfl⟩) | (go_at_call 15; refine (unhide (CP _)).mono ?_; rintro e w4 ⟨rfl, hb4⟩; have hk4 := Below.trans (by assumption) (hb4.mono (Below.size (by assumption)))) | (go_at_call 18; refine (unhide (CJ _ (by assumption))).mono ?_; rintro e w4 ⟨rfl, hb4⟩; have hk4 := Below.trans (by assumption) (hb4.mono (Below.size (by assumption)))))
      go_ret
      exact ⟨by rw [unhide HT2, show 45 :: L = [45] ++ L from rfl, ← unhide HX]; rfl, by assumption⟩
    · have HT2 := hide (show T = L by rw [unhide HT, if_neg h1, if_neg h2])
      clear HT
      go_enter Tryd.func8, Tryd.ntmps8
      go_wp2_with (first | (go_at_call 17; refine (unhide (CN _)).mono ?_; rintro e w' ⟨rfl, rfl⟩) | (go_at_call 15; refine (unhide (CP _)).mono ?_; rintro e w4 ⟨rfl, hb4⟩; have hk4 := Below.trans (by assumption) (hb4.mono (Below.size (by assumption)))) | (go_at_call 18; refine (unhide (CJ _ (by assumption))).mono ?_; rintro e w4 ⟨rfl, hb4⟩; have hk4 := Below.trans (by assumption) (hb4.mono (Below.size (by assumption)))))
      go_ret
      exact ⟨by rw [unhide HT2]; rfl, by assumption⟩

def countsB (u : Int) : Bool := decide (1 ≤ u) && decide (u ≤ 4611686018427387903)
theorem above_eq (c u : Int) (hu : 1 ≤ u) : (if c.tmod u < 0 then c.tmod u + u else c.tmod u) = c % u ∧ -u < c.tmod u ∧ c.tmod u < u := by
  have h1 := Int.tmod_lt_of_pos c (show 0 < u by omega)
  have h2 := Int.tmod_lt_of_pos (-c) (show 0 < u by omega)
  rw [Int.neg_tmod] at h2
  have e := Int.mul_tdiv_add_tmod c u
  have e2 : c % u = c.tmod u % u := by
    conv => lhs; rw [← e]
    rw [Int.mul_add_emod_self_left]
  refine ⟨?_, by omega, h1⟩
  rw [e2]
  split
  · rw [← Int.add_emod_right, Int.emod_eq_of_lt (by omega) (by omega)]
  · rw [Int.emod_eq_of_lt (by omega) (by omega)]
theorem counts_any (u : Int) (w : World) :
    Calls Tryd.prog 26 #[.int .i64 u] w fun e w' => e = .returned (.bool (countsB u)) ∧ w' = w := by
  by_cases h : 1 ≤ u
  · have HB := hide (show countsB u = decide (u ≤ 4611686018427387903) by unfold countsB; rw [decide_eq_true h]; rfl)
    go_enter Tryd.func26, Tryd.ntmps26
    go_wp2_with fail
    go_ret
    exact ⟨ret_bool (unhide HB).symm, rfl⟩
  · have HB := hide (show countsB u = false by unfold countsB; rw [decide_eq_false h]; rfl)
    go_enter Tryd.func26, Tryd.ntmps26
    go_wp2_with fail
    go_ret
    exact ⟨ret_bool (unhide HB).symm, rfl⟩
theorem above_any (c u : Int) (w : World) (hu : 1 ≤ u) (hu2 : u ≤ 4611686018427387903) :
    Calls Tryd.prog 27 #[.int .i64 c, .int .i64 u] w fun e w' => e = .returned (.int .i64 (c % u)) ∧ w' = w := by
  obtain ⟨e, b1, b2⟩ := above_eq c u hu
  have HE := hide e
  have z0 : (u == 0) = false := by rw [beq_eq_false_iff_ne]; omega
  clear e
  generalize c % u = m at *
  obtain ⟨r, hr⟩ : ∃ r, c.tmod u = r := ⟨_, rfl⟩
  rw [hr] at b1 b2 HE
  by_cases h : r < 0
  · have HE2 := hide (show r + u = m by rw [← unhide HE, if_pos h])
    clear HE
    go_enter Tryd.func27, Tryd.ntmps27
    go_wp2_with fail
    go_ret
    exact ⟨ret_int (unhide HE2), rfl⟩
  · have HE2 := hide (show r = m by rw [← unhide HE, if_neg h])
    clear HE
    go_enter Tryd.func27, Tryd.ntmps27
    go_wp2_with fail
    go_ret
    exact ⟨ret_int (unhide HE2), rfl⟩
def floorZ (t u : Int) : Int := if countsB u = true then clampZ (clampZ t - clampZ t % u) else clampZ t
def roundZ (t u : Int) : Int := if countsB u = true then (if u - clampZ t % u ≤ clampZ t % u then clampZ (clampZ t - clampZ t % u + u) else clampZ (clampZ t - clampZ t % u)) else clampZ t
theorem floor_any (t u : Int) (w : World) :
    Calls Tryd.prog 13 #[.int .i64 t, .int .i64 u] w fun e w' => e = .returned (.int .i64 (floorZ t u)) ∧ w' = w := by
  have bc := clampZ_bd t
  have CK := fun w' => hide (kclamp_any t w')
  have CC := fun w' => hide (counts_any u w')
  cases h : countsB u
  · have HF := hide (show floorZ t u = clampZ t by unfold floorZ; rw [h, if_neg (by decide)])
    rw [h] at CC
    clear h
    generalize floorZ t u = F at *
    generalize clampZ t = c at *
    go_enter Tryd.func13, Tryd.ntmps13
    go_wp2_with (first | (go_at_call 25; refine (unhide (CK _)).mono ?_; rintro e w' ⟨rfl, rfl⟩) | (go_at_call 26; refine (unhide (CC _)).mono ?_; rintro e w' ⟨rfl, rfl⟩))
    go_ret
    exact ⟨ret_int (unhide HF).symm, rfl⟩
  · have hu : 1 ≤ u ∧ u ≤ 4611686018427387903 := by simpa [countsB] using h
    have HF := hide (show floorZ t u = clampZ (clampZ t - clampZ t % u) by unfold floorZ; rw [if_pos h])
    have CA := fun w' => hide (above_any (clampZ t) u w' hu.1 hu.2)
    have CK2 := fun w' => hide (kclamp_any (clampZ t - clampZ t % u) w')
    have m0 := Int.emod_nonneg (clampZ t) (show u ≠ 0 by omega)
    have m1 := Int.emod_lt_of_pos (clampZ t) (show 0 < u by omega)
    rw [h] at CC
    clear h
    generalize floorZ t u = F at *
    generalize clampZ t % u = m at *
    generalize clampZ (clampZ t - m) = g at *
    generalize clampZ t = c at *
    go_enter Tryd.func13, Tryd.ntmps13
    go_wp2_with (first | (go_at_call 25; with_reducible refine (unhide (CK _)).mono ?_; rintro e w' ⟨rfl, rfl⟩) | (go_at_call 25; with_reducible refine (unhide (CK2 _)).mono ?_; rintro e w' ⟨rfl, rfl⟩) | (go_at_call 26; refine (unhide (CC _)).mono ?_; rintro e w' ⟨rfl, rfl⟩) | (go_at_call 27; refine (unhide (CA _)).mono ?_; rintro e w' ⟨rfl, rfl⟩))
    go_ret
    exact ⟨ret_int (unhide HF).symm, rfl⟩
theorem round_any (t u : Int) (w : World) :
    Calls Tryd.prog 14 #[.int .i64 t, .int .i64 u] w fun e w' => e = .returned (.int .i64 (roundZ t u)) ∧ w' = w := by
  have bc := clampZ_bd t
  have CK := fun w' => hide (kclamp_any t w')
  have CC := fun w' => hide (counts_any u w')
  cases h : countsB u
  · have HF := hide (show roundZ t u = clampZ t by unfold roundZ; rw [h, if_neg (by decide)])
    rw [h] at CC
    clear h
    generalize roundZ t u = F at *
    generalize clampZ t = c at *
    go_enter Tryd.func14, Tryd.ntmps14
    go_wp2_with (first | (go_at_call 25; refine (unhide (CK _)).mono ?_; rintro e w' ⟨rfl, rfl⟩) | (go_at_call 26; refine (unhide (CC _)).mono ?_; rintro e w' ⟨rfl, rfl⟩))
    go_ret
    exact ⟨ret_int (unhide HF).symm, rfl⟩
  · have hu : 1 ≤ u ∧ u ≤ 4611686018427387903 := by simpa [countsB] using h
    have HF := hide (show roundZ t u = if u - clampZ t % u ≤ clampZ t % u then clampZ (clampZ t - clampZ t % u + u) else clampZ (clampZ t - clampZ t % u) by unfold roundZ; rw [if_pos h])
    have CA := fun w' => hide (above_any (clampZ t) u w' hu.1 hu.2)
    have CK2 := fun w' => hide (kclamp_any (clampZ t - clampZ t % u) w')
    have CK3 := fun w' => hide (kclamp_any (clampZ t - clampZ t % u + u) w')
    have m0 := Int.emod_nonneg (clampZ t) (show u ≠ 0 by omega)
    have m1 := Int.emod_lt_of_pos (clampZ t) (show 0 < u by omega)
    rw [h] at CC
    clear h
    generalize roundZ t u = F at *
    generalize clampZ t % u = m at *
    generalize clampZ (clampZ t - m) = g at *
    generalize clampZ (clampZ t - m + u) = g2 at *
    generalize clampZ t = c at *
    by_cases hm : u - m ≤ m
    · have HF2 := hide (show F = g2 by rw [unhide HF, if_pos hm])
      clear HF
      go_enter Tryd.func14, Tryd.ntmps14
      go_wp2_with (first | (go_at_call 25; with_reducible refine (unhide (CK _)).mono ?_; rintro e w' ⟨rfl, rfl⟩) | (go_at_call 25; with_reducible refine (unhide (CK3 _)).mono ?_; rintro e w' ⟨rfl, rfl⟩) | (go_at_call 26; refine (unhide (CC _)).mono ?_; rintro e w' ⟨rfl, rfl⟩) | (go_at_call 27; refine (unhide (CA _)).mono ?_; rintro e w' ⟨rfl, rfl⟩))
      go_ret
      exact ⟨ret_int (unhide HF2).symm, rfl⟩
    · have HF2 := hide (show F = g by rw [unhide HF, if_neg hm])
      clear HF
      go_enter Tryd.func14, Tryd.ntmps14
      go_wp2_with (first | (go_at_call 25; with_reducible refine (unhide (CK _)).mono ?_; rintro e w' ⟨rfl, rfl⟩) | (go_at_call 25; with_reducible refine (unhide (CK2 _)).mono ?_; rintro e w' ⟨rfl, rfl⟩) | (go_at_call 26; refine (unhide (CC _)).mono ?_; rintro e w' ⟨rfl, rfl⟩) | (go_at_call 27; refine (unhide (CA _)).mono ?_; rintro e w' ⟨rfl, rfl⟩))
      go_ret
      exact ⟨ret_int (unhide HF2).symm, rfl⟩
end Go.Proofs.YtcpehfjpdegmbaaDoor
