import Derived.Test.YtjngnmpjkiafpaaDoorL7Fixed
namespace Go.Proofs.YtjngnmpjkiafpaaDoor
open Go.RowKit Cv Dg

theorem rnumber_any (y m d : Int) (w : World) :
    Calls Tryd.prog 16 #[.int .i64 y, .int .i64 m, .int .i64 d] w fun e w' => e = .returned (.tuple #[.int .i64 (numD y m d), .bool (validB y m d)]) ∧ Below w.heap.size w w' := by
  unfold numD
  cases h : validB y m d
  · exact rnumber_bad y m d w h
  · exact rnumber_good y m d w h
theorem dvalid {n : Int} (h : withinB n = true) : validB (dY n) (dM n) (dD n) = true ∧ numD (dY n) (dM n) (dD n) = n := by
  have hh := (within_iff n).1 h
  have := day_num hh.1 hh.2
  unfold numD dY dM dD
  rw [if_pos h, if_pos h, if_pos h, if_pos this.1]
  exact this
theorem rfirst_one (w : World) : Calls Tryd.prog 19 #[.int .i64 1] w fun e w' => e = .returned (.int .i64 (-719162)) ∧ w' = w := rfirst_any 1 w (by omega) (by omega)
theorem rfirst_end (w : World) : Calls Tryd.prog 19 #[.int .i64 10000] w fun e w' => e = .returned (.int .i64 2932897) ∧ w' = w := rfirst_any 10000 w (by omega) (by omega)
set_option maxRecDepth 100000 in
set_option maxHeartbeats 4000000 in
theorem numbers_walk (n : Int) (w : World) (hw : CTab w) :
    Calls Tryd.prog 4 #[.int .i64 n] w fun e w' => e = .returned (.bool true) ∧ Below w.heap.size w w' := by
  have CF := fun w' hw' => hide (fixed7 w' hw')
  cases h : withinB n
  · have hn : ¬ (-719162 ≤ n ∧ n ≤ 2932896) := fun h' => by rw [(within_iff n).2 h'] at h; cases h
    have e1 : dY n = 0 := by unfold dY; rw [h]; rfl
    have e2 : dM n = 0 := by unfold dM; rw [h]; rfl
    have e3 : dD n = 0 := by unfold dD; rw [h]; rfl
    rcases (show n < -719162 ∨ (-719162 ≤ n ∧ 2932897 ≤ n) by omega) with hc | hc
    all_goals
      go_enter Tryd.func4, Tryd.ntmps4
      go_wp2_with (first
        | (go_at_call 9; refine (unhide (CF _ hw)).mono ?_; rintro e w1 ⟨rfl, hb1⟩)
        | (go_at_call 18; refine (day_any _ _).mono ?_; rintro e w' ⟨rfl, rfl⟩)
        | (go_at_call 19; with_reducible refine (rfirst_one _).mono ?_; rintro e w' ⟨rfl, rfl⟩)
        | (go_at_call 19; with_reducible refine (rfirst_end _).mono ?_; rintro e w' ⟨rfl, rfl⟩)
        | (go_at_call 20; refine (wd_any _ _).mono ?_; rintro e w' ⟨rfl, rfl⟩)
        | (go_at_call 21; refine (rwd_any _ _).mono ?_; rintro e w' ⟨rfl, rfl⟩))
      go_ret
      exact ⟨rfl, by assumption⟩
  · have hn := (within_iff n).1 h
    obtain ⟨d1, d2⟩ := dvalid h
    go_enter Tryd.func4, Tryd.ntmps4
    go_wp2_with (first
      | (go_at_call 9; refine (unhide (CF _ hw)).mono ?_; rintro e w1 ⟨rfl, hb1⟩)
      | (go_at_call 18; refine (day_any _ _).mono ?_; rintro e w' ⟨rfl, rfl⟩)
      | (go_at_call 19; with_reducible refine (rfirst_one _).mono ?_; rintro e w' ⟨rfl, rfl⟩)
      | (go_at_call 19; with_reducible refine (rfirst_end _).mono ?_; rintro e w' ⟨rfl, rfl⟩)
      | (go_at_call 20; refine (wd_any _ _).mono ?_; rintro e w' ⟨rfl, rfl⟩)
      | (go_at_call 21; refine (rwd_any _ _).mono ?_; rintro e w' ⟨rfl, rfl⟩)
      | (go_at_call 16; refine (rnumber_any _ _ _ _).mono ?_; rintro e w4 ⟨rfl, hb4⟩; have hk4 := Below.trans (by assumption) (hb4.mono (Below.size (by assumption)))))
    go_ret
    exact ⟨rfl, by assumption⟩

theorem first_between {n : Int} (h : withinB n = true) : firstZ (dayY n) ≤ n ∧ n < firstZ (dayY n + 1) := by
  have hh := (within_iff n).1 h
  have hd := day_num hh.1 hh.2
  have := num_in hd.1
  rw [hd.2] at this
  exact this
set_option maxRecDepth 100000 in
set_option maxHeartbeats 4000000 in
theorem weeks_walk (n : Int) (w : World) (hw : CTab w) (n0 : -9223372036854775808 ≤ n) (n1 : n ≤ 9223372036854775807) :
    Calls Tryd.prog 5 #[.int .i64 n] w fun e w' => e = .returned (.bool true) ∧ Below w.heap.size w w' := by
  have CF := fun w' hw' => hide (fixed7 w' hw')
  have hwd := wd_bd n
  cases h : withinB n
  · have hn : ¬ (-719162 ≤ n ∧ n ≤ 2932896) := fun h' => by rw [(within_iff n).2 h'] at h; cases h
    have e0 : weekOk n = false := by unfold weekOk; rw [h]; rfl
    have e1 : weekY n = 0 := by unfold weekY; rw [e0]; rfl
    have e2 : weekW n = 0 := by unfold weekW; rw [e0]; rfl
    rcases (show n < -719162 ∨ (-719162 ≤ n ∧ 2932897 ≤ n) by omega) with hc | hc
    all_goals
      go_enter Tryd.func5, Tryd.ntmps5
      go_wp2_with (first
        | (go_at_call 9; refine (unhide (CF _ hw)).mono ?_; rintro e w1 ⟨rfl, hb1⟩)
        | (go_at_call 22; refine (week_any _ _ (hw.on (by assumption))).mono ?_; rintro e w' ⟨rfl, rfl⟩)
        | (go_at_call 19; with_reducible refine (rfirst_one _).mono ?_; rintro e w' ⟨rfl, rfl⟩)
        | (go_at_call 19; with_reducible refine (rfirst_end _).mono ?_; rintro e w' ⟨rfl, rfl⟩))
      go_ret
      exact ⟨rfl, by assumption⟩
  · have hn := (within_iff n).1 h
    have ht : n - wdZ n + 3 = thZ n := rfl
    cases h2 : withinB (thZ n)
    · have hn2 : ¬ (-719162 ≤ thZ n ∧ thZ n ≤ 2932896) := fun h' => by rw [(within_iff _).2 h'] at h2; cases h2
      have e0 : weekOk n = false := by unfold weekOk; rw [h, h2]; rfl
      have e1 : weekY n = 0 := by unfold weekY; rw [e0]; rfl
      have e2 : weekW n = 0 := by unfold weekW; rw [e0]; rfl
      have htb : -719162 - 6 ≤ thZ n ∧ thZ n ≤ 2932896 + 3 := by unfold thZ; omega
      rcases (show thZ n < -719162 ∨ (-719162 ≤ thZ n ∧ 2932897 ≤ thZ n) by omega) with hc | hc
      all_goals
        obtain ⟨T, hT⟩ : ∃ T, thZ n = T := ⟨_, rfl⟩
        rw [hT] at ht hc htb
        clear hT hn2 h2
        go_enter Tryd.func5, Tryd.ntmps5
        go_wp2_with (first
          | (go_at_call 9; refine (unhide (CF _ hw)).mono ?_; rintro e w1 ⟨rfl, hb1⟩)
          | (go_at_call 22; refine (week_any _ _ (hw.on (by assumption))).mono ?_; rintro e w' ⟨rfl, rfl⟩)
          | (go_at_call 21; refine (rwd_any _ _).mono ?_; rintro e w' ⟨rfl, rfl⟩)
          | (go_at_call 19; with_reducible refine (rfirst_one _).mono ?_; rintro e w' ⟨rfl, rfl⟩)
          | (go_at_call 19; with_reducible refine (rfirst_end _).mono ?_; rintro e w' ⟨rfl, rfl⟩))
        go_ret
        exact ⟨rfl, by assumption⟩
    · have hn2 := (within_iff _).1 h2
      have e0 : weekOk n = true := by unfold weekOk; rw [h, h2]; rfl
      have hv := (day_num hn2.1 hn2.2)
      have hi := valid_in hv.1
      have hf := first_between h2
      have e1 : weekY n = dayY (thZ n) := by unfold weekY; rw [if_pos e0]
      have e2 : weekW n = (thZ n - firstZ (dayY (thZ n))) / 7 + 1 := by
        unfold weekW ydZ
        rw [if_pos e0, if_pos hv.1]
        have : cumZ (dayY (thZ n)) (dayM (thZ n)) + dayD (thZ n) - 1 = thZ n - firstZ (dayY (thZ n)) := by
          have := hv.2
          unfold numZ at this
          omega
        rw [this]
      have hfb := first_bd (y := dayY (thZ n)) (by omega) (by omega)
      have hs := first_step (dayY (thZ n))
      have hl := lY_bd (dayY (thZ n))
      obtain ⟨T, hT⟩ : ∃ T, thZ n = T := ⟨_, rfl⟩
      rw [hT] at ht hn2 hi hf e1 e2 hfb hs
      obtain ⟨Y, hY⟩ : ∃ Y, dayY T = Y := ⟨_, rfl⟩
      rw [hY] at hi hf e1 e2 hfb hs
      have Y0 : 1 ≤ Y := hi.1
      have Y1 : Y ≤ 9999 := hi.2.1
      have CA := fun w' => hide (rfirst_any Y w' (by omega) (by omega))
      have CB := fun w' => hide (rfirst_any (Y + 1) w' (by omega) (by omega))
      obtain ⟨F, hF⟩ : ∃ F, firstZ Y = F := ⟨_, rfl⟩
      obtain ⟨G, hG⟩ : ∃ G, firstZ (Y + 1) = G := ⟨_, rfl⟩
      rw [hF] at CA hf e2 hfb hs
      rw [hG] at CB hf hs
      clear hF hG hY hT hv hi hs hl h2
      have dv : (T - F).tdiv 7 = (T - F) / 7 := Int.tdiv_eq_ediv_of_nonneg (by omega)
      go_enter Tryd.func5, Tryd.ntmps5
      go_wp2_with (first
        | (go_at_call 9; refine (unhide (CF _ hw)).mono ?_; rintro e w1 ⟨rfl, hb1⟩)
        | (go_at_call 22; refine (week_any _ _ (hw.on (by assumption))).mono ?_; rintro e w' ⟨rfl, rfl⟩)
        | (go_at_call 21; refine (rwd_any _ _).mono ?_; rintro e w' ⟨rfl, rfl⟩)
        | (go_at_call 19; with_reducible refine (rfirst_one _).mono ?_; rintro e w' ⟨rfl, rfl⟩)
        | (go_at_call 19; with_reducible refine (rfirst_end _).mono ?_; rintro e w' ⟨rfl, rfl⟩)
        | (go_at_call 19; with_reducible refine (unhide (CA _)).mono ?_; rintro e w' ⟨rfl, rfl⟩)
        | (go_at_call 19; with_reducible refine (unhide (CB _)).mono ?_; rintro e w' ⟨rfl, rfl⟩))
      go_ret
      exact ⟨rfl, by assumption⟩
end Go.Proofs.YtjngnmpjkiafpaaDoor
