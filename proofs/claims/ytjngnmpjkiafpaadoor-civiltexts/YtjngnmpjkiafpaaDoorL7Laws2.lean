import Derived.Test.YtjngnmpjkiafpaaDoorCvTab
import Derived.Deep.RegionHeld3
namespace Go.Proofs.YtjngnmpjkiafpaaDoor
open Go.RowKit Cv Dg

set_option maxRecDepth 100000 in
set_option maxHeartbeats 4000000 in
theorem goes_walk (n : Int) (w : World) (hw : CTab w) :
    Calls Tryd.prog 8 #[.int .i32 n] w fun e w' => e = .returned (.bool true) ∧ Below w.heap.size w w' := by
  have CF := fun w' hw' => hide (fixed7 w' hw')
  have hk0 : -1000000 < n.tmod 1000000 ∧ n.tmod 1000000 < 1000000 := by
    have := Int.tmod_lt_of_pos n (show (0:Int) < 1000000 by omega)
    have := Int.lt_tmod_of_pos n (show (0:Int) < 1000000 by omega)
    omega
  obtain ⟨k, hk⟩ : ∃ k, n.tmod 1000000 = k := ⟨_, rfl⟩
  rw [hk] at hk0
  cases h : withinB k
  · go_enter Tryd.func8, Tryd.ntmps8
    go_wp2_with (first
      | (go_at_call 9; refine (unhide (CF _ hw)).mono ?_; rintro e w1 ⟨rfl, hb1⟩)
      | (go_at_call 18; refine (day_any _ _).mono ?_; rintro e w' ⟨rfl, rfl⟩))
    go_ret
    exact ⟨rfl, by assumption⟩
  cases h2 : withinB (k + 1)
  · go_enter Tryd.func8, Tryd.ntmps8
    go_wp2_with (first
      | (go_at_call 9; refine (unhide (CF _ hw)).mono ?_; rintro e w1 ⟨rfl, hb1⟩)
      | (go_at_call 18; refine (day_any _ _).mono ?_; rintro e w' ⟨rfl, rfl⟩))
    go_ret
    exact ⟨rfl, by assumption⟩
  have hn := (within_iff _).1 h
  have hn2 := (within_iff _).1 h2
  have a1 : dY k = dayY k := by unfold dY; rw [if_pos h]
  have a2 : dM k = dayM k := by unfold dM; rw [if_pos h]
  have a3 : dD k = dayD k := by unfold dD; rw [if_pos h]
  have b1 : dY (k + 1) = dayY (k + 1) := by unfold dY; rw [if_pos h2]
  have b2 : dM (k + 1) = dayM (k + 1) := by unfold dM; rw [if_pos h2]
  have b3 : dD (k + 1) = dayD (k + 1) := by unfold dD; rw [if_pos h2]
  have hx := day_next (n := k) hn.1 hn2.2
  have hv := valid_in (day_num hn.1 hn.2).1
  rw [← a1, ← a2, ← a3, ← b1, ← b2, ← b3] at hx
  rw [← a1, ← a2, ← a3] at hv
  have hwd : wdZ (k + 1) = (wdZ k + 1).tmod 7 := by
    have := wd_bd k
    rw [Int.tmod_eq_emod_of_nonneg (by omega)]
    unfold wdZ; omega
  have hwb := wd_bd k
  have C1 := fun w' => hide (day_any k w')
  have C2 := fun w' => hide (day_any (k + 1) w')
  have D1 := fun w' => hide (wd_any k w')
  have D2 := fun w' => hide (wd_any (k + 1) w')
  have E1 := fun w' hw' => hide (days_any (dY k) (dM k) w' hw')
  rw [h] at C1
  rw [h2] at C2
  clear h h2 a1 a2 a3 b1 b2 b3
  obtain ⟨y, hy⟩ : ∃ y, dY k = y := ⟨_, rfl⟩
  obtain ⟨m, hm⟩ : ∃ y, dM k = y := ⟨_, rfl⟩
  obtain ⟨d, hd⟩ : ∃ y, dD k = y := ⟨_, rfl⟩
  obtain ⟨y', hy'⟩ : ∃ y, dY (k + 1) = y := ⟨_, rfl⟩
  obtain ⟨m', hm'⟩ : ∃ y, dM (k + 1) = y := ⟨_, rfl⟩
  obtain ⟨d', hd'⟩ : ∃ y, dD (k + 1) = y := ⟨_, rfl⟩
  obtain ⟨x, hxw⟩ : ∃ y, wdZ k = y := ⟨_, rfl⟩
  obtain ⟨x', hxw'⟩ : ∃ y, wdZ (k + 1) = y := ⟨_, rfl⟩
  rw [hy, hm, hd] at C1
  rw [hy, hm] at E1
  rw [hy', hm', hd'] at C2
  rw [hxw] at D1 hwd hwb
  rw [hxw'] at D2 hwd
  rw [hy, hm, hd, hy', hm', hd'] at hx
  rw [hy, hm, hd] at hv
  clear hy hm hd hy' hm' hd' hxw hxw'
  obtain ⟨K, hK⟩ : ∃ K, daysZ y m = K := ⟨_, rfl⟩
  rw [hK] at E1 hx
  clear hK
  rcases hx with hx | hx | hx
  all_goals
    go_enter Tryd.func8, Tryd.ntmps8
    go_wp2_with (first
      | (go_at_call 9; refine (unhide (CF _ hw)).mono ?_; rintro e w1 ⟨rfl, hb1⟩)
      | (go_at_call 18; with_reducible refine (unhide (C1 _)).mono ?_; rintro e w' ⟨rfl, rfl⟩)
      | (go_at_call 18; with_reducible refine (unhide (C2 _)).mono ?_; rintro e w' ⟨rfl, rfl⟩)
      | (go_at_call 20; with_reducible refine (unhide (D1 _)).mono ?_; rintro e w' ⟨rfl, rfl⟩)
      | (go_at_call 20; with_reducible refine (unhide (D2 _)).mono ?_; rintro e w' ⟨rfl, rfl⟩)
      | (go_at_call 12; refine (unhide (E1 _ (hw.on (by assumption)))).mono ?_; rintro e w' ⟨rfl, rfl⟩))
    go_ret
    exact ⟨rfl, by assumption⟩
set_option maxRecDepth 100000 in
set_option maxHeartbeats 4000000 in
theorem ldays_walk (y m d : Int) (w : World) (hw : CTab w) :
    Calls Tryd.prog 3 #[.int .i64 y, .int .i64 m, .int .i64 d] w fun e w' => e = .returned (.bool true) ∧ Below w.heap.size w w' := by
  have CF := fun w' hw' => hide (fixed7 w' hw')
  have CN := fun w' hw' => hide (number_any y m d w' hw')
  have CY := fun w' hw' => hide (yearday_any y m d w' hw')
  have CM := fun w' => hide (rnumber_any y m d w')
  have CR := fun w' => hide (ryearday_any y m d w')
  have CL := fun w' => hide (long_any y w')
  have CK := fun w' => hide (rlong_any y w')
  have CD := fun w' hw' => hide (days_any y m w' hw')
  have CE := fun w' => hide (rdays_any y m w')
  have CG := fun w' => hide (day_any (numD y m d) w')
  obtain ⟨N, hN⟩ : ∃ N, numD y m d = N := ⟨_, rfl⟩
  obtain ⟨Y, hY⟩ : ∃ N, ydZ y m d = N := ⟨_, rfl⟩
  obtain ⟨L, hL⟩ : ∃ N, longB y = N := ⟨_, rfl⟩
  obtain ⟨D, hD⟩ : ∃ N, daysZ y m = N := ⟨_, rfl⟩
  rw [hN] at CN CM CG
  rw [hY] at CY CR
  rw [hL] at CL CK
  rw [hD] at CD CE
  cases h : validB y m d
  · rw [h] at CN CY CM
    clear hN hY hL hD h
    cases L
    all_goals
    go_enter Tryd.func3, Tryd.ntmps3
    go_wp2_with (first
      | (go_at_call 9; refine (unhide (CF _ hw)).mono ?_; rintro e w1 ⟨rfl, hb1⟩)
      | (go_at_call 10; refine (unhide (CL _)).mono ?_; rintro e w' ⟨rfl, rfl⟩)
      | (go_at_call 11; refine (unhide (CK _)).mono ?_; rintro e w' ⟨rfl, rfl⟩)
      | (go_at_call 12; refine (unhide (CD _ (hw.on (by assumption)))).mono ?_; rintro e w' ⟨rfl, rfl⟩)
      | (go_at_call 13; refine (unhide (CE _)).mono ?_; rintro e w4 ⟨rfl, hb4⟩; have hk4 := Below.trans (by assumption) (hb4.mono (Below.size (by assumption))))
      | (go_at_call 14; refine (unhide (CN _ (hw.on (by assumption)))).mono ?_; rintro e w' ⟨rfl, rfl⟩)
      | (go_at_call 15; refine (unhide (CY _ (hw.on (by assumption)))).mono ?_; rintro e w' ⟨rfl, rfl⟩)
      | (go_at_call 16; refine (unhide (CM _)).mono ?_; rintro e w4 ⟨rfl, hb4⟩; have hk4 := Below.trans (by assumption) (hb4.mono (Below.size (by assumption))))
      | (go_at_call 17; refine (unhide (CR _)).mono ?_; rintro e w4 ⟨rfl, hb4⟩; have hk4 := Below.trans (by assumption) (hb4.mono (Below.size (by assumption)))))
    go_ret
    exact ⟨rfl, by assumption⟩
  · have hb := num_bd h
    have e0 : numD y m d = numZ y m d := by unfold numD; rw [if_pos h]
    have hwi : withinB N = true := by rw [within_iff, ← hN, e0]; exact hb
    have hd := day_of_num h
    rw [← e0, hN] at hd
    have e1 : dY N = y := by unfold dY; rw [if_pos hwi]; exact hd.1
    have e2 : dM N = m := by unfold dM; rw [if_pos hwi]; exact hd.2.1
    have e3 : dD N = d := by unfold dD; rw [if_pos hwi]; exact hd.2.2
    rw [h] at CN CY CM
    rw [hwi, e1, e2, e3] at CG
    clear hN hY hL hD h hb e0 hwi hd e1 e2 e3
    cases L
    all_goals
    go_enter Tryd.func3, Tryd.ntmps3
    go_wp2_with (first
      | (go_at_call 9; refine (unhide (CF _ hw)).mono ?_; rintro e w1 ⟨rfl, hb1⟩)
      | (go_at_call 10; refine (unhide (CL _)).mono ?_; rintro e w' ⟨rfl, rfl⟩)
      | (go_at_call 11; refine (unhide (CK _)).mono ?_; rintro e w' ⟨rfl, rfl⟩)
      | (go_at_call 12; refine (unhide (CD _ (hw.on (by assumption)))).mono ?_; rintro e w' ⟨rfl, rfl⟩)
      | (go_at_call 13; refine (unhide (CE _)).mono ?_; rintro e w4 ⟨rfl, hb4⟩; have hk4 := Below.trans (by assumption) (hb4.mono (Below.size (by assumption))))
      | (go_at_call 14; refine (unhide (CN _ (hw.on (by assumption)))).mono ?_; rintro e w' ⟨rfl, rfl⟩)
      | (go_at_call 15; refine (unhide (CY _ (hw.on (by assumption)))).mono ?_; rintro e w' ⟨rfl, rfl⟩)
      | (go_at_call 16; refine (unhide (CM _)).mono ?_; rintro e w4 ⟨rfl, hb4⟩; have hk4 := Below.trans (by assumption) (hb4.mono (Below.size (by assumption))))
      | (go_at_call 17; refine (unhide (CR _)).mono ?_; rintro e w4 ⟨rfl, hb4⟩; have hk4 := Below.trans (by assumption) (hb4.mono (Below.size (by assumption))))
      | (go_at_call 18; refine (unhide (CG _)).mono ?_; rintro e w' ⟨rfl, rfl⟩))
    go_ret
    exact ⟨rfl, by assumption⟩
end Go.Proofs.YtjngnmpjkiafpaaDoor
