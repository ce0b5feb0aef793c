import Derived.Test.YtjngnmpjkiafpaaDoorCv2
namespace Go.Proofs.YtjngnmpjkiafpaaDoor
open Go.RowKit Cv

theorem ret2 {a b : Int} {c d : Bool} (h : a = b) (h' : c = d) : Ending.returned (.tuple #[.int .i64 a, .bool c]) = .returned (.tuple #[.int .i64 b, .bool d]) := by rw [h, h']
set_option maxHeartbeats 1000000 in
theorem number_bad (y m d : Int) (w : World) (hw : CTab w) (h : validB y m d = false) :
    Calls Tryd.prog 14 #[.int .i64 y, .int .i64 m, .int .i64 d] w fun e w' => e = .returned (.tuple #[.int .i64 0, .bool false]) ∧ w' = w := by
  have hn : d < 1 ∨ daysZ y m < d := by
    have : ¬ (1 ≤ d ∧ d ≤ daysZ y m) := fun h' => by rw [(valid_iff y m d).2 h'] at h; cases h
    omega
  have hbd := daysZ_bd y m
  obtain ⟨D, hD⟩ : ∃ D, daysZ y m = D := ⟨_, rfl⟩
  rw [hD] at hbd hn
  by_cases hd : d < 1
  · clear hn
    go_enter Tryd.func14, Tryd.ntmps14
    go_wp2_with (go_at_call 12; refine (days_any _ _ _ hw).mono ?_; rintro e w' ⟨rfl, rfl⟩)
    go_ret2
    exact ⟨rfl, rfl⟩
  · have hn : D < d := by omega
    go_enter Tryd.func14, Tryd.ntmps14
    go_wp2_with (go_at_call 12; refine (days_any _ _ _ hw).mono ?_; rintro e w' ⟨rfl, rfl⟩)
    go_ret2
    exact ⟨rfl, rfl⟩
set_option maxHeartbeats 1000000 in
theorem number_good (y m d : Int) (w : World) (hw : CTab w) (h : validB y m d = true) :
    Calls Tryd.prog 14 #[.int .i64 y, .int .i64 m, .int .i64 d] w fun e w' => e = .returned (.tuple #[.int .i64 (numZ y m d), .bool true]) ∧ w' = w := by
  have hi := valid_in h
  have hd := (valid_iff y m d).1 h
  have hE := era_num (y := y) (m := m) (d := d) (by omega) (by omega)
  obtain ⟨D, hD⟩ : ∃ D, daysZ y m = D := ⟨_, rfl⟩
  rw [hD] at hd
  by_cases hm : m < 3
  · rw [if_pos hm] at hE
    unfold eraNum at hE
    have q1 : (y - 1).tdiv 400 = (y - 1) / 400 := Int.tdiv_eq_ediv_of_nonneg (by omega)
    have q2 : (y - 1).tmod 400 = (y - 1) % 400 := Int.tmod_eq_emod_of_nonneg (by omega)
    have b1 : 0 ≤ (y - 1) / 400 ∧ (y - 1) / 400 ≤ 24 := by omega
    have b2 : 0 ≤ (y - 1) % 400 ∧ (y - 1) % 400 ≤ 399 := by omega
    obtain ⟨E, hEE⟩ : ∃ E, (y - 1) / 400 = E := ⟨_, rfl⟩
    obtain ⟨R, hR⟩ : ∃ R, (y - 1) % 400 = R := ⟨_, rfl⟩
    rw [hEE] at q1 b1 hE
    rw [hR] at q2 b2 hE
    clear hEE hR
    have y1 : 0 ≤ ysZ R ∧ ysZ R ≤ 147000 := by unfold ysZ; omega
    have m1 : 0 ≤ msZ (m + 12 - 3) ∧ msZ (m + 12 - 3) ≤ 400 := by unfold msZ; omega
    have HE := hide hE
    clear hE
    go_enter Tryd.func14, Tryd.ntmps14
    go_wp2_with (first | (go_at_call 12; refine (days_any _ _ _ hw).mono ?_; rintro e w' ⟨rfl, rfl⟩) | (go_at_call 31; refine (ys_any _ _ (by omega) (by omega)).mono ?_; rintro e w' ⟨rfl, rfl⟩) | (go_at_call 32; refine (ms_any _ _ (by omega) (by omega)).mono ?_; rintro e w' ⟨rfl, rfl⟩))
    go_ret2
    exact ⟨ret2 (by rw [← unhide HE]) rfl, rfl⟩
  · rw [if_neg hm] at hE
    unfold eraNum at hE
    have q1 : y.tdiv 400 = y / 400 := Int.tdiv_eq_ediv_of_nonneg (by omega)
    have q2 : y.tmod 400 = y % 400 := Int.tmod_eq_emod_of_nonneg (by omega)
    have b1 : 0 ≤ y / 400 ∧ y / 400 ≤ 24 := by omega
    have b2 : 0 ≤ y % 400 ∧ y % 400 ≤ 399 := by omega
    obtain ⟨E, hEE⟩ : ∃ E, y / 400 = E := ⟨_, rfl⟩
    obtain ⟨R, hR⟩ : ∃ R, y % 400 = R := ⟨_, rfl⟩
    rw [hEE] at q1 b1 hE
    rw [hR] at q2 b2 hE
    clear hEE hR
    have y1 : 0 ≤ ysZ R ∧ ysZ R ≤ 147000 := by unfold ysZ; omega
    have m1 : 0 ≤ msZ (m - 3) ∧ msZ (m - 3) ≤ 400 := by unfold msZ; omega
    have HE := hide hE
    clear hE
    go_enter Tryd.func14, Tryd.ntmps14
    go_wp2_with (first | (go_at_call 12; refine (days_any _ _ _ hw).mono ?_; rintro e w' ⟨rfl, rfl⟩) | (go_at_call 31; refine (ys_any _ _ (by omega) (by omega)).mono ?_; rintro e w' ⟨rfl, rfl⟩) | (go_at_call 32; refine (ms_any _ _ (by omega) (by omega)).mono ?_; rintro e w' ⟨rfl, rfl⟩))
    go_ret2
    exact ⟨ret2 (by rw [← unhide HE]) rfl, rfl⟩
def numD (y m d : Int) : Int := if validB y m d = true then numZ y m d else 0
theorem number_any (y m d : Int) (w : World) (hw : CTab w) :
    Calls Tryd.prog 14 #[.int .i64 y, .int .i64 m, .int .i64 d] w fun e w' => e = .returned (.tuple #[.int .i64 (numD y m d), .bool (validB y m d)]) ∧ w' = w := by
  unfold numD
  cases h : validB y m d
  · exact number_bad y m d w hw h
  · exact number_good y m d w hw h

theorem ret4 {a b c a' b' c' : Int} (h : a = a') (h2 : b = b') (h3 : c = c') : Ending.returned (.tuple #[.int .i64 a, .int .i64 b, .int .i64 c, .bool true]) = .returned (.tuple #[.int .i64 a', .int .i64 b', .int .i64 c', .bool true]) := by rw [h, h2, h3]
set_option maxHeartbeats 1000000 in
theorem day_bad (n : Int) (w : World) (h : withinB n = false) :
    Calls Tryd.prog 18 #[.int .i64 n] w fun e w' => e = .returned (.tuple #[.int .i64 0, .int .i64 0, .int .i64 0, .bool false]) ∧ w' = w := by
  go_enter Tryd.func18, Tryd.ntmps18
  go_wp2_with (go_at_call 33; refine (within_any _ _).mono ?_; rintro e w' ⟨rfl, rfl⟩)
  (try simp only [Exit.inBlock, Exit.then]); refine bodyPost_ret (results_tmp4 rfl _ _ _) rfl ?_
  exact ⟨rfl, rfl⟩
set_option maxHeartbeats 2000000 in
theorem day_good (n : Int) (w : World) (h : withinB n = true) :
    Calls Tryd.prog 18 #[.int .i64 n] w fun e w' => e = .returned (.tuple #[.int .i64 (dayY n), .int .i64 (dayM n), .int .i64 (dayD n), .bool true]) ∧ w' = w := by
  have hb : -719162 ≤ n ∧ n ≤ 2932896 := by simpa [withinB] using h
  have q1 : (n - -719468).tdiv 146097 = (n + 719468) / 146097 := by rw [show n - -719468 = n + 719468 by omega]; exact Int.tdiv_eq_ediv_of_nonneg (by omega)
  have q2 : (n - -719468).tmod 146097 = (n + 719468) % 146097 := by rw [show n - -719468 = n + 719468 by omega]; exact Int.tmod_eq_emod_of_nonneg (by omega)
  have q3 : (n + 719468).tdiv 146097 = (n + 719468) / 146097 := Int.tdiv_eq_ediv_of_nonneg (by omega)
  have q4 : (n + 719468).tmod 146097 = (n + 719468) % 146097 := Int.tmod_eq_emod_of_nonneg (by omega)
  have b1 : 0 ≤ (n + 719468) / 146097 ∧ (n + 719468) / 146097 ≤ 24 := by omega
  have b2 : 0 ≤ (n + 719468) % 146097 ∧ (n + 719468) % 146097 ≤ 146096 := by omega
  have hY : dYZ n = eyZ ((n + 719468) % 146097) + (n + 719468) / 146097 * 400 := rfl
  have hT : dTZ n = (n + 719468) % 146097 - ysZ (eyZ ((n + 719468) % 146097)) := rfl
  have hP : dPZ n = (dTZ n * 5 + 2) / 153 := rfl
  have hey := ey_in b2.1 b2.2
  have her := ey_rest b2.1 b2.2
  rw [← hT] at her
  have hmo := month_of (t := dTZ n) her.1 (by have := her.2; split at this <;> omega)
  rw [← hP] at hmo
  have hdD : dayD n = dTZ n - msZ (dPZ n) + 1 := rfl
  have hdY : dayY n = if 10 ≤ dPZ n then dYZ n + 1 else dYZ n := rfl
  have hdM : dayM n = if 10 ≤ dPZ n then dPZ n - 9 else dPZ n + 3 := rfl
  have e0 : eyZ ((n + 719468) % 146097) = (if (n + 719468) % 146097 < ysZ (min ((n + 719468) % 146097 / 365) 399) then min ((n + 719468) % 146097 / 365) 399 - 1 else min ((n + 719468) % 146097 / 365) 399) := rfl
  have her1 := her.1
  have her2 : dTZ n ≤ 365 := by have := her.2; split at this <;> omega
  clear her
  obtain ⟨E, hE⟩ : ∃ E, (n + 719468) / 146097 = E := ⟨_, rfl⟩
  obtain ⟨R, hR⟩ : ∃ R, (n + 719468) % 146097 = R := ⟨_, rfl⟩
  rw [hE] at q1 q3 b1 hY
  rw [hR] at q2 q4 b2 hY hT hey e0
  clear hE hR
  have d1 : R.tdiv 365 = R / 365 := Int.tdiv_eq_ediv_of_nonneg b2.1
  have m0 : 0 ≤ min (R / 365) 399 ∧ min (R / 365) 399 ≤ 399 := by omega
  have hm1 : min (R / 365) 399 = if 399 < R / 365 then 399 else R / 365 := by split <;> omega
  rw [hm1] at e0 m0
  obtain ⟨M, hM⟩ : ∃ M, (if 399 < R / 365 then 399 else R / 365) = M := ⟨_, rfl⟩
  rw [hM] at e0 m0
  clear hm1
  have ys0 : 0 ≤ ysZ M ∧ ysZ M ≤ 147000 := by unfold ysZ; omega
  obtain ⟨Z, hZ⟩ : ∃ Z, eyZ R = Z := ⟨_, rfl⟩
  rw [hZ] at e0 hY hT hey
  clear hZ
  have ys1 : 0 ≤ ysZ Z ∧ ysZ Z ≤ 147000 := by have := hey.1; have := hey.2.1; unfold ysZ; omega
  obtain ⟨T, hTT⟩ : ∃ T, dTZ n = T := ⟨_, rfl⟩
  obtain ⟨P, hPP⟩ : ∃ P, dPZ n = P := ⟨_, rfl⟩
  obtain ⟨Y, hYY⟩ : ∃ Y, dYZ n = Y := ⟨_, rfl⟩
  rw [hTT] at hT hP hmo hdD her1 her2
  rw [hPP] at hP hmo hdD hdY hdM
  rw [hYY] at hdY hY
  clear hTT hPP hYY
  have p1 : (T * 5 + 2).tdiv 153 = P := by rw [hP]; exact Int.tdiv_eq_ediv_of_nonneg (by omega)
  obtain ⟨mp0, mp1, mp2, mp3⟩ := hmo
  have ms0 : 0 ≤ msZ P ∧ msZ P ≤ 400 := by unfold msZ; omega
  have HY := hide hdY
  have HM := hide hdM
  have HD := hide hdD
  have HYY := hide hY
  clear hdY hdM hdD hP hY mp2 mp3 hey
  have t1 : R - ysZ Z = T := hT.symm
  clear hT
  by_cases hlt : R < ysZ M
  · rw [if_pos hlt] at e0
    have z1 : M - 1 = Z := e0.symm
    have z0 : 0 ≤ Z := by
      by_cases c : 0 ≤ Z
      · exact c
      · exfalso
        have : M = 0 := by omega
        subst this
        have : ysZ 0 = 0 := by decide
        omega
    clear e0
    by_cases hp : 10 ≤ P
    · go_enter Tryd.func18, Tryd.ntmps18
      go_wp2_with (first | (go_at_call 33; refine (within_any _ _).mono ?_; rintro e w' ⟨rfl, rfl⟩) | (go_at_call 31; refine (ys_any _ _ (by omega) (by omega)).mono ?_; rintro e w' ⟨rfl, rfl⟩) | (go_at_call 32; refine (ms_any _ _ (by omega) (by omega)).mono ?_; rintro e w' ⟨rfl, rfl⟩))
      (try simp only [Exit.inBlock, Exit.then]); refine bodyPost_ret (results_tmp4 rfl _ _ _) rfl ?_
      exact ⟨ret4 (by rw [unhide HY, if_pos hp, unhide HYY]) (by rw [unhide HM, if_pos hp]) (by rw [unhide HD]), rfl⟩
    · go_enter Tryd.func18, Tryd.ntmps18
      go_wp2_with (first | (go_at_call 33; refine (within_any _ _).mono ?_; rintro e w' ⟨rfl, rfl⟩) | (go_at_call 31; refine (ys_any _ _ (by omega) (by omega)).mono ?_; rintro e w' ⟨rfl, rfl⟩) | (go_at_call 32; refine (ms_any _ _ (by omega) (by omega)).mono ?_; rintro e w' ⟨rfl, rfl⟩))
      (try simp only [Exit.inBlock, Exit.then]); refine bodyPost_ret (results_tmp4 rfl _ _ _) rfl ?_
      exact ⟨ret4 (by rw [unhide HY, if_neg (by omega), unhide HYY]) (by rw [unhide HM, if_neg (by omega)]) (by rw [unhide HD]), rfl⟩
  · rw [if_neg hlt] at e0
    subst e0
    by_cases hp : 10 ≤ P
    · go_enter Tryd.func18, Tryd.ntmps18
      go_wp2_with (first | (go_at_call 33; refine (within_any _ _).mono ?_; rintro e w' ⟨rfl, rfl⟩) | (go_at_call 31; refine (ys_any _ _ (by omega) (by omega)).mono ?_; rintro e w' ⟨rfl, rfl⟩) | (go_at_call 32; refine (ms_any _ _ (by omega) (by omega)).mono ?_; rintro e w' ⟨rfl, rfl⟩))
      (try simp only [Exit.inBlock, Exit.then]); refine bodyPost_ret (results_tmp4 rfl _ _ _) rfl ?_
      exact ⟨ret4 (by rw [unhide HY, if_pos hp, unhide HYY]) (by rw [unhide HM, if_pos hp]) (by rw [unhide HD]), rfl⟩
    · go_enter Tryd.func18, Tryd.ntmps18
      go_wp2_with (first | (go_at_call 33; refine (within_any _ _).mono ?_; rintro e w' ⟨rfl, rfl⟩) | (go_at_call 31; refine (ys_any _ _ (by omega) (by omega)).mono ?_; rintro e w' ⟨rfl, rfl⟩) | (go_at_call 32; refine (ms_any _ _ (by omega) (by omega)).mono ?_; rintro e w' ⟨rfl, rfl⟩))
      (try simp only [Exit.inBlock, Exit.then]); refine bodyPost_ret (results_tmp4 rfl _ _ _) rfl ?_
      exact ⟨ret4 (by rw [unhide HY, if_neg (by omega), unhide HYY]) (by rw [unhide HM, if_neg (by omega)]) (by rw [unhide HD]), rfl⟩
def dY (n : Int) : Int := if withinB n = true then dayY n else 0
def dM (n : Int) : Int := if withinB n = true then dayM n else 0
def dD (n : Int) : Int := if withinB n = true then dayD n else 0
theorem day_any (n : Int) (w : World) :
    Calls Tryd.prog 18 #[.int .i64 n] w fun e w' => e = .returned (.tuple #[.int .i64 (dY n), .int .i64 (dM n), .int .i64 (dD n), .bool (withinB n)]) ∧ w' = w := by
  unfold dY dM dD
  cases h : withinB n
  · exact day_bad n w h
  · exact day_good n w h
end Go.Proofs.YtjngnmpjkiafpaaDoor
