import Derived.Test.YtjngnmpjkiafpaaDoorCv
namespace Go.Proofs.YtjngnmpjkiafpaaDoor
open Go.RowKit Cv

def intOf : Value → Int
  | .int _ n => n
  | _ => 0
theorem first_bd {y : Int} (h0 : -10 ≤ y) (h1 : y ≤ 10010) : -730000 ≤ firstZ y ∧ firstZ y ≤ 3000000 := by
  unfold firstZ; omega
set_option maxHeartbeats 1000000 in
theorem rfirst_any (y : Int) (w : World) (h0 : 1 ≤ y) (h1 : y ≤ 10000) :
    Calls Tryd.prog 19 #[.int .i64 y] w fun e w' => e = .returned (.int .i64 (firstZ y)) ∧ w' = w := by
  by_cases hy : 1970 ≤ y
  · go_enter Tryd.func19, Tryd.ntmps19
    go_wp2_with fail
    go_loop [3, 4] (fun n k => ∃ j : Int, k = .int .i64 j ∧ n = .int .i64 (firstZ j) ∧ 1970 ≤ j ∧ j ≤ y) (fun _ k => (y - intOf k).toNat)
    case atStart => exact ⟨1970, rfl, by rw [first_1970], by omega, hy⟩
    case round =>
      obtain ⟨j, rfl, rfl, hj0, hj1⟩ := hrel
      have hb := first_bd (y := j) (by omega) (by omega)
      have hs := first_step j
      have hl := lY_bd j
      obtain ⟨F, hF⟩ : ∃ F, firstZ j = F := ⟨_, rfl⟩
      rw [hF] at hb hs
      by_cases hlt : j < y
      · have HS := hide hs
        clear hs
        go_wp2_with (go_at_call 34; refine (ryear_any _ _).mono ?_; rintro e w' ⟨rfl, rfl⟩)
        go_round
        case rel => exact ⟨j + 1, rfl, by rw [unhide HS]; congr 1; omega, by omega, by omega⟩
        case measure => simp [intOf]; omega
      · obtain rfl : j = y := by omega
        clear hs
        go_wp2_with fail
        refine wp_loop_rounds 1 ?_
        rw [rounds_succ]
        go_wp2_with fail
        go_ret
        exact ⟨by rw [hF]; rfl, rfl⟩
  · go_enter Tryd.func19, Tryd.ntmps19
    go_wp2_with fail
    refine wp_loop_rounds 1 ?_
    rw [rounds_succ]
    go_wp2_with fail
    go_loop [3, 5] (fun n k => ∃ j : Int, k = .int .i64 j ∧ n = .int .i64 (firstZ (j + 1)) ∧ j ≤ 1969 ∧ y ≤ j + 1) (fun _ k => (intOf k + 1 - y).toNat)
    case atStart => exact ⟨1969, rfl, by rw [show (1969 : Int) + 1 = 1970 from rfl, first_1970], by omega, by omega⟩
    case round =>
      obtain ⟨j, rfl, rfl, hj0, hj1⟩ := hrel
      have hb := first_bd (y := j + 1) (by omega) (by omega)
      have hs := first_step j
      have hl := lY_bd j
      by_cases hlt : y ≤ j
      · generalize firstZ (j + 1) = F at *
        have HS := hide hs
        clear hs
        go_wp2_with (go_at_call 34; refine (ryear_any _ _).mono ?_; rintro e w' ⟨rfl, rfl⟩)
        go_round
        case rel => exact ⟨j - 1, rfl, by rw [show j - 1 + 1 = j by omega]; congr 1; have := unhide HS; omega, by omega, by omega⟩
        case measure => simp [intOf]; omega
      · obtain rfl : j + 1 = y := by omega
        clear hs
        obtain ⟨F, hF⟩ : ∃ F, firstZ (j + 1) = F := ⟨_, rfl⟩
        rw [hF]
        go_wp2_with fail
        go_ret
        exact ⟨rfl, rfl⟩

def ydZ (y m d : Int) : Int := if validB y m d = true then cumZ y m + d else 0
theorem cum_step (y k : Int) (h1 : 1 ≤ y) (h2 : y ≤ 9999) (h3 : 1 ≤ k) (h4 : k ≤ 12) : cumZ y (k + 1) = cumZ y k + daysZ y k := by
  rw [daysZ_in h1 h2 h3 h4]; omega
set_option maxHeartbeats 1000000 in
theorem ryearday_any (y m d : Int) (w : World) :
    Calls Tryd.prog 17 #[.int .i64 y, .int .i64 m, .int .i64 d] w fun e w' => e = .returned (.int .i64 (ydZ y m d)) ∧ Below w.heap.size w w' := by
  unfold ydZ
  have hbd := daysZ_bd y m
  cases hv : validB y m d
  · have hn : d < 1 ∨ daysZ y m < d := by
      have : ¬ (1 ≤ d ∧ d ≤ daysZ y m) := fun h => by rw [(valid_iff y m d).2 h] at hv; cases hv
      omega
    obtain ⟨D, hD⟩ : ∃ D, daysZ y m = D := ⟨_, rfl⟩
    rw [hD] at hbd hn
    by_cases hd : d < 1
    · clear hn
      go_enter Tryd.func17, Tryd.ntmps17
      go_wp2_with (go_at_call 13; refine (rdays_any _ _ _).mono ?_; rintro e w' ⟨rfl, hb⟩)
      go_ret
      exact ⟨rfl, Below.refl _ _⟩
    · have hn : D < d := by omega
      go_enter Tryd.func17, Tryd.ntmps17
      go_wp2_with (go_at_call 13; refine (rdays_any _ _ _).mono ?_; rintro e w' ⟨rfl, hb⟩)
      go_ret
      exact ⟨rfl, by assumption⟩
  · have hi := valid_in hv
    have hdd := (valid_iff y m d).1 hv
    obtain ⟨D, hD⟩ : ∃ D, daysZ y m = D := ⟨_, rfl⟩
    rw [hD] at hbd hdd
    go_enter Tryd.func17, Tryd.ntmps17
    go_wp2_with (go_at_call 13; refine (rdays_any _ _ _).mono ?_; rintro e w1 ⟨rfl, hb1⟩)
    clear hD
    go_loopw [2, 7] (fun t k w' => ∃ j : Int, k = .int .i64 j ∧ t = .int .i64 (cumZ y j + d) ∧ 1 ≤ j ∧ j ≤ m ∧ Below w.heap.size w w') (fun _ k _ => (m - intOf k).toNat)
    case atStart => exact ⟨1, rfl, by rw [cum_1]; congr 1; omega, by omega, by omega, by assumption⟩
    case round =>
      obtain ⟨j, rfl, rfl, hj0, hj1, hb⟩ := hrel
      have hc := cum_bd y j
      have hs := hide (cum_step y j hi.1 hi.2.1 hj0 (by omega))
      have hj := daysZ_bd y j
      obtain ⟨C, hC⟩ : ∃ C, cumZ y j = C := ⟨_, rfl⟩
      rw [hC] at hc hs
      by_cases hlt : j < m
      · go_wp2_with (go_at_call 13; refine (rdays_any _ _ _).mono ?_; rintro e w2 ⟨rfl, hb2⟩)
        go_round
        case rel => exact ⟨j + 1, rfl, by rw [unhide hs]; congr 1; omega, by omega, by omega, hb.trans (hb2.mono hb.size)⟩
        case measure => simp [intOf]; omega
      · obtain rfl : j = m := by omega
        go_wp2_with fail
        go_ret
        exact ⟨rfl, hb⟩
theorem ydZ_bd (y m d : Int) : 0 ≤ ydZ y m d ∧ ydZ y m d ≤ 366 ∧ (ydZ y m d = 0 ↔ validB y m d = false) := by
  unfold ydZ
  cases h : validB y m d
  · simp
  · have := valid_place h
    have := lY_bd y
    simp
    omega
theorem rnumber_bad (y m d : Int) (w : World) (h : validB y m d = false) :
    Calls Tryd.prog 16 #[.int .i64 y, .int .i64 m, .int .i64 d] w fun e w' => e = .returned (.tuple #[.int .i64 0, .bool false]) ∧ Below w.heap.size w w' := by
  have e : ydZ y m d = 0 := by unfold ydZ; rw [h]; rfl
  go_enter Tryd.func16, Tryd.ntmps16
  go_wp2_with (go_at_call 17; refine (ryearday_any _ _ _ _).mono ?_; rintro e w1 ⟨rfl, hb1⟩)
  go_ret2
  exact ⟨rfl, by assumption⟩
theorem rnumber_good (y m d : Int) (w : World) (h : validB y m d = true) :
    Calls Tryd.prog 16 #[.int .i64 y, .int .i64 m, .int .i64 d] w fun e w' => e = .returned (.tuple #[.int .i64 (numZ y m d), .bool true]) ∧ Below w.heap.size w w' := by
  have hi := valid_in h
  have hp := valid_place h
  have e : ydZ y m d = cumZ y m + d := by unfold ydZ; rw [if_pos h]
  have hn : firstZ y + (cumZ y m + d) - 1 = numZ y m d := by unfold numZ; omega
  have hb := first_bd (y := y) (by omega) (by omega)
  have hl := lY_bd y
  have HN := hide hn
  clear hn
  obtain ⟨Y, hY⟩ : ∃ Y, ydZ y m d = Y := ⟨_, rfl⟩
  rw [hY] at e
  rw [← e] at hp HN
  clear e
  go_enter Tryd.func16, Tryd.ntmps16
  go_wp2_with (first | (go_at_call 17; refine (ryearday_any _ _ _ _).mono ?_; rintro e w1 ⟨rfl, hb1⟩) | (go_at_call 19; refine (rfirst_any _ _ (by omega) (by omega)).mono ?_; rintro e w' ⟨rfl, rfl⟩))
  go_ret2
  exact ⟨by rw [← unhide HN]; rfl, by assumption⟩

theorem ys_any (y : Int) (w : World) (h0 : 0 ≤ y) (h1 : y ≤ 10000) :
    Calls Tryd.prog 31 #[.int .i64 y] w fun e w' => e = .returned (.int .i64 (ysZ y)) ∧ w' = w := by
  have e1 : y.tdiv 4 = y / 4 := Int.tdiv_eq_ediv_of_nonneg h0
  have e2 : y.tdiv 100 = y / 100 := Int.tdiv_eq_ediv_of_nonneg h0
  go_enter Tryd.func31, Tryd.ntmps31
  go_wp2_with fail
  go_ret
  exact ⟨rfl, rfl⟩
theorem ms_any (m : Int) (w : World) (h0 : 0 ≤ m) (h1 : m ≤ 100) :
    Calls Tryd.prog 32 #[.int .i64 m] w fun e w' => e = .returned (.int .i64 (msZ m)) ∧ w' = w := by
  have e1 : (m * 153 + 2).tdiv 5 = (m * 153 + 2) / 5 := Int.tdiv_eq_ediv_of_nonneg (by omega)
  go_enter Tryd.func32, Tryd.ntmps32
  go_wp2_with fail
  go_ret
  exact ⟨rfl, rfl⟩
def withinB (n : Int) : Bool := decide (-719162 ≤ n) && decide (n ≤ 2932896)
theorem within_any (n : Int) (w : World) :
    Calls Tryd.prog 33 #[.int .i64 n] w fun e w' => e = .returned (.bool (withinB n)) ∧ w' = w := by
  unfold withinB
  cases d1 : decide (-719162 ≤ n) <;> cases d2 : decide (n ≤ 2932896)
  all_goals
    go_enter Tryd.func33, Tryd.ntmps33
    go_wp2_with fail
    go_ret
    exact ⟨rfl, rfl⟩
theorem wd_any (n : Int) (w : World) :
    Calls Tryd.prog 20 #[.int .i64 n] w fun e w' => e = .returned (.int .i64 (wdZ n)) ∧ w' = w := by
  have e2 : (n.tmod 7 + 7 + 3).tmod 7 = wdZ n := by
    unfold wdZ
    rcases Int.lt_or_le n 0 with h | h
    · obtain ⟨m, rfl⟩ : ∃ m, n = -m := ⟨-n, by omega⟩
      rw [Int.neg_tmod, Int.tmod_eq_emod_of_nonneg (show 0 ≤ m by omega), Int.tmod_eq_emod_of_nonneg (by omega)]; omega
    · rw [Int.tmod_eq_emod_of_nonneg h, Int.tmod_eq_emod_of_nonneg (by omega)]; omega
  have hb : -7 < n.tmod 7 ∧ n.tmod 7 < 7 := by
    rcases Int.lt_or_le n 0 with h | h
    · obtain ⟨m, rfl⟩ : ∃ m, n = -m := ⟨-n, by omega⟩
      rw [Int.neg_tmod, Int.tmod_eq_emod_of_nonneg (show 0 ≤ m by omega)]; omega
    · rw [Int.tmod_eq_emod_of_nonneg h]; omega
  have HE := hide e2
  clear e2
  obtain ⟨T, hT⟩ : ∃ T, n.tmod 7 = T := ⟨_, rfl⟩
  rw [hT] at HE hb
  have e3 : (T + 7 + 3).tmod 7 = (T + 10) % 7 := by rw [show T + 7 + 3 = T + 10 by omega, Int.tmod_eq_emod_of_nonneg (by omega)]
  have e4 : (T + 10) % 7 = wdZ n := by rw [← unhide HE, e3]
  have HF := hide e4
  clear e4
  go_enter Tryd.func20, Tryd.ntmps20
  go_wp2_with fail
  go_ret
  exact ⟨by rw [← unhide HF]; rfl, rfl⟩

theorem tm7 (n : Int) : -7 < n.tmod 7 ∧ n.tmod 7 < 7 ∧ (3 + n.tmod 7) % 7 = wdZ n := by
  unfold wdZ
  rcases Int.lt_or_le n 0 with h | h
  · obtain ⟨m, rfl⟩ : ∃ m, n = -m := ⟨-n, by omega⟩
    rw [Int.neg_tmod, Int.tmod_eq_emod_of_nonneg (show 0 ≤ m by omega)]; omega
  · rw [Int.tmod_eq_emod_of_nonneg h]; omega
set_option maxHeartbeats 1000000 in
theorem rwd_any (n : Int) (w : World) :
    Calls Tryd.prog 21 #[.int .i64 n] w fun e w' => e = .returned (.int .i64 (wdZ n)) ∧ w' = w := by
  have h7 := tm7 n
  obtain ⟨T, hT⟩ : ∃ T, n.tmod 7 = T := ⟨_, rfl⟩
  rw [hT] at h7
  obtain ⟨b1, b2, hW⟩ := h7
  have HW := hide hW
  clear hW
  by_cases h : 0 ≤ T
  · go_enter Tryd.func21, Tryd.ntmps21
    go_wp2_with fail
    go_loop [0, 3] (fun a b => ∃ j x : Int, a = .int .i64 j ∧ b = .int .i64 x ∧ 0 ≤ j ∧ j ≤ T ∧ x = (3 + T - j) % 7) (fun a _ => (intOf a).toNat)
    case atStart => exact ⟨T, 3, rfl, rfl, by omega, by omega, by omega⟩
    case round =>
      obtain ⟨j, x, rfl, rfl, j0, j1, hx⟩ := hrel
      have x0 : 0 ≤ x ∧ x < 7 := by omega
      have HX := hide hx
      clear hx
      by_cases hlt : 0 < j
      · have e1 : (x + 1).tmod 7 = (x + 1) % 7 := Int.tmod_eq_emod_of_nonneg (by omega)
        go_wp2_with fail
        go_round
        case rel => exact ⟨j - 1, _, rfl, rfl, by omega, by omega, by have := unhide HX; omega⟩
        case measure => simp [intOf]; omega
      · obtain rfl : j = 0 := by omega
        go_wp2_with fail
        refine wp_loop_rounds 1 ?_
        rw [rounds_succ]
        go_wp2_with fail
        go_ret
        exact ⟨ret_int (by rw [← unhide HW]; have := unhide HX; omega), rfl⟩
  · go_enter Tryd.func21, Tryd.ntmps21
    go_wp2_with fail
    refine wp_loop_rounds 1 ?_
    rw [rounds_succ]
    go_wp2_with fail
    go_loop [0, 3] (fun a b => ∃ j x : Int, a = .int .i64 j ∧ b = .int .i64 x ∧ j ≤ 0 ∧ T ≤ j ∧ x = (3 + T - j) % 7) (fun a _ => (- intOf a).toNat)
    case atStart => exact ⟨T, 3, rfl, rfl, by omega, by omega, by omega⟩
    case round =>
      obtain ⟨j, x, rfl, rfl, j0, j1, hx⟩ := hrel
      have x0 : 0 ≤ x ∧ x < 7 := by omega
      have HX := hide hx
      clear hx
      by_cases hlt : j < 0
      · have e1 : (x + 6).tmod 7 = (x + 6) % 7 := Int.tmod_eq_emod_of_nonneg (by omega)
        go_wp2_with fail
        go_round
        case rel => exact ⟨j + 1, _, rfl, rfl, by omega, by omega, by have := unhide HX; omega⟩
        case measure => simp [intOf]; omega
      · obtain rfl : j = 0 := by omega
        go_wp2_with fail
        go_ret
        exact ⟨ret_int (by rw [← unhide HW]; have := unhide HX; omega), rfl⟩
end Go.Proofs.YtjngnmpjkiafpaaDoor
