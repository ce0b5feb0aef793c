import Derived.Test.YtjngnmpjkiafpaaDoorCv6
namespace Go.Proofs.YtjngnmpjkiafpaaDoor
open Go.RowKit Cv

def secZ (y m d H M S : Int) : Int := numZ y m d * 86400 + H * 3600 + M * 60 + S
set_option maxHeartbeats 1000000 in
theorem spec_bad (y m d H M S X : Int) (w : World) (hw : CTab w) (h : rB y m d H M S X = false) :
    Calls Tryd.prog 24 #[dateV y m d H M S X] w fun e w' => e = .returned (.tuple #[.int .i64 0, .int .i64 0, .bool false]) ∧ Below w.heap.size w w' := by
  have hw1 := hw.on (below1 w (.cells #[.int .i64 y, .int .i64 m, .int .i64 d, .int .i64 H, .int .i64 M, .int .i64 S, .int .i64 X] 35))
  have hb1 := below1 w (.cells #[.int .i64 y, .int .i64 m, .int .i64 d, .int .i64 H, .int .i64 M, .int .i64 S, .int .i64 X] 35)
  go_enter Tryd.func24, Tryd.ntmps24
  go_wp2_with (go_at_call 26; refine (right_any _ _ _ _ _ _ _ _ hw1).mono ?_; rintro e w2 ⟨rfl, hb2⟩)
  go_ret3
  exact ⟨rfl, hb1.trans (hb2.mono hb1.size)⟩
set_option maxHeartbeats 2000000 in
theorem spec_good (y m d H M S X : Int) (w : World) (hw : CTab w) (h : rB y m d H M S X = true) :
    Calls Tryd.prog 24 #[dateV y m d H M S X] w fun e w' => e = .returned (.tuple #[.int .i64 (secZ y m d H M S), .int .i64 X, .bool true]) ∧ Below w.heap.size w w' := by
  have hr := (rB_iff ..).1 h
  have hn := num_bd hr.1
  have e0 : numD y m d = numZ y m d := by unfold numD; rw [if_pos hr.1]
  have hv := hr.1
  have hb1 := below1 w (.cells #[.int .i64 y, .int .i64 m, .int .i64 d, .int .i64 H, .int .i64 M, .int .i64 S, .int .i64 X] 35)
  have hw1 := hw.on hb1
  obtain ⟨W0, hW0⟩ : ∃ W0, W0 = w.alloc (.cells #[.int .i64 y, .int .i64 m, .int .i64 d, .int .i64 H, .int .i64 M, .int .i64 S, .int .i64 X] 35) := ⟨_, rfl⟩
  rw [← hW0] at hb1 hw1
  have r0 := held4 (W := W0) (v := .int .i64 y) (a := ⟨w.heap.size, 0, none⟩) (by rw [hW0]; simp [go_sem])
  have r1 := held4 (W := W0) (v := .int .i64 m) (a := ⟨w.heap.size, 1, none⟩) (by rw [hW0]; simp [go_sem])
  have r2 := held4 (W := W0) (v := .int .i64 d) (a := ⟨w.heap.size, 2, none⟩) (by rw [hW0]; simp [go_sem])
  have r3 := held4 (W := W0) (v := .int .i64 H) (a := ⟨w.heap.size, 3, none⟩) (by rw [hW0]; simp [go_sem])
  have r4 := held4 (W := W0) (v := .int .i64 M) (a := ⟨w.heap.size, 4, none⟩) (by rw [hW0]; simp [go_sem])
  have r5 := held4 (W := W0) (v := .int .i64 S) (a := ⟨w.heap.size, 5, none⟩) (by rw [hW0]; simp [go_sem])
  have r6 := held4 (W := W0) (v := .int .i64 X) (a := ⟨w.heap.size, 6, none⟩) (by rw [hW0]; simp [go_sem])
  have HW := hide hW0
  clear hW0
  unfold secZ
  rw [← e0] at hn ⊢
  clear e0
  obtain ⟨K, hK⟩ : ∃ K, numD y m d = K := ⟨_, rfl⟩
  rw [hK] at hn ⊢
  go_enter Tryd.func24, Tryd.ntmps24
  go_wp2_with (go_at_call 26; refine Hid.out ?_)
  refine hide ?_
  rw [← unhide HW]
  refine (right_any _ _ _ _ _ _ _ _ hw1).mono ?_
  rintro e w2 ⟨rfl, hb2⟩
  go_wp2_with (go_at_call 14; refine (number_any _ _ _ _ (hw1.on hb2)).mono ?_; rintro e w' ⟨rfl, rfl⟩)
  go_quiet (fail)
  go_wp2_with fail
  go_ret3
  exact ⟨rfl, (hb1.trans (hb2.mono hb1.size)).trans ((below_drewN _ _).mono (Nat.le_trans hb1.size hb2.size))⟩

/-- The date of seconds. -/
def sdZ (s : Int) : Int := s / 86400
def srZ (s : Int) : Int := s % 86400
def dateOk (s n : Int) : Bool := withinB (sdZ s) && decide (0 ≤ n) && decide (n ≤ 999999999)
def dateOf (s n : Int) : Value := dateV (dayY (sdZ s)) (dayM (sdZ s)) (dayD (sdZ s)) (srZ s / 3600) (srZ s % 3600 / 60) (srZ s % 60) n
theorem s_tdiv (s : Int) : s.tdiv 86400 = if s % 86400 = 0 ∨ 0 ≤ s then s / 86400 else s / 86400 + 1 := by
  rcases Int.lt_or_le s 0 with h | h
  · obtain ⟨m, rfl⟩ : ∃ m, s = -m := ⟨-s, by omega⟩
    rw [Int.neg_tdiv, Int.tdiv_eq_ediv_of_nonneg (show 0 ≤ m by omega)]
    split <;> omega
  · rw [Int.tdiv_eq_ediv_of_nonneg h, if_pos (.inr h)]
theorem s_tmod (s : Int) : s.tmod 86400 = if s % 86400 = 0 ∨ 0 ≤ s then s % 86400 else s % 86400 - 86400 := by
  rcases Int.lt_or_le s 0 with h | h
  · obtain ⟨m, rfl⟩ : ∃ m, s = -m := ⟨-s, by omega⟩
    rw [Int.neg_tmod, Int.tmod_eq_emod_of_nonneg (show 0 ≤ m by omega)]
    split <;> omega
  · rw [Int.tmod_eq_emod_of_nonneg h, if_pos (.inr h)]
set_option maxHeartbeats 4000000 in
theorem date_any (s n : Int) (w : World) (h0 : -9223372036854775808 ≤ s) (h1 : s ≤ 9223372036854775807) :
    Calls Tryd.prog 28 #[.int .i64 s, .int .i64 n] w fun e w' => e = .returned (.tuple #[if dateOk s n = true then dateOf s n else dateV 0 0 0 0 0 0 0, .bool (dateOk s n)]) ∧ Below w.heap.size w w' := by
  have q := s_tdiv s
  have r := s_tmod s
  have hs : s / 86400 = sdZ s := rfl
  have hr : s % 86400 = srZ s := rfl
  have hsd : s = 86400 * sdZ s + srZ s ∧ 0 ≤ srZ s ∧ srZ s < 86400 := by unfold sdZ srZ; omega
  rw [hs] at q
  rw [hr] at q r
  clear hs hr
  have hOk : dateOk s n = (withinB (sdZ s) && decide (0 ≤ n) && decide (n ≤ 999999999)) := rfl
  have hOf : dateOf s n = dateV (dayY (sdZ s)) (dayM (sdZ s)) (dayD (sdZ s)) (srZ s / 3600) (srZ s % 3600 / 60) (srZ s % 60) n := rfl
  rw [hOk, hOf]
  clear hOk hOf
  obtain ⟨D, hD⟩ : ∃ D, sdZ s = D := ⟨_, rfl⟩
  obtain ⟨R, hR⟩ : ∃ R, srZ s = R := ⟨_, rfl⟩
  rw [hD, hR] at q hsd ⊢
  rw [hR] at r
  clear hD hR
  obtain ⟨hsd, R0, R1⟩ := hsd
  have bD : -106751991167301 ≤ D ∧ D ≤ 106751991167300 := by omega
  have d1 : R.tdiv 3600 = R / 3600 := Int.tdiv_eq_ediv_of_nonneg R0
  have d2 : R.tmod 3600 = R % 3600 := Int.tmod_eq_emod_of_nonneg R0
  have d3 : R.tmod 60 = R % 60 := Int.tmod_eq_emod_of_nonneg R0
  have d4 : (R % 3600).tdiv 60 = R % 3600 / 60 := Int.tdiv_eq_ediv_of_nonneg (by omega)
  have hb1 := below1 w (.cells #[.int .i64 0, .int .i64 0, .int .i64 0, .int .i64 0, .int .i64 0, .int .i64 0, .int .i64 0] 35)
  by_cases hq : R = 0 ∨ 0 ≤ s
  all_goals
    first | rw [if_pos hq] at q r | rw [if_neg hq] at q r
    clear hsd hq
    cases hW : withinB D
    · go_enter Tryd.func28, Tryd.ntmps28
      go_wp2_with (go_at_call 18; refine (day_any _ _).mono ?_; rintro e w' ⟨rfl, rfl⟩)
      exact bodyPost_ret (v := .tuple #[dateV 0 0 0 0 0 0 0, .bool false]) (by simp [results, Tryd.results28, go_sem]) rfl ⟨rfl, (by first | exact below1 _ _ | exact (below1 _ _).drew)⟩
    · have eY : dayY D = dY D := by unfold dY; rw [if_pos hW]
      have eM : dayM D = dM D := by unfold dM; rw [if_pos hW]
      have eD : dayD D = dD D := by unfold dD; rw [if_pos hW]
      rw [eY, eM, eD]
      clear eY eM eD
      by_cases d5 : 0 ≤ n
      · by_cases d6 : n ≤ 999999999
        · rw [decide_eq_true d5, decide_eq_true d6]
          go_enter Tryd.func28, Tryd.ntmps28
          go_wp2_with (go_at_call 18; refine (day_any _ _).mono ?_; rintro e w' ⟨rfl, rfl⟩)
          exact bodyPost_ret (v := .tuple #[dateV (dY D) (dM D) (dD D) (R / 3600) (R % 3600 / 60) (R % 60) n, .bool true]) (by simp [results, Tryd.results28, go_sem]) rfl ⟨rfl, (by first | exact below1 _ _ | exact (below1 _ _).drew)⟩
        · rw [decide_eq_true d5, decide_eq_false d6]
          go_enter Tryd.func28, Tryd.ntmps28
          go_wp2_with (go_at_call 18; refine (day_any _ _).mono ?_; rintro e w' ⟨rfl, rfl⟩)
          exact bodyPost_ret (v := .tuple #[dateV 0 0 0 0 0 0 0, .bool false]) (by simp [results, Tryd.results28, go_sem]) rfl ⟨rfl, (by first | exact below1 _ _ | exact (below1 _ _).drew)⟩
      · rw [decide_eq_false d5]
        go_enter Tryd.func28, Tryd.ntmps28
        go_wp2_with (go_at_call 18; refine (day_any _ _).mono ?_; rintro e w' ⟨rfl, rfl⟩)
        exact bodyPost_ret (v := .tuple #[dateV 0 0 0 0 0 0 0, .bool false]) (by simp [results, Tryd.results28, go_sem]) rfl ⟨rfl, (by first | exact below1 _ _ | exact (below1 _ _).drew)⟩
end Go.Proofs.YtjngnmpjkiafpaaDoor
