import Derived.Test.YtjngnmpjkiafpaaDoorCv3
namespace Go.Proofs.YtjngnmpjkiafpaaDoor
open Go.RowKit Cv

theorem numD_bd (y m d : Int) : -719162 ≤ numD y m d ∧ numD y m d ≤ 2932896 := by
  unfold numD
  split
  · rename_i h; exact num_bd h
  · omega
theorem valid_first {y : Int} (h0 : 1 ≤ y) (h1 : y ≤ 9999) : validB y 1 1 = true := by
  rw [valid_iff]
  unfold daysZ
  rw [if_neg (by omega), if_neg (by omega)]
  decide
theorem yd_num {y m d : Int} (h : validB y m d = true) : numD y m d - numD y 1 1 + 1 = ydZ y m d := by
  have hi := valid_in h
  unfold numD ydZ
  rw [if_pos h, if_pos h, if_pos (valid_first hi.1 hi.2.1)]
  unfold numZ
  rw [cum_1]
  omega
set_option maxHeartbeats 1000000 in
theorem yearday_any (y m d : Int) (w : World) (hw : CTab w) :
    Calls Tryd.prog 15 #[.int .i64 y, .int .i64 m, .int .i64 d] w fun e w' => e = .returned (.tuple #[.int .i64 (ydZ y m d), .bool (validB y m d)]) ∧ w' = w := by
  have b1 := numD_bd y m d
  have b2 := numD_bd y 1 1
  cases h : validB y m d
  · have e : ydZ y m d = 0 := by unfold ydZ; rw [h]; rfl
    rw [e]
    go_enter Tryd.func15, Tryd.ntmps15
    go_wp2_with (go_at_call 14; refine (number_any _ _ _ _ hw).mono ?_; rintro e w' ⟨rfl, rfl⟩)
    go_ret2
    exact ⟨rfl, rfl⟩
  · have HE := hide (yd_num h)
    go_enter Tryd.func15, Tryd.ntmps15
    go_wp2_with (go_at_call 14; refine (number_any _ _ _ _ hw).mono ?_; rintro e w' ⟨rfl, rfl⟩)
    go_ret2
    exact ⟨ret2 (by rw [← unhide HE]) rfl, rfl⟩

/-- The Thursday of a day's week. -/
def thZ (n : Int) : Int := n - wdZ n + 3
def weekOk (n : Int) : Bool := withinB n && withinB (thZ n)
def weekY (n : Int) : Int := if weekOk n = true then dayY (thZ n) else 0
def weekW (n : Int) : Int := if weekOk n = true then (ydZ (dayY (thZ n)) (dayM (thZ n)) (dayD (thZ n)) - 1) / 7 + 1 else 0
theorem ret3 {a b a' b' : Int} {c c' : Bool} (h : a = a') (h2 : b = b') (h3 : c = c') : Ending.returned (.tuple #[.int .i64 a, .int .i64 b, .bool c]) = .returned (.tuple #[.int .i64 a', .int .i64 b', .bool c']) := by rw [h, h2, h3]
theorem wd_bd (n : Int) : 0 ≤ wdZ n ∧ wdZ n ≤ 6 := by unfold wdZ; omega
theorem within_iff (n : Int) : withinB n = true ↔ -719162 ≤ n ∧ n ≤ 2932896 := by simp [withinB]
set_option maxHeartbeats 1000000 in
theorem week_any (n : Int) (w : World) (hw : CTab w) :
    Calls Tryd.prog 22 #[.int .i64 n] w fun e w' => e = .returned (.tuple #[.int .i64 (weekY n), .int .i64 (weekW n), .bool (weekOk n)]) ∧ w' = w := by
  have hwd := wd_bd n
  cases h1 : withinB n
  · have e : weekOk n = false := by unfold weekOk; rw [h1]; rfl
    have e1 : weekY n = 0 := by unfold weekY; rw [e]; rfl
    have e2 : weekW n = 0 := by unfold weekW; rw [e]; rfl
    rw [e, e1, e2]
    go_enter Tryd.func22, Tryd.ntmps22
    go_wp2_with (go_at_call 33; refine (within_any _ _).mono ?_; rintro e w' ⟨rfl, rfl⟩)
    go_ret3
    exact ⟨rfl, rfl⟩
  · have hb := (within_iff n).1 h1
    have ht : n - wdZ n + 3 = thZ n := rfl
    have htb : -719162 - 6 ≤ thZ n ∧ thZ n ≤ 2932896 + 3 := by unfold thZ; omega
    cases h2 : withinB (thZ n)
    · have e : weekOk n = false := by unfold weekOk; rw [h1, h2]; rfl
      have e1 : weekY n = 0 := by unfold weekY; rw [e]; rfl
      have e2 : weekW n = 0 := by unfold weekW; rw [e]; rfl
      rw [e, e1, e2]
      go_enter Tryd.func22, Tryd.ntmps22
      go_wp2_with (first | (go_at_call 33; refine (within_any _ _).mono ?_; rintro e w' ⟨rfl, rfl⟩) | (go_at_call 20; refine (wd_any _ _).mono ?_; rintro e w' ⟨rfl, rfl⟩) | (go_at_call 18; refine (day_any _ _).mono ?_; rintro e w' ⟨rfl, rfl⟩))
      go_ret3
      exact ⟨rfl, rfl⟩
    · have e : weekOk n = true := by unfold weekOk; rw [h1, h2]; rfl
      have e1 : weekY n = dY (thZ n) := by unfold weekY dY; rw [if_pos e, if_pos h2]
      have e2 : weekW n = (ydZ (dY (thZ n)) (dM (thZ n)) (dD (thZ n)) - 1) / 7 + 1 := by unfold weekW dY dM dD; rw [if_pos e, if_pos h2, if_pos h2, if_pos h2]
      have hv : validB (dY (thZ n)) (dM (thZ n)) (dD (thZ n)) = true := by
        have hh := (within_iff (thZ n)).1 h2
        unfold dY dM dD
        rw [if_pos h2, if_pos h2, if_pos h2]
        exact (day_num hh.1 hh.2).1
      have hyd := ydZ_bd (dY (thZ n)) (dM (thZ n)) (dD (thZ n))
      have hy1 : 1 ≤ ydZ (dY (thZ n)) (dM (thZ n)) (dD (thZ n)) := by
        have : ¬ ydZ (dY (thZ n)) (dM (thZ n)) (dD (thZ n)) = 0 := fun h => by rw [hyd.2.2.1 h] at hv; cases hv
        omega
      rw [e, e1, e2]
      clear e1 e2
      obtain ⟨X, hX⟩ : ∃ X, ydZ (dY (thZ n)) (dM (thZ n)) (dD (thZ n)) = X := ⟨_, rfl⟩
      rw [hX] at hyd hy1 ⊢
      have hx2 : X ≤ 366 := hyd.2.1
      clear hyd
      have d1 : (X - 1).tdiv 7 = (X - 1) / 7 := Int.tdiv_eq_ediv_of_nonneg (by omega)
      go_enter Tryd.func22, Tryd.ntmps22
      go_wp2_with (first | (go_at_call 33; refine (within_any _ _).mono ?_; rintro e w' ⟨rfl, rfl⟩) | (go_at_call 20; refine (wd_any _ _).mono ?_; rintro e w' ⟨rfl, rfl⟩) | (go_at_call 18; refine (day_any _ _).mono ?_; rintro e w' ⟨rfl, rfl⟩) | (go_at_call 15; refine (yearday_any _ _ _ _ hw).mono ?_; rintro e w' ⟨rfl, rfl⟩))
      go_ret3
      exact ⟨rfl, rfl⟩
end Go.Proofs.YtjngnmpjkiafpaaDoor
