/- Plain mathematics of days: long years, days of months, numbers of days, and back. No program in sight. -/
import Init
namespace Go.Proofs.YtjngnmpjkiafpaaDoor.Cv

/-- A year has a day more. -/
def longB (y : Int) : Bool := (y.tmod 4 == 0 && !(y.tmod 100 == 0)) || y.tmod 400 == 0
def mdTab : List Int := [31, 28, 31, 30, 31, 30, 31, 31, 30, 31, 30, 31]
def mdZ (m : Int) : Int := mdTab.getD (m - 1).toNat 0
/-- How many days a month has. -/
def daysZ (y m : Int) : Int :=
  if y < 1 ∨ 9999 < y ∨ m < 1 ∨ 12 < m then 0 else if m = 2 ∧ longB y = true then 29 else mdZ m
def lY (y : Int) : Int := if longB y = true then 1 else 0
/-- How many days of a year are ahead of a month. -/
def cumZ (y m : Int) : Int :=
  if m ≤ 1 then 0 else if m = 2 then 31 else lY y +
    (if m = 3 then 59 else if m = 4 then 90 else if m = 5 then 120 else if m = 6 then 151 else if m = 7 then 181 else if m = 8 then 212 else if m = 9 then 243 else if m = 10 then 273 else if m = 11 then 304 else if m = 12 then 334 else 365)
/-- The number of a year's first day. -/
def firstZ (y : Int) : Int := 365 * (y - 1970) + ((y - 1) / 4 - (y - 1) / 100 + (y - 1) / 400) - 477
def validB (y m d : Int) : Bool := decide (1 ≤ d) && decide (d ≤ daysZ y m)
/-- A day's number. -/
def numZ (y m d : Int) : Int := firstZ y + cumZ y m + d - 1

theorem tmod_zero (y k : Int) : (y.tmod k = 0) ↔ y % k = 0 := by
  rw [← Int.dvd_iff_emod_eq_zero, ← Int.dvd_iff_tmod_eq_zero]
theorem longB_iff (y : Int) : longB y = true ↔ (y % 4 = 0 ∧ ¬ y % 100 = 0) ∨ y % 400 = 0 := by
  simp only [longB, Bool.or_eq_true, Bool.and_eq_true, Bool.not_eq_true', beq_iff_eq, beq_eq_false_iff_ne, ne_eq, tmod_zero]
theorem lY_bd (y : Int) : 0 ≤ lY y ∧ lY y ≤ 1 := by unfold lY; split <;> omega
theorem first_step (y : Int) : firstZ (y + 1) = firstZ y + 365 + lY y := by
  unfold firstZ lY
  split
  · rename_i h
    rw [longB_iff] at h
    omega
  · rename_i h
    rw [longB_iff] at h
    omega
theorem first_1970 : firstZ 1970 = 0 := by decide
theorem first_mono (y : Int) (k : Nat) : firstZ y + 365 * k ≤ firstZ (y + k) := by
  induction k with
  | zero => simp
  | succ k ih =>
    have := first_step (y + k)
    have := lY_bd (y + k)
    rw [show y + ((k + 1 : Nat) : Int) = y + k + 1 by omega]
    omega
theorem first_lt {y z : Int} (h : y < z) : firstZ y + 365 + lY y ≤ firstZ z := by
  obtain ⟨k, hk⟩ : ∃ k : Nat, z = y + 1 + k := ⟨(z - y - 1).toNat, by omega⟩
  have := first_mono (y + 1) k
  have := first_step y
  rw [← hk] at *
  omega

theorem month_cases {m : Int} (h : 1 ≤ m) (h' : m ≤ 12) : m = 1 ∨ m = 2 ∨ m = 3 ∨ m = 4 ∨ m = 5 ∨ m = 6 ∨ m = 7 ∨ m = 8 ∨ m = 9 ∨ m = 10 ∨ m = 11 ∨ m = 12 := by omega
theorem mdZ_bd (m : Int) (h : 1 ≤ m) (h' : m ≤ 12) : 28 ≤ mdZ m ∧ mdZ m ≤ 31 := by
  rcases month_cases h h' with rfl | rfl | rfl | rfl | rfl | rfl | rfl | rfl | rfl | rfl | rfl | rfl <;> decide
theorem daysZ_in {y m : Int} (h1 : 1 ≤ y) (h2 : y ≤ 9999) (h3 : 1 ≤ m) (h4 : m ≤ 12) : daysZ y m = cumZ y (m + 1) - cumZ y m := by
  have key : daysZ y m = if m = 2 ∧ longB y = true then 29 else mdZ m := by
    unfold daysZ; rw [if_neg (by omega)]
  rw [key]
  rcases month_cases h3 h4 with rfl | rfl | rfl | rfl | rfl | rfl | rfl | rfl | rfl | rfl | rfl | rfl
  all_goals simp only [mdZ, mdTab, cumZ, lY]
  all_goals cases longB y <;> simp <;> rfl
theorem daysZ_pos {y m : Int} (h : 1 ≤ daysZ y m) : 1 ≤ y ∧ y ≤ 9999 ∧ 1 ≤ m ∧ m ≤ 12 := by
  unfold daysZ at h
  split at h <;> omega
theorem daysZ_bd (y m : Int) : 0 ≤ daysZ y m ∧ daysZ y m ≤ 31 := by
  unfold daysZ
  split
  · omega
  · split
    · omega
    · have := mdZ_bd m (by omega) (by omega); omega
theorem valid_iff (y m d : Int) : validB y m d = true ↔ 1 ≤ d ∧ d ≤ daysZ y m := by simp [validB]
theorem valid_in {y m d : Int} (h : validB y m d = true) : 1 ≤ y ∧ y ≤ 9999 ∧ 1 ≤ m ∧ m ≤ 12 ∧ 1 ≤ d ∧ d ≤ 31 := by
  rw [valid_iff] at h
  have := daysZ_bd y m
  have := daysZ_pos (y := y) (m := m) (by omega)
  omega
/-- Months' days, one behind the other. -/
theorem cum_mono (y : Int) {m k : Int} (h1 : 1 ≤ m) (h : m < k) (h2 : k ≤ 13) : cumZ y (m + 1) ≤ cumZ y k := by
  have := lY_bd y
  unfold cumZ
  repeat' split
  all_goals omega
theorem cum_13 (y : Int) : cumZ y 13 = 365 + lY y := by
  unfold cumZ
  repeat' split
  all_goals omega
theorem cum_1 (y : Int) : cumZ y 1 = 0 := rfl
theorem cum_bd (y m : Int) : 0 ≤ cumZ y m ∧ cumZ y m ≤ 366 := by
  have := lY_bd y
  unfold cumZ
  repeat' split
  all_goals omega
/-- A valid day's place in its year. -/
theorem valid_place {y m d : Int} (h : validB y m d = true) : 1 ≤ cumZ y m + d ∧ cumZ y m + d ≤ cumZ y (m + 1) ∧ cumZ y (m + 1) ≤ 365 + lY y := by
  have hi := valid_in h
  rw [valid_iff, daysZ_in hi.1 hi.2.1 hi.2.2.1 hi.2.2.2.1] at h
  have h0 := cum_bd y m
  by_cases hm : m = 12
  · subst hm
    rw [show (12 : Int) + 1 = 13 from rfl, cum_13] at *
    omega
  · have := cum_mono y (m := m) (k := 13) (by omega) (by omega) (by omega)
    rw [cum_13] at this
    omega
theorem num_in {y m d : Int} (h : validB y m d = true) : firstZ y ≤ numZ y m d ∧ numZ y m d < firstZ (y + 1) := by
  have := valid_place h
  have := first_step y
  unfold numZ; omega
theorem first_one : firstZ 1 = -719162 := by decide
theorem first_end : firstZ 10000 = 2932897 := by decide
theorem num_bd {y m d : Int} (h : validB y m d = true) : -719162 ≤ numZ y m d ∧ numZ y m d ≤ 2932896 := by
  have hi := valid_in h
  have h1 := num_in h
  have a : firstZ 1 ≤ firstZ y := by
    by_cases e : y = 1
    · rw [e]; exact Int.le_refl _
    · have := first_lt (y := 1) (z := y) (by omega)
      have := lY_bd 1
      omega
  have b : firstZ (y + 1) ≤ firstZ 10000 := by
    by_cases e : y = 9999
    · rw [e]; exact Int.le_refl _
    · have := first_lt (y := y + 1) (z := 10000) (by omega)
      have := lY_bd (y + 1)
      omega
  rw [first_one] at a
  rw [first_end] at b
  omega
/-- A number has one day. -/
theorem num_inj {y m d y' m' d' : Int} (h : validB y m d = true) (h' : validB y' m' d' = true) (e : numZ y m d = numZ y' m' d') : y = y' ∧ m = m' ∧ d = d' := by
  have a := num_in h
  have a' := num_in h'
  have s := first_step y
  have s' := first_step y'
  have ey : y = y' := by
    rcases Int.lt_trichotomy y y' with l | l | l
    · have := first_lt l; omega
    · exact l
    · have := first_lt l; omega
  subst ey
  have p := valid_place h
  have p' := valid_place h'
  have hi := valid_in h
  have hi' := valid_in h'
  have em : m = m' := by
    unfold numZ at e
    rcases Int.lt_trichotomy m m' with l | l | l
    · have := cum_mono y (m := m) (k := m') (by omega) l (by omega); omega
    · exact l
    · have := cum_mono y (m := m') (k := m) (by omega) l (by omega); omega
  subst em
  unfold numZ at e
  exact ⟨rfl, rfl, by omega⟩

/-- How the program reckons: in eras, from March on. -/
def ysZ (y : Int) : Int := y * 365 + y / 4 - y / 100
def msZ (m : Int) : Int := (m * 153 + 2) / 5
def eraNum (y m d : Int) : Int := -719468 + y / 400 * 146097 + ysZ (y % 400) + msZ (m - 3) + d - 1
theorem era_num {y m d : Int} (h3 : 1 ≤ m) (h4 : m ≤ 12) :
    (if m < 3 then eraNum (y - 1) (m + 12) d else eraNum y m d) = numZ y m d := by
  unfold eraNum numZ firstZ ysZ msZ
  rcases month_cases h3 h4 with rfl | rfl | rfl | rfl | rfl | rfl | rfl | rfl | rfl | rfl | rfl | rfl
  · simp only [cumZ, lY]; simp; omega
  · simp only [cumZ, lY]; simp; omega
  all_goals
    simp only [cumZ, lY]
    simp
    split
    · rename_i h; rw [longB_iff] at h; omega
    · rename_i h; rw [longB_iff] at h; omega

/-- Of the days of an era: the year. -/
def eyZ (r : Int) : Int := let a := min (r / 365) 399; if r < ysZ a then a - 1 else a
theorem ey_in {r : Int} (h0 : 0 ≤ r) (h1 : r ≤ 146096) : 0 ≤ eyZ r ∧ eyZ r ≤ 399 ∧ ysZ (eyZ r) ≤ r ∧ (r < ysZ (eyZ r + 1) ∨ eyZ r = 399 ∧ r ≤ 146096) := by
  unfold eyZ
  simp only
  have hm : min (r / 365) 399 = r / 365 ∨ min (r / 365) 399 = 399 := by omega
  have hb : min (r / 365) 399 ≤ 399 ∧ 0 ≤ min (r / 365) 399 ∧ min (r / 365) 399 ≤ r / 365 := by omega
  generalize min (r / 365) 399 = a at *
  split
  · rw [show a - 1 + 1 = a by omega]
    unfold ysZ at *
    omega
  · unfold ysZ at *
    omega
/-- Of the days of a year from March on. -/
theorem ey_rest {r : Int} (h0 : 0 ≤ r) (h1 : r ≤ 146096) : 0 ≤ r - ysZ (eyZ r) ∧ r - ysZ (eyZ r) ≤ 364 + (if (eyZ r + 1) % 4 = 0 ∧ ¬ (eyZ r + 1) % 100 = 0 ∨ eyZ r = 399 then 1 else 0) := by
  obtain ⟨a, b, c, d⟩ := ey_in h0 h1
  generalize eyZ r = e at *
  refine ⟨by omega, ?_⟩
  unfold ysZ at *
  split
  · omega
  · rename_i h
    by_cases c1 : (e + 1) % 4 = 0
    · omega
    · have c2 : ¬ (e + 1) % 100 = 0 := by omega
      have c3 : (e + 1) / 100 = e / 100 := by omega
      have c4 : (e + 1) / 4 = e / 4 := by omega
      omega
theorem month_of {t : Int} (h0 : 0 ≤ t) (h1 : t ≤ 365) : 0 ≤ (t * 5 + 2) / 153 ∧ (t * 5 + 2) / 153 ≤ 11 ∧ msZ ((t * 5 + 2) / 153) ≤ t ∧ t < msZ ((t * 5 + 2) / 153 + 1) := by
  unfold msZ; omega
def dYZ (n : Int) : Int := eyZ ((n + 719468) % 146097) + (n + 719468) / 146097 * 400
def dTZ (n : Int) : Int := (n + 719468) % 146097 - ysZ (eyZ ((n + 719468) % 146097))
def dPZ (n : Int) : Int := (dTZ n * 5 + 2) / 153
def dayY (n : Int) : Int := if 10 ≤ dPZ n then dYZ n + 1 else dYZ n
def dayM (n : Int) : Int := if 10 ≤ dPZ n then dPZ n - 9 else dPZ n + 3
def dayD (n : Int) : Int := dTZ n - msZ (dPZ n) + 1
theorem day_num {n : Int} (h0 : -719162 ≤ n) (h1 : n ≤ 2932896) : validB (dayY n) (dayM n) (dayD n) = true ∧ numZ (dayY n) (dayM n) (dayD n) = n := by
  have hr0 : 0 ≤ (n + 719468) % 146097 := by omega
  have hr1 : (n + 719468) % 146097 ≤ 146096 := by omega
  have hN := Int.mul_ediv_add_emod (n + 719468) 146097
  obtain ⟨t0, t1⟩ := ey_rest hr0 hr1
  obtain ⟨a0, a1, -, -⟩ := ey_in hr0 hr1
  have ht : dTZ n = (n + 719468) % 146097 - ysZ (eyZ ((n + 719468) % 146097)) := rfl
  have hy : dYZ n = eyZ ((n + 719468) % 146097) + (n + 719468) / 146097 * 400 := rfl
  rw [← ht] at t0 t1
  have hE0 : 0 ≤ (n + 719468) / 146097 := by omega
  have hE1 : (n + 719468) / 146097 ≤ 24 := by omega
  generalize eyZ ((n + 719468) % 146097) = e at *
  generalize (n + 719468) % 146097 = r at *
  generalize (n + 719468) / 146097 = E at *
  have hp := month_of t0 (by split at t1 <;> omega)
  have hpd : dPZ n = (dTZ n * 5 + 2) / 153 := rfl
  rw [← hpd] at hp
  have hd : dayD n = dTZ n - msZ (dPZ n) + 1 := rfl
  have q1 : dYZ n / 400 = E := by omega
  have q2 : dYZ n % 400 = e := by omega
  by_cases h10 : 10 ≤ dPZ n
  · have eY : dayY n = dYZ n + 1 := by unfold dayY; rw [if_pos h10]
    have eM : dayM n = dPZ n - 9 := by unfold dayM; rw [if_pos h10]
    rw [eY, eM]
    have hnum := era_num (y := dYZ n + 1) (m := dPZ n - 9) (d := dayD n) (by omega) (by omega)
    rw [if_pos (by omega), show dYZ n + 1 - 1 = dYZ n by omega, show dPZ n - 9 + 12 = dPZ n + 3 by omega] at hnum
    refine ⟨?_, ?_⟩
    · rw [valid_iff]
      have hy0 : 1 ≤ dYZ n + 1 := by omega
      have hy1 : dYZ n + 1 ≤ 9999 := by
        by_cases c : dYZ n + 1 ≤ 9999
        · exact c
        · exfalso
          have : 9999 ≤ dYZ n := by omega
          have e1 : E = 24 := by omega
          have e2 : e = 399 := by omega
          subst e1; subst e2
          rw [show ysZ 399 = 145731 from by decide] at ht
          omega
      rw [daysZ_in hy0 hy1 (by omega) (by omega)]
      rcases (show dPZ n = 10 ∨ dPZ n = 11 by omega) with h | h
      · rw [h] at hp hd ⊢
        rw [show msZ 10 = 306 from by decide, show msZ (10 + 1) = 337 from by decide] at *
        rw [show cumZ (dYZ n + 1) (10 - 9 + 1) = 31 from rfl, show cumZ (dYZ n + 1) (10 - 9) = 0 from rfl]
        omega
      · rw [h] at hp hd ⊢
        rw [show msZ 11 = 337 from by decide, show msZ (11 + 1) = 367 from by decide] at *
        rw [show cumZ (dYZ n + 1) (11 - 9 + 1) = lY (dYZ n + 1) + 59 from rfl, show cumZ (dYZ n + 1) (11 - 9) = 31 from rfl]
        have hl : dTZ n ≤ 364 + lY (dYZ n + 1) := by
          unfold lY
          split
          · split at t1 <;> omega
          · rename_i hL
            rw [longB_iff] at hL
            split at t1 <;> omega
        omega
    · rw [← hnum]
      unfold eraNum
      rw [q1, q2, show dPZ n + 3 - 3 = dPZ n by omega]
      omega
  · have eY : dayY n = dYZ n := by unfold dayY; rw [if_neg h10]
    have eM : dayM n = dPZ n + 3 := by unfold dayM; rw [if_neg h10]
    rw [eY, eM]
    have hnum := era_num (y := dYZ n) (m := dPZ n + 3) (d := dayD n) (by omega) (by omega)
    rw [if_neg (by omega)] at hnum
    refine ⟨?_, ?_⟩
    · rw [valid_iff]
      have hy0 : 1 ≤ dYZ n := by
        by_cases c : 1 ≤ dYZ n
        · exact c
        · exfalso
          have e1 : E = 0 := by omega
          have e2 : e = 0 := by omega
          subst e1; subst e2
          rw [show ysZ 0 = 0 from by decide] at ht
          have : 306 ≤ dTZ n := by omega
          omega
      have hy1 : dYZ n ≤ 9999 := by omega
      rw [daysZ_in hy0 hy1 (by omega) (by omega)]
      rcases (show dPZ n = 0 ∨ dPZ n = 1 ∨ dPZ n = 2 ∨ dPZ n = 3 ∨ dPZ n = 4 ∨ dPZ n = 5 ∨ dPZ n = 6 ∨ dPZ n = 7 ∨ dPZ n = 8 ∨ dPZ n = 9 by omega) with h | h | h | h | h | h | h | h | h | h
      all_goals
        rw [h] at hp hd ⊢
        simp only [msZ] at hp hd
        simp only [cumZ]
        simp
        omega
    · rw [← hnum]
      unfold eraNum
      rw [q1, q2, show dPZ n + 3 - 3 = dPZ n by omega]
      omega
theorem day_of_num {y m d : Int} (h : validB y m d = true) : dayY (numZ y m d) = y ∧ dayM (numZ y m d) = m ∧ dayD (numZ y m d) = d := by
  have b := num_bd h
  obtain ⟨v, e⟩ := day_num (n := numZ y m d) b.1 b.2
  exact num_inj v h e
/-- The next day. -/
theorem day_next {n : Int} (h0 : -719162 ≤ n) (h1 : n + 1 ≤ 2932896) :
    (dayD n < daysZ (dayY n) (dayM n) ∧ dayY (n + 1) = dayY n ∧ dayM (n + 1) = dayM n ∧ dayD (n + 1) = dayD n + 1) ∨
    (¬ dayD n < daysZ (dayY n) (dayM n) ∧ dayM n < 12 ∧ dayY (n + 1) = dayY n ∧ dayM (n + 1) = dayM n + 1 ∧ dayD (n + 1) = 1) ∨
    (¬ dayD n < daysZ (dayY n) (dayM n) ∧ ¬ dayM n < 12 ∧ dayY (n + 1) = dayY n + 1 ∧ dayM (n + 1) = 1 ∧ dayD (n + 1) = 1) := by
  obtain ⟨v, e⟩ := day_num (n := n) h0 (by omega)
  obtain ⟨v', e'⟩ := day_num (n := n + 1) (by omega) h1
  generalize dayY n = y at *
  generalize dayM n = m at *
  generalize dayD n = d at *
  have hi := valid_in v
  have hd := (valid_iff y m d).1 v
  have hD := daysZ_in hi.1 hi.2.1 hi.2.2.1 hi.2.2.2.1
  by_cases c : d < daysZ y m
  · left
    refine ⟨c, ?_⟩
    have w : validB y m (d + 1) = true := by rw [valid_iff]; omega
    exact num_inj v' w (by rw [e']; unfold numZ at *; omega)
  · right
    by_cases c2 : m < 12
    · left
      refine ⟨c, c2, ?_⟩
      have hp := daysZ_in hi.1 hi.2.1 (m := m + 1) (by omega) (by omega)
      have w : validB y (m + 1) 1 = true := by
        rw [valid_iff]
        refine ⟨by omega, ?_⟩
        unfold daysZ
        rw [if_neg (by omega)]
        split
        · omega
        · have := mdZ_bd (m + 1) (by omega) (by omega); omega
      exact num_inj v' w (by rw [e']; unfold numZ at *; omega)
    · right
      refine ⟨c, c2, ?_⟩
      obtain rfl : m = 12 := by omega
      have hs := first_step y
      have h13 := cum_13 y
      rw [show (12 : Int) + 1 = 13 from rfl] at hD
      have hy : y + 1 ≤ 9999 := by
        by_cases c3 : y = 9999
        · subst c3
          have h1 : numZ 9999 12 d = n := e
          have : firstZ (9999 + 1) = 2932897 := by decide
          unfold numZ at h1
          omega
        · omega
      have w : validB (y + 1) 1 1 = true := by
        rw [valid_iff]
        refine ⟨by omega, ?_⟩
        unfold daysZ
        rw [if_neg (by omega), if_neg (by omega)]
        decide
      refine num_inj v' w ?_
      rw [e']
      unfold numZ at *
      rw [cum_1]
      omega
/-- The week day. -/
def wdZ (n : Int) : Int := (n + 3) % 7
end Go.Proofs.YtjngnmpjkiafpaaDoor.Cv
