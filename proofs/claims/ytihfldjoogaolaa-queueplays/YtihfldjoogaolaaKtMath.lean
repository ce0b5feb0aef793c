/- The plain numbers behind ktime: what each call comes to, over Int. No program in sight. -/
namespace Go.Proofs.Ytihfldjoogaolaa.Kt

/-- The time that a number counts as. -/
def clampZ (t : Int) : Int := if 4611686018427387903 < t then 4611686018427387903 else if t < -4611686018427387903 then -4611686018427387903 else t
/-- A sum. -/
def addZ (a b : Int) : Int := if 4611686018427387903 ≤ a then 4611686018427387903 else clampZ (clampZ a + clampZ b)
/-- A difference. -/
def subZ (a b : Int) : Int := if 4611686018427387903 ≤ a then 4611686018427387903 else clampZ (clampZ a - clampZ b)
/-- A product. -/
def mulZ (a n : Int) : Int := clampZ (clampZ a * n)
/-- What never comes. -/
def neverB (a : Int) : Bool := decide (4611686018427387903 ≤ a)
/-- How long it is. -/
def untilZ (now t : Int) : Int := if subZ t now < 0 then 0 else subZ t now
/-- Kept within two. -/
def betweenZ (low t high : Int) : Int := min (max (clampZ t) (clampZ low)) (clampZ high)
/-- The least. -/
def firstZ (l : List Int) : Int := l.foldl (fun m t => min m (clampZ t)) 4611686018427387903

theorem clampZ_bd (t : Int) : -4611686018427387903 ≤ clampZ t ∧ clampZ t ≤ 4611686018427387903 := by
  unfold clampZ; split <;> (try split) <;> omega
theorem clampZ_id {t : Int} (h : -4611686018427387903 ≤ t) (h' : t ≤ 4611686018427387903) : clampZ t = t := by
  unfold clampZ; split <;> (try split) <;> omega
theorem addZ_bd (a b : Int) : -4611686018427387903 ≤ addZ a b ∧ addZ a b ≤ 4611686018427387903 := by
  unfold addZ; split
  · omega
  · exact clampZ_bd _
theorem subZ_bd (a b : Int) : -4611686018427387903 ≤ subZ a b ∧ subZ a b ≤ 4611686018427387903 := by
  unfold subZ; split
  · omega
  · exact clampZ_bd _
theorem mulZ_bd (a b : Int) : -4611686018427387903 ≤ mulZ a b ∧ mulZ a b ≤ 4611686018427387903 := clampZ_bd _
theorem addZ_neg (a b : Int) : addZ a (-(clampZ b)) = subZ a b := by
  have := clampZ_bd b
  unfold addZ subZ
  rw [clampZ_id (t := -(clampZ b)) (by omega) (by omega)]
  rfl
theorem clampZ_mono {a b : Int} (h : a ≤ b) : clampZ a ≤ clampZ b := by
  unfold clampZ
  repeat' split
  all_goals omega
theorem addZ_mono {a b : Int} (c : Int) (h : a ≤ b) : addZ a c ≤ addZ b c := by
  have h1 := clampZ_mono h
  by_cases hb : 4611686018427387903 ≤ b
  · have : addZ b c = 4611686018427387903 := by unfold addZ; rw [if_pos hb]
    have := addZ_bd a c; omega
  · unfold addZ
    rw [if_neg hb, if_neg (by omega)]
    exact clampZ_mono (by omega)
theorem subZ_mono {a b : Int} (c : Int) (h : a ≤ b) : subZ a c ≤ subZ b c := by
  have h1 := clampZ_mono h
  by_cases hb : 4611686018427387903 ≤ b
  · have : subZ b c = 4611686018427387903 := by unfold subZ; rw [if_pos hb]
    have := subZ_bd a c; omega
  · unfold subZ
    rw [if_neg hb, if_neg (by omega)]
    exact clampZ_mono (by omega)
theorem addZ_comm {a b : Int} (ha : ¬ 4611686018427387903 ≤ a) (hb : ¬ 4611686018427387903 ≤ b) : addZ a b = addZ b a := by
  unfold addZ
  rw [if_neg ha, if_neg hb, Int.add_comm]
theorem addZ_zero (a : Int) : addZ a 0 = clampZ a := by
  unfold addZ clampZ
  repeat' split
  all_goals omega
theorem subZ_zero (a : Int) : subZ a 0 = clampZ a := by
  unfold subZ clampZ
  repeat' split
  all_goals omega
theorem clampZ_idem (a : Int) : clampZ (clampZ a) = clampZ a := by
  have := clampZ_bd a
  exact clampZ_id this.1 this.2
theorem mulZ_one (a : Int) : mulZ a 1 = clampZ a := by
  unfold mulZ; rw [Int.mul_one]; exact clampZ_idem a
theorem mulZ_zero (a : Int) : mulZ a 0 = 0 := by
  unfold mulZ; rw [Int.mul_zero]; rfl
/-- The product as Go reckons it: of the sizes, stopped, and signed. -/
theorem clampZ_neg (x : Int) : clampZ (-x) = -(clampZ x) := by
  unfold clampZ
  repeat' split
  all_goals omega
theorem clampZ_natAbs (x : Int) (m : Nat) (hx : x.natAbs = m) : clampZ x = if x < 0 then -(if 4611686018427387903 < (m : Int) then 4611686018427387903 else (m : Int)) else (if 4611686018427387903 < (m : Int) then 4611686018427387903 else (m : Int)) := by
  unfold clampZ
  repeat' split
  all_goals omega
theorem mulZ_signed (a n : Int) (m : Nat) (hm : (clampZ a).natAbs * n.natAbs = m) :
    mulZ a n = if (clampZ a < 0 ∧ ¬ n < 0) ∨ (¬ clampZ a < 0 ∧ n < 0) then -(if 4611686018427387903 < (m : Int) then 4611686018427387903 else (m : Int)) else (if 4611686018427387903 < (m : Int) then 4611686018427387903 else (m : Int)) := by
  unfold mulZ
  generalize clampZ a = c at *
  have hx : (c * n).natAbs = m := by rw [Int.natAbs_mul]; exact hm
  rw [clampZ_natAbs (c * n) m hx]
  by_cases h1 : c < 0 <;> by_cases h2 : n < 0
  · have : 0 < c * n := Int.mul_pos_of_neg_of_neg h1 h2
    rw [if_neg (c := c * n < 0) (by omega), if_neg (c := _ ∨ _) (by omega)]
  · have : c * n ≤ 0 := Int.mul_nonpos_of_nonpos_of_nonneg (by omega) (by omega)
    rw [if_pos (c := _ ∨ _) (by omega)]
    split
    · rfl
    · have : m = 0 := by omega
      subst this; rfl
  · have : c * n ≤ 0 := Int.mul_nonpos_of_nonneg_of_nonpos (by omega) (by omega)
    rw [if_pos (c := _ ∨ _) (by omega)]
    split
    · rfl
    · have : m = 0 := by omega
      subst this; rfl
  · have : 0 ≤ c * n := Int.mul_nonneg (by omega) (by omega)
    rw [if_neg (c := c * n < 0) (by omega), if_neg (c := _ ∨ _) (by omega)]
end Go.Proofs.Ytihfldjoogaolaa.Kt
