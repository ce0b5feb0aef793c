import Derived.Test.YtbmfnpgopafbkaaKtMath
namespace Go.Proofs.Ytbmfnpgopafbkaa.Kt

/-- How many of a series aren't later (of clamped times). -/
def cntC (F P N : Int) : Int := if min N 4611686018427387902 < F then 0 else if P ≤ 0 then 1 else (min N 4611686018427387902 - F) / P + 1
/-- One of a series (of clamped times). -/
def nthC (F P n : Int) : Int := if n < 0 ∨ 4611686018427387903 ≤ F then 4611686018427387903 else if n = 0 then F else if P ≤ 0 ∨ (4611686018427387902 - F) / P < n then 4611686018427387903 else F + n * P
def cntZ (f p n : Int) : Int := cntC (clampZ f) (clampZ p) (clampZ n)
def nthZ (f p n : Int) : Int := nthC (clampZ f) (clampZ p) n

theorem cntC_nn (F P N : Int) : 0 ≤ cntC F P N := by
  unfold cntC
  split
  · omega
  · split
    · omega
    · have := Int.ediv_nonneg (a := min N 4611686018427387902 - F) (b := P) (by omega) (by omega)
      omega
theorem cntC_le (F P N : Int) (h : -4611686018427387903 ≤ F) : cntC F P N ≤ 9223372036854775806 := by
  unfold cntC
  split
  · omega
  · split
    · omega
    · have := Int.ediv_le_self (a := min N 4611686018427387902 - F) P (by omega)
      omega
theorem cntC_zero {F P N : Int} : cntC F P N = 0 ↔ min N 4611686018427387902 < F := by
  unfold cntC
  split
  · simp [*]
  · split
    · simp [*]
    · have := Int.ediv_nonneg (a := min N 4611686018427387902 - F) (b := P) (by omega) (by omega)
      omega
/-- The count is what lies between. -/
theorem cntC_spec {F P N k : Int} (hP : 0 < P) (h1 : F + k * P ≤ min N 4611686018427387902) (h2 : min N 4611686018427387902 < F + (k + 1) * P) (h0 : F ≤ min N 4611686018427387902) : cntC F P N = k + 1 := by
  unfold cntC
  rw [if_neg (by omega), if_neg (by omega)]
  congr 1
  apply Int.le_antisymm
  · have : min N 4611686018427387902 - F < (k + 1) * P := by omega
    have := Int.ediv_lt_of_lt_mul hP this
    omega
  · exact Int.le_ediv_of_mul_le hP (by omega)
theorem nthC_zero {F P : Int} (h : F ≤ 4611686018427387903) : nthC F P 0 = F := by
  unfold nthC
  split
  · omega
  · simp
theorem nthC_pos {F P n : Int} (hF : F < 4611686018427387903) (hn : 0 < n) (hP : 0 < P) : nthC F P n = min (F + n * P) 4611686018427387903 := by
  unfold nthC
  rw [if_neg (by omega), if_neg (by omega)]
  by_cases h : (4611686018427387902 - F) / P < n
  · rw [if_pos (.inr h)]
    have := (Int.ediv_lt_iff_lt_mul hP).1 h
    omega
  · rw [if_neg (by omega)]
    have : n ≤ (4611686018427387902 - F) / P := by omega
    have := (Int.le_ediv_iff_mul_le hP).1 this
    omega
theorem nthC_none {F P n : Int} (hn : n ≠ 0) (hP : P ≤ 0) : nthC F P n = 4611686018427387903 := by
  unfold nthC
  split
  · rfl
  · rw [if_pos (.inl hP)]
theorem nthC_never {F P n : Int} (h : 4611686018427387903 ≤ F) : nthC F P n = 4611686018427387903 := by
  unfold nthC
  rw [if_pos (.inr h)]
theorem nthC_bd (F P n : Int) (h0 : -4611686018427387903 ≤ F) : -4611686018427387903 ≤ nthC F P n ∧ nthC F P n ≤ 4611686018427387903 := by
  by_cases hn : n < 0
  · unfold nthC; rw [if_pos (.inl hn)]; omega
  by_cases hF : 4611686018427387903 ≤ F
  · rw [nthC_never hF]; omega
  by_cases hz : n = 0
  · subst hz; rw [nthC_zero (by omega)]; omega
  by_cases hP : P ≤ 0
  · rw [nthC_none hz hP]; omega
  · rw [nthC_pos (by omega) (by omega) (by omega)]
    have := Int.mul_nonneg (a := n) (b := P) (by omega) (by omega)
    omega
end Go.Proofs.Ytbmfnpgopafbkaa.Kt
