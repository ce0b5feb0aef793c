import Derived.Test.YtbmfnpgopafbkaaScMath
namespace Go.Proofs.Ytbmfnpgopafbkaa.Kt

theorem and_mask32 (x : Int) (h0 : 0 ≤ x) (h1 : x < 18446744073709551616) : bits .and .u64 x 4294967295 = x % 4294967296 := by
  obtain ⟨a, rfl⟩ := Int.eq_ofNat_of_zero_le h0
  have := bits_and_u64_nat a 4294967295 (by omega) (by omega)
  rw [show ((4294967295 : Nat) : Int) = 4294967295 from rfl] at this
  rw [this, show (4294967295 : Nat) = 2 ^ 32 - 1 from rfl, Nat.and_two_pow_sub_one_eq_mod]
  simp
theorem or_low (a b : Int) (s : Nat) (a0 : 0 ≤ a) (b0 : 0 ≤ b) (hb : b < 2 ^ s) (ha : a * 2 ^ s < 18446744073709551616) (hs : s ≤ 64) : bits .or .u64 (a * 2 ^ s) b = a * 2 ^ s + b := by
  obtain ⟨x, rfl⟩ := Int.eq_ofNat_of_zero_le a0
  obtain ⟨y, rfl⟩ := Int.eq_ofNat_of_zero_le b0
  have e : ((x : Int) * 2 ^ s) = ((x * 2 ^ s : Nat) : Int) := by simp
  have hy : y < 2 ^ s := by
    have h : (y : Int) < ((2 ^ s : Nat) : Int) := by simpa using hb
    exact_mod_cast h
  have h64 : (2 : Nat) ^ s ≤ 18446744073709551616 := by
    have := Nat.pow_le_pow_right (n := 2) (by omega) hs
    exact this
  rw [e] at ha ⊢
  rw [bits_or_u64_nat _ _ (by omega) (by omega), nat_join s _ _ (Nat.mul_mod_left _ _) hy]
  simp

/-- What Div64 comes to, where the divisor has half a word: each step's number. -/
theorem div_facts (hi lo y : Int) (s : Nat) (a0 : 1 ≤ hi) (a1 : hi < y) (l0 : 0 ≤ lo) (l1 : lo < 18446744073709551616) (s0 : 32 ≤ s) (s1 : s ≤ 63) (hs : y * 2 ^ s < 18446744073709551616) :
    ∃ Y v U L u1 u0 q1 p1 r1 t q0 p0 r0 z : Int, y * 2 ^ s = Y ∧ IntKind.u64.wrap Y = Y ∧ Y / 4294967296 = v ∧ 0 < v ∧ v < 4294967296 ∧ bits .and .u64 Y 4294967295 = 0 ∧
      bits .or .u64 (IntKind.u64.wrap (hi * 2 ^ s)) (lo / 2 ^ (64 - s)) = U ∧ 0 ≤ U ∧ U < 18446744073709551616 ∧ IntKind.u64.wrap (lo * 2 ^ s) = L ∧ L / 4294967296 = u1 ∧ 0 ≤ u1 ∧ u1 < 4294967296 ∧ bits .and .u64 L 4294967295 = u0 ∧ 0 ≤ u0 ∧ u0 < 4294967296 ∧
      U.tdiv v = q1 ∧ 0 ≤ q1 ∧ q1 < 4294967296 ∧ q1 * v = p1 ∧ U - p1 = r1 ∧ 0 ≤ p1 ∧ p1 ≤ U ∧ 0 ≤ r1 ∧ r1 < v ∧
      q1 * Y = 4294967296 * p1 ∧ r1 * 4294967296 + u1 = t ∧ t < 18446744073709551616 ∧ t.tdiv v = q0 ∧ 0 ≤ q0 ∧ q0 < 4294967296 ∧ q0 * v = p0 ∧ t - p0 = r0 ∧ 0 ≤ p0 ∧ p0 ≤ t ∧ 0 ≤ r0 ∧ r0 < v ∧ q0 * Y = 4294967296 * p0 ∧
      r0 * 4294967296 + u0 = z ∧ z < 18446744073709551616 ∧ (hi * 18446744073709551616 + lo) / y = q1 * 4294967296 + q0 ∧ (hi * 18446744073709551616 + lo) % y = z / 2 ^ s := by
  have hp : (0 : Int) < 2 ^ s := Int.pow_pos (by omega)
  have hq : (0 : Int) < 2 ^ (64 - s) := Int.pow_pos (by omega)
  have hD : (2 : Int) ^ s * 2 ^ (64 - s) = 18446744073709551616 := by rw [← Int.pow_add, show s + (64 - s) = 64 by omega]; rfl
  have hs32 : (2 : Int) ^ s = 2 ^ (s - 32) * 4294967296 := by
    have h := Int.pow_add 2 (s - 32) 32
    rw [show s - 32 + 32 = s by omega] at h
    exact h
  have hv0 : 0 < y * 2 ^ (s - 32) := Int.mul_pos (by omega) (Int.pow_pos (by omega))
  have hYv : y * 2 ^ s = y * 2 ^ (s - 32) * 4294967296 := by rw [hs32, Int.mul_assoc]
  have hB0 : 0 ≤ lo / 2 ^ (64 - s) := Int.ediv_nonneg l0 (Int.le_of_lt hq)
  have hB1 : lo / 2 ^ (64 - s) < 2 ^ s := Int.ediv_lt_of_lt_mul hq (by rw [hD]; exact l1)
  have hA : (hi + 1) * 2 ^ s ≤ y * 2 ^ s := Int.mul_le_mul_of_nonneg_right (by omega) (Int.le_of_lt hp)
  rw [Int.add_mul, Int.one_mul] at hA
  have hA0 : 0 ≤ hi * 2 ^ s := Int.mul_nonneg (by omega) (Int.le_of_lt hp)
  have hwA : IntKind.u64.wrap (hi * 2 ^ s) = hi * 2 ^ s := by simp only [IntKind.wrap_u64]; omega
  have hU := or_low hi (lo / 2 ^ (64 - s)) s (by omega) hB0 hB1 (by omega) (by omega)
  have hLo : lo * 2 ^ s = lo / 2 ^ (64 - s) * 18446744073709551616 + lo * 2 ^ s % 18446744073709551616 := by
    have h1 : lo * 2 ^ s / 18446744073709551616 = lo / 2 ^ (64 - s) := by
      rw [← hD, Int.mul_comm lo, Int.mul_ediv_mul_of_pos _ _ hp]
    have := Int.mul_ediv_add_emod (lo * 2 ^ s) 18446744073709551616
    rw [h1] at this
    omega
  obtain ⟨v, hv⟩ : ∃ v, y * 2 ^ (s - 32) = v := ⟨_, rfl⟩
  obtain ⟨U, hUd⟩ : ∃ U, hi * 2 ^ s + lo / 2 ^ (64 - s) = U := ⟨_, rfl⟩
  obtain ⟨L, hL⟩ : ∃ L, lo * 2 ^ s % 18446744073709551616 = L := ⟨_, rfl⟩
  rw [hv] at hv0 hYv
  have L0 : 0 ≤ L := by omega
  have L1 : L < 18446744073709551616 := by omega
  have hUv : U < v * 4294967296 := by omega
  have q1a := Int.mul_ediv_add_emod U v
  have q1b := Int.emod_nonneg U (b := v) (by omega)
  have q1c := Int.emod_lt_of_pos U hv0
  have q1d : U / v < 4294967296 := Int.ediv_lt_of_lt_mul hv0 (by rw [Int.mul_comm]; exact hUv)
  have q1e := Int.ediv_nonneg (a := U) (b := v) (by omega) (by omega)
  have q1f := Int.mul_nonneg (a := U / v) (b := v) q1e (by omega)
  rw [Int.mul_comm] at q1a
  obtain ⟨t, ht⟩ : ∃ t, U % v * 4294967296 + L / 4294967296 = t := ⟨_, rfl⟩
  have htv : t < v * 4294967296 := by omega
  have q0a := Int.mul_ediv_add_emod t v
  have q0b := Int.emod_nonneg t (b := v) (by omega)
  have q0c := Int.emod_lt_of_pos t hv0
  have q0d : t / v < 4294967296 := Int.ediv_lt_of_lt_mul hv0 (by rw [Int.mul_comm]; exact htv)
  have q0e := Int.ediv_nonneg (a := t) (b := v) (by omega) (by omega)
  have q0f := Int.mul_nonneg (a := t / v) (b := v) q0e (by omega)
  rw [Int.mul_comm] at q0a
  have hN : (hi * 18446744073709551616 + lo) * 2 ^ s = (U / v * 4294967296 + t / v) * (y * 2 ^ s) + (t % v * 4294967296 + L % 4294967296) := by
    have e1 : (hi * 18446744073709551616 + lo) * 2 ^ s = hi * 2 ^ s * 18446744073709551616 + lo * 2 ^ s := by rw [Int.add_mul, Int.mul_right_comm]
    have e2 : (U / v * 4294967296 + t / v) * (y * 2 ^ s) = U / v * v * 18446744073709551616 + t / v * v * 4294967296 := by
      rw [hYv, Int.add_mul, ← Int.mul_assoc (t / v), ← Int.mul_assoc (U / v * 4294967296), Int.mul_right_comm (U / v) 4294967296 v]; omega
    rw [e1, e2, hLo, hL]; omega
  have hz0 : 0 ≤ t % v * 4294967296 + L % 4294967296 := by omega
  have hzY : t % v * 4294967296 + L % 4294967296 < y * 2 ^ s := by omega
  obtain ⟨Z, hZ⟩ : ∃ Z, t % v * 4294967296 + L % 4294967296 = Z := ⟨_, rfl⟩
  obtain ⟨Q, hQ⟩ : ∃ Q, U / v * 4294967296 + t / v = Q := ⟨_, rfl⟩
  obtain ⟨M, hM⟩ : ∃ M, hi * 18446744073709551616 + lo = M := ⟨_, rfl⟩
  rw [hZ, hQ, hM] at hN
  rw [hZ] at hz0 hzY
  have hZm : Z = (M - Q * y) * 2 ^ s := by rw [Int.sub_mul, hN, Int.mul_assoc]; omega
  have hR : Z / 2 ^ s = M - Q * y := by rw [hZm]; exact Int.mul_ediv_cancel _ (by omega)
  have hR0 : 0 ≤ M - Q * y := by rw [← hR]; exact Int.ediv_nonneg hz0 (by omega)
  have hR1 : M - Q * y < y := by rw [← hR]; exact Int.ediv_lt_of_lt_mul hp hzY
  have hdiv : M / y = Q := by
    have h1 : M = Q * y + (M - Q * y) := by omega
    rw [h1, Int.add_comm, Int.add_mul_ediv_right _ _ (by omega), Int.ediv_eq_zero_of_lt hR0 hR1]; omega
  have hmod : M % y = M - Q * y := by
    have := Int.mul_ediv_add_emod M y
    rw [hdiv, Int.mul_comm] at this; omega
  refine ⟨y * 2 ^ s, v, U, L, L / 4294967296, L % 4294967296, U / v, U / v * v, U % v, t, t / v, t / v * v, t % v, Z, rfl, ?_, by omega, hv0, by omega, ?_, ?_, by omega, by omega, ?_, rfl, by omega, by omega, ?_, by omega, by omega,
    ?_, q1e, q1d, rfl, by omega, q1f, by omega, q1b, q1c, ?_, ht, by omega, ?_, q0e, q0d, rfl, by omega, q0f, by omega, q0b, q0c, ?_, hZ, by omega, by rw [hM, hdiv, hQ], by rw [hM, hmod, hR]⟩
  · simp only [IntKind.wrap_u64]; omega
  · rw [and_mask32 _ (by omega) hs]; omega
  · rw [hwA, hU, hUd]
  · rw [IntKind.wrap_u64]; exact hL
  · exact and_mask32 L L0 L1
  · exact Int.tdiv_eq_ediv_of_nonneg (by omega)
  · rw [hYv, ← Int.mul_assoc]; omega
  · exact Int.tdiv_eq_ediv_of_nonneg (by omega)
  · rw [hYv, ← Int.mul_assoc]; omega
end Go.Proofs.Ytbmfnpgopafbkaa.Kt
