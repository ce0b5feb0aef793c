import Derived.Test.YtbmfnpgopafbkaaKtMath
import Derived.Laws.BitsAllLaws
import Derived.Laws.Bits64b
namespace Go.Proofs.Ytbmfnpgopafbkaa.Kt

theorem nat_shift_join (m s : Nat) (hs : s ≤ 64) :
    (m / 18446744073709551616 * 2 ^ (64 - s)) % 18446744073709551616 ||| (m % 18446744073709551616 / 2 ^ s) = m / 2 ^ s % 18446744073709551616 ∧ m % 18446744073709551616 / 2 ^ s < 18446744073709551616 := by
  have hD : (18446744073709551616 : Nat) = 2 ^ s * 2 ^ (64 - s) := by rw [← Nat.pow_add, show s + (64 - s) = 64 by omega]
  have hP : 0 < 2 ^ s := Nat.two_pow_pos s
  have hQ : 0 < 2 ^ (64 - s) := Nat.two_pow_pos (64 - s)
  have hr : m % 18446744073709551616 / 2 ^ s < 2 ^ (64 - s) := by
    apply Nat.div_lt_of_lt_mul
    rw [← hD]; exact Nat.mod_lt _ (by omega)
  have h1 : (m / 18446744073709551616 * 2 ^ (64 - s)) % 18446744073709551616 = (m / 18446744073709551616 % 2 ^ s) * 2 ^ (64 - s) := by
    conv => lhs; rhs; rw [hD]
    exact Nat.mul_mod_mul_right _ _ _
  refine ⟨?_, Nat.lt_of_lt_of_le hr (by rw [hD]; exact Nat.le_mul_of_pos_left _ hP)⟩
  rw [h1, nat_join (64 - s) _ _ (Nat.mul_mod_left _ _) hr]
  generalize ha : m / 18446744073709551616 = a
  generalize hb : m % 18446744073709551616 = b at *
  have hm : m = a * 18446744073709551616 + b := by omega
  have h2 : m / 2 ^ s = a * 2 ^ (64 - s) + b / 2 ^ s := by
    rw [hm, show a * 18446744073709551616 = 2 ^ s * (a * 2 ^ (64 - s)) by rw [hD]; rw [Nat.mul_left_comm]]
    exact Nat.mul_add_div hP _ _
  rw [h2]
  generalize b / 2 ^ s = r at *
  generalize hpp : 2 ^ s = P at *
  generalize 2 ^ (64 - s) = Q at *
  have h3 : a * Q + r = (P * Q) * (a / P) + (a % P * Q + r) := by
    have : a = P * (a / P) + a % P := (Nat.div_add_mod a P).symm
    have h4 : a * Q = P * (a / P) * Q + a % P * Q := by rw [← Nat.add_mul, ← this]
    rw [h4, Nat.mul_right_comm P Q (a / P)]; omega
  have h5 : a % P * Q + r < P * Q := by
    have h6 : (a % P + 1) * Q ≤ P * Q := Nat.mul_le_mul_right Q (Nat.mod_lt a hP)
    rw [Nat.add_mul] at h6; omega
  rw [h3, hD, Nat.mul_add_mod, Nat.mod_eq_of_lt h5]

/-- The words of a product, shifted down together. -/
theorem shift_join (m S : Int) (m0 : 0 ≤ m) (S0 : 0 ≤ S) (S1 : S ≤ 64) :
    bits .or .u64 (IntKind.u64.wrap (m / 18446744073709551616 * 2 ^ (64 - S).toNat)) (m % 18446744073709551616 / 2 ^ S.toNat) = m / 2 ^ S.toNat % 18446744073709551616 := by
  obtain ⟨a, rfl⟩ := Int.eq_ofNat_of_zero_le m0
  obtain ⟨s, rfl⟩ := Int.eq_ofNat_of_zero_le S0
  have hj := nat_shift_join a s (by omega)
  rw [show ((64 : Int) - (s : Int)).toNat = 64 - s by omega, show ((s : Int)).toNat = s by omega, IntKind.wrap_u64]
  have e1 : ((a : Int) / 18446744073709551616 * 2 ^ (64 - s)) % 18446744073709551616 = (((a / 18446744073709551616 * 2 ^ (64 - s)) % 18446744073709551616 : Nat) : Int) := by simp
  have e2 : (a : Int) % 18446744073709551616 / 2 ^ s = ((a % 18446744073709551616 / 2 ^ s : Nat) : Int) := by simp
  have e3 : (a : Int) / 2 ^ s % 18446744073709551616 = ((a / 2 ^ s % 18446744073709551616 : Nat) : Int) := by simp
  rw [e1, e2, e3, bits_or_u64_nat _ _ (Nat.mod_lt _ (by omega)) hj.2, hj.1]
theorem pow_toNat_pos (S : Int) : (0 : Int) < 2 ^ S.toNat := Int.pow_pos (by omega)
theorem high_shift (m S : Int) : m / 18446744073709551616 / 2 ^ S.toNat = m / 2 ^ S.toNat / 18446744073709551616 := by
  rw [Int.ediv_ediv_of_nonneg (by omega), Int.ediv_ediv_of_nonneg (Int.le_of_lt (pow_toNat_pos S)), Int.mul_comm]
end Go.Proofs.Ytbmfnpgopafbkaa.Kt
