import Derived.Test.YtbmfnpgopafbkaaDv
import Derived.Test.YtbmfnpgopafbkaaDvMath
namespace Go.Proofs.Ytbmfnpgopafbkaa
open Go.RowKit Kt

set_option maxHeartbeats 1000000 in
theorem lz64_any (x : Int) (w : World) (h0 : 1 ≤ x) (h1 : x < 4294967296) :
    Calls Try.prog 39 #[.int .u64 x] w fun e w' => (∃ n : Nat, 32 ≤ n ∧ n ≤ 63 ∧ x * 2 ^ n < 18446744073709551616 ∧ e = .returned (.int .i64 (n : Int))) ∧ w' = w := by
  go_enter Try.func39, Try.ntmps39
  go_wp2_with (go_at_call 40; refine Hid.out ?_)
  refine hide ?_
  refine (len64_any x _ h0 h1).mono ?_
  rintro e w' ⟨⟨n, n0, n1, hx, rfl⟩, rfl⟩
  go_wp2_with fail
  go_ret
  refine ⟨⟨64 - n, by omega, by omega, ?_, ret_int (by omega)⟩, rfl⟩
  have hp : (0 : Int) < 2 ^ (64 - n) := Int.pow_pos (by omega)
  have h2 := Int.mul_lt_mul_of_pos_right hx hp
  rw [← Int.pow_add, show n + (64 - n) = 64 by omega] at h2
  exact h2

set_option maxRecDepth 100000 in
set_option maxHeartbeats 4000000 in
theorem div64_low (lo y : Int) (w : World) (l0 : 0 ≤ lo) (l1 : lo < 18446744073709551616) (y0 : 1 ≤ y) (y1 : y < 4294967296) :
    Calls Try.prog 34 #[.int .u64 0, .int .u64 lo, .int .u64 y] w fun e w' => e = .returned (.tuple #[.int .u64 (lo / y), .int .u64 (lo % y)]) ∧ ∃ m, w' = w.drewN m := by
  have hz : (y == 0) = false := by simp; omega
  have e1 : lo.tdiv y = lo / y := Int.tdiv_eq_ediv_of_nonneg l0
  have e2 : lo.tmod y = lo % y := Int.tmod_eq_emod_of_nonneg l0
  have b1 := Int.ediv_nonneg (a := lo) (b := y) l0 (by omega)
  have b2 := Int.ediv_le_self (a := lo) y l0
  have b3 := Int.emod_nonneg lo (b := y) (by omega)
  have b4 := Int.emod_lt_of_pos lo (b := y) (by omega)
  have e3 : IntKind.u64.wrap (lo / y) = lo / y := by simp only [IntKind.wrap_u64]; omega
  go_enter Try.func34, Try.ntmps34
  go_wp2
  go_quiet (fail)
  go_wp2
  go_ret2
  exact ⟨rfl, _, rfl⟩
set_option maxRecDepth 100000 in
set_option maxHeartbeats 4000000 in
theorem div64_high (hi lo y : Int) (w : World) (a0 : 1 ≤ hi) (a1 : hi < y) (l0 : 0 ≤ lo) (l1 : lo < 18446744073709551616) (y1 : y < 4294967296) :
    Calls Try.prog 34 #[.int .u64 hi, .int .u64 lo, .int .u64 y] w fun e w' => e = .returned (.tuple #[.int .u64 ((hi * 18446744073709551616 + lo) / y), .int .u64 ((hi * 18446744073709551616 + lo) % y)]) ∧ ∃ m, w' = w.drewN m := by
  have hz : (y == 0) = false := by simp; omega
  have hz1 : (hi == 0) = false := by simp; omega
  go_enter Try.func34, Try.ntmps34
  go_wp2_with (go_at_call 39; refine Hid.out ?_)
  refine hide ?_
  refine (lz64_any y _ (by omega) y1).mono ?_
  rintro e w' ⟨⟨s, s0, s1, hs, rfl⟩, rfl⟩
  obtain ⟨Y, v, U, L, u1, u0, q1, p1, r1, t, q0, p0, r0, z, k1, k2, k3, k4, k5, k6, k7, k8, k9, k10, k11, k12, k13, k14, k15, k16, k17, k18, k19, k20, k21, k22, k23, k24, k25, k26, k27, k28, k29, k30, k31, k32, k33, k34, k35, k36, k37, k38, k39, k40, k41, k42⟩ := div_facts hi lo y s a0 a1 l0 l1 s0 s1 hs
  have hvz : (v == 0) = false := by simp; omega
  have HQ := hide k41
  have HR := hide k42
  clear k41 k42
  have w1 : IntKind.u64.wrap (IntKind.u64.wrap (IntKind.u64.wrap (U * 4294967296) + u1) - IntKind.u64.wrap (4294967296 * p1)) = t := by simp only [IntKind.wrap_u64]; omega
  have w2 : IntKind.u64.wrap (IntKind.u64.wrap (IntKind.u64.wrap (t * 4294967296) + u0) - IntKind.u64.wrap (4294967296 * p0)) = z := by simp only [IntKind.wrap_u64]; omega
  go_wp2_with fail
  refine wp_loop_rounds 1 ?_
  rw [rounds_succ]
  go_wp2
  refine wp_loop_rounds 1 ?_
  rw [rounds_succ]
  go_wp2
  go_ret2
  rw [unhide HQ, unhide HR]
  exact ⟨rfl, 0, rfl⟩
end Go.Proofs.Ytbmfnpgopafbkaa
