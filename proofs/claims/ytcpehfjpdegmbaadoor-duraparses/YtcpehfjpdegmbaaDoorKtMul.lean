import Derived.Test.YtcpehfjpdegmbaaDoorKt
import Derived.Shelf.Bits.Mul64
namespace Go.Proofs.YtcpehfjpdegmbaaDoor
open Go.RowKit Kt

set_option maxHeartbeats 1000000 in
theorem mul64_any (x y : Nat) (hx : x < 18446744073709551616) (hy : y < 18446744073709551616) (w : World) :
    Calls Tryd.prog 40 #[.int .u64 x, .int .u64 y] w fun e w' => e = .returned (.tuple #[.int .u64 ((x * y / 18446744073709551616 : Nat) : Int), .int .u64 ((x * y % 18446744073709551616 : Nat) : Int)]) ∧ w' = w := by
  obtain ⟨bd, bt, bw, hhi⟩ := Lib.mul64_hi x y hx hy
  have ba := Lib.half_mul_le (a := x / 4294967296) (b := y / 4294967296) (by omega) (by omega)
  have bb := Lib.half_mul_le (a := x / 4294967296) (b := y % 4294967296) (by omega) (by omega)
  have bc := Lib.half_mul_le (a := x % 4294967296) (b := y / 4294967296) (by omega) (by omega)
  have ba' : x / 4294967296 * (y / 4294967296) < 18446744073709551616 := by omega
  have bb' : x / 4294967296 * (y % 4294967296) < 18446744073709551616 := by omega
  have bc' : x % 4294967296 * (y / 4294967296) < 18446744073709551616 := by omega
  have bh1 : x / 4294967296 * (y / 4294967296) + (x / 4294967296 * (y % 4294967296) + x % 4294967296 * (y % 4294967296) / 4294967296) / 4294967296 < 18446744073709551616 := by omega
  have bh : x / 4294967296 * (y / 4294967296) + (x / 4294967296 * (y % 4294967296) + x % 4294967296 * (y % 4294967296) / 4294967296) / 4294967296 + ((x / 4294967296 * (y % 4294967296) + x % 4294967296 * (y % 4294967296) / 4294967296) % 4294967296 + x % 4294967296 * (y / 4294967296)) / 4294967296 < 18446744073709551616 := by omega
  go_enter Tryd.func40, Tryd.ntmps40
  go_wp2
  simp only [Mul64.maskN x hx, Mul64.maskN y hy, Mul64.divN, Mul64.mulN, Mul64.addN, Mul64.wrapN _ bd, Mul64.wrapN _ bb', Mul64.wrapN _ bt, Mul64.maskN _ bt, Mul64.wrapN _ bc', Mul64.wrapN _ bw, Mul64.wrapN _ ba', Mul64.wrapN _ bh1, Mul64.wrapN _ bh, Mul64.wrapM (x * y)]
  rw [hhi]
  go_ret2
  exact ⟨rfl, rfl⟩

set_option maxHeartbeats 400000 in
theorem size_any (n : Int) (w : World) (h0 : -9223372036854775808 ≤ n) (h1 : n ≤ 9223372036854775807) :
    Calls Tryd.prog 41 #[.int .i64 n] w fun e w' => e = .returned (.int .u64 (n.natAbs : Int)) ∧ w' = w := by
  by_cases h : n < 0
  all_goals
    go_enter Tryd.func41, Tryd.ntmps41
    go_wp2
    go_ret
    refine ⟨ret_int ?_, rfl⟩
    first | (simp only [IntKind.wrap_u64]; omega) | omega

theorem mul64_m (x y m : Nat) (hx : x < 18446744073709551616) (hy : y < 18446744073709551616) (hm : x * y = m) (w : World) :
    Calls Tryd.prog 40 #[.int .u64 x, .int .u64 y] w fun e w' => e = .returned (.tuple #[.int .u64 ((m / 18446744073709551616 : Nat) : Int), .int .u64 ((m % 18446744073709551616 : Nat) : Int)]) ∧ w' = w := by
  subst hm; exact mul64_any x y hx hy w

set_option maxHeartbeats 1000000 in
theorem mul_any (a n : Int) (w : World) (h0 : -9223372036854775808 ≤ n) (h1 : n ≤ 9223372036854775807) :
    Calls Tryd.prog 34 #[.int .i64 a, .int .i64 n] w fun e w' => e = .returned (.int .i64 (mulZ a n)) ∧ w' = w := by
  have bc := clampZ_bd a
  obtain ⟨m, hm⟩ : ∃ m, (clampZ a).natAbs * n.natAbs = m := ⟨_, rfl⟩
  have hz := mulZ_signed a n m hm
  have c64 := mul64_m _ _ m (by omega) (by omega) hm
  have HZ := hide hz
  have HC := hide c64
  clear hz c64 hm
  have hhi : 0 < m / 18446744073709551616 ∨ (m / 18446744073709551616 = 0 ∧ 4611686018427387903 < m % 18446744073709551616) ∨ (m / 18446744073709551616 = 0 ∧ m % 18446744073709551616 ≤ 4611686018427387903) := by omega
  cases d1 : decide (clampZ a < 0) <;> cases d2 : decide (n < 0)
  all_goals
    have s1 := d1
    have s2 := d2
    simp only [decide_eq_true_eq, decide_eq_false_iff_not] at s1 s2
    rcases hhi with hh | ⟨hh, hl⟩ | ⟨hh, hl⟩
    all_goals
      go_enter Tryd.func34, Tryd.ntmps34
      go_wp2_with (first | (go_at_call 25; refine (kclamp_any _ _).mono ?_; rintro e w' ⟨rfl, rfl⟩) | (go_at_call 41; refine (size_any _ _ (by omega) (by omega)).mono ?_; rintro e w' ⟨rfl, rfl⟩) | (go_at_call 40; refine (unhide HC _).mono ?_; rintro e w' ⟨rfl, rfl⟩))
      go_ret
      refine ⟨ret_int ?_, rfl⟩
      rw [unhide HZ]
      repeat' split
      all_goals omega
end Go.Proofs.YtcpehfjpdegmbaaDoor
