import Derived.Test.YtihahbmmipnclaaDoorKt
namespace Go.Proofs.YtihahbmmipnclaaDoor
open Go.RowKit Kt

/-- One doubling keeps what the sum comes to. -/
theorem clamp_step (x b q : Int) (hx : x ≤ 0) (hb : b ≤ 0) (hq : q ≤ 0) : clampZ (clampZ x - clampZ b * q) = clampZ (x - b * q) := by
  by_cases h0 : q = 0
  · subst h0; simp [clampZ_idem]
  have hbq : 0 ≤ b * q := Int.mul_nonneg_of_nonpos_of_nonpos hb hq
  have low : ∀ y : Int, y ≤ -4611686018427387903 → clampZ y = -4611686018427387903 := by
    intro y hy; unfold clampZ; split <;> (try split) <;> omega
  by_cases h1 : b < -4611686018427387903
  · have e1 : clampZ b = -4611686018427387903 := low b (by omega)
    have hc : clampZ x ≤ 0 := by unfold clampZ; split <;> (try split) <;> omega
    have h2 : b * (-1) ≤ b * q := Int.mul_le_mul_of_nonpos_left hb (by omega)
    rw [e1, low _ (by omega), low _ (by omega)]
  · have e1 : clampZ b = b := clampZ_id (by omega) (by omega)
    by_cases h2 : x < -4611686018427387903
    · rw [e1, low x (by omega), low _ (by omega), low _ (by omega)]
    · rw [e1, clampZ_id (t := x) (by omega) (by omega)]
theorem tmodN (N : Nat) : (-(N : Int)).tmod 2 = -((N % 2 : Nat) : Int) := by
  rw [Int.neg_tmod, Int.tmod_eq_emod_of_nonneg (by omega)]; omega
theorem tdivN (N : Nat) : (-(N : Int)).tdiv 2 = -((N / 2 : Nat) : Int) := by
  rw [Int.neg_tdiv, Int.tdiv_eq_ediv_of_nonneg (by omega)]; omega
theorem step_odd (s a : Int) (N : Nat) (hs : s ≤ 0) (ha : a ≤ 0) (h : N % 2 = 1) : clampZ (clampZ (s + a) - clampZ (a + a) * -((N / 2 : Nat) : Int)) = clampZ (s - a * -(N : Int)) := by
  rw [clamp_step _ _ _ (by omega) (by omega) (by omega)]
  congr 1
  have : (N : Int) = ((N / 2 : Nat) : Int) + ((N / 2 : Nat) : Int) + 1 := by omega
  rw [this]
  generalize ((N / 2 : Nat) : Int) = q
  rw [Int.mul_neg, Int.mul_neg, Int.add_mul, Int.mul_add, Int.mul_add, Int.mul_one]; omega
theorem step_even (s a : Int) (N : Nat) (hs : s ≤ 0) (hs' : -4611686018427387903 ≤ s) (ha : a ≤ 0) (h : N % 2 = 0) : clampZ (s - clampZ (a + a) * -((N / 2 : Nat) : Int)) = clampZ (s - a * -(N : Int)) := by
  have e : clampZ s = s := clampZ_id hs' (by omega)
  have := clamp_step s (a + a) (-((N / 2 : Nat) : Int)) hs (by omega) (by omega)
  rw [e] at this
  rw [this]
  congr 1
  have : (N : Int) = ((N / 2 : Nat) : Int) + ((N / 2 : Nat) : Int) := by omega
  rw [this]
  generalize ((N / 2 : Nat) : Int) = q
  rw [Int.mul_neg, Int.mul_neg, Int.add_mul, Int.mul_add]

/-- The loop's end, from below nothing: with the sign. -/
theorem mulZ_of (a n s : Int) (p : Bool) (c N : Int) (hc : c = if 0 < clampZ a then -(clampZ a) else clampZ a) (hN : N = if 0 < n then -n else n) (ha : clampZ a ≠ 0) (hn : n ≠ 0)
    (hp : p = (decide (0 < clampZ a) == decide (0 < n))) (hs : s = clampZ (0 - c * N)) : (if p = true then -s else s) = mulZ a n := by
  unfold mulZ
  generalize clampZ a = x at *
  subst hs
  by_cases h1 : 0 < x <;> by_cases h2 : 0 < n
  · rw [if_pos h1] at hc; rw [if_pos h2] at hN; subst hc hN
    have : p = true := by rw [hp]; simp [h1, h2]
    rw [if_pos this, Int.neg_mul_neg, ← clampZ_neg]; congr 1; omega
  · rw [if_pos h1] at hc; rw [if_neg h2] at hN; subst hc hN
    have : ¬ p = true := by rw [hp]; simp [h1, h2]
    rw [if_neg this, Int.neg_mul]; congr 1; omega
  · rw [if_neg h1] at hc; rw [if_pos h2] at hN; subst hc hN
    have : ¬ p = true := by rw [hp]; simp [h1, h2]
    rw [if_neg this, Int.mul_neg]; congr 1; omega
  · rw [if_neg h1] at hc; rw [if_neg h2] at hN; subst hc hN
    have : p = true := by rw [hp]; simp [h1, h2]
    rw [if_pos this, ← clampZ_neg]; congr 1; omega

set_option maxHeartbeats 1000000 in
theorem rmul_any (a n : Int) (w : World) (h0 : -9223372036854775808 ≤ n) (h1 : n ≤ 9223372036854775807) :
    Calls Tryd.prog 22 #[.int .i64 a, .int .i64 n] w fun e w' => e = .returned (.int .i64 (mulZ a n)) ∧ w' = w := by
  have bc := clampZ_bd a
  by_cases hz : clampZ a = 0
  · have hz1 : (clampZ a == 0) = true := by simp [hz]
    have HZ := hide (show mulZ a n = 0 by unfold mulZ; rw [hz, Int.zero_mul]; rfl)
    clear hz
    go_enter Tryd.func22, Tryd.ntmps22
    go_wp2_with (go_at_call 33; refine (rclamp_any _ _).mono ?_; rintro e w' ⟨rfl, rfl⟩)
    go_ret
    exact ⟨ret_int (unhide HZ).symm, rfl⟩
  by_cases hy : n = 0
  · subst hy
    have hz1 : (clampZ a == 0) = false := by simp [hz]
    have HZ := hide (mulZ_zero a)
    go_enter Tryd.func22, Tryd.ntmps22
    go_wp2_with (go_at_call 33; refine (rclamp_any _ _).mono ?_; rintro e w' ⟨rfl, rfl⟩)
    go_ret
    exact ⟨ret_int (unhide HZ).symm, rfl⟩
  have hz1 : (clampZ a == 0) = false := by simp [hz]
  have hy1 : (n == 0) = false := by simp [hy]
  obtain ⟨c, hc⟩ : ∃ c, c = (if 0 < clampZ a then -(clampZ a) else clampZ a) := ⟨_, rfl⟩
  obtain ⟨M, hM⟩ : ∃ M, M = (if 0 < n then -n else n) := ⟨_, rfl⟩
  obtain ⟨T, hT⟩ : ∃ T, T = clampZ (0 - c * M) := ⟨_, rfl⟩
  have HF := hide (fun (p : Bool) (hp : p = (decide (0 < clampZ a) == decide (0 < n))) => mulZ_of a n T p c M hc hM hz hy hp hT)
  have hMN : M = -((M.natAbs : Nat) : Int) := by rw [hM]; split <;> omega
  have hcb : c ≤ 0 ∧ -4611686018427387903 ≤ c := by rw [hc]; split <;> omega
  have hMb : M ≤ 0 ∧ -9223372036854775808 ≤ M := by rw [hM]; split <;> omega
  have HT := hide hT
  have HMN := hide hMN
  clear hT hMN hz hy
  cases d1 : decide (0 < clampZ a) <;> cases d2 : decide (0 < n)
  all_goals
    have s1 := d1
    have s2 := d2
    simp only [decide_eq_true_eq, decide_eq_false_iff_not] at s1 s2
    have HC := hide hc
    have HM := hide hM
    simp only [d1, d2] at HF
    clear hc hM
    go_enter Tryd.func22, Tryd.ntmps22
    go_wp2_with (go_at_call 33; refine (rclamp_any _ _).mono ?_; rintro e w' ⟨rfl, rfl⟩)
    go_loop [0, 1, 6] (fun t0 t1 t6 => ∃ (x s : Int) (N : Nat), t0 = .int .i64 x ∧ t1 = .int .i64 (-(N : Int)) ∧ t6 = .int .i64 s ∧ x ≤ 0 ∧ -4611686018427387903 ≤ x ∧ s ≤ 0 ∧ -4611686018427387903 ≤ s ∧ N ≤ 9223372036854775808 ∧ Hid (clampZ (s - x * -(N : Int)) = T)) (fun _ t1 _ => (intOf t1).natAbs)
    case atStart =>
      refine ⟨c, 0, M.natAbs, ?_, ?_, rfl, hcb.1, hcb.2, by omega, by omega, by omega, ?_⟩
      · congr 1; rw [unhide HC]; split <;> omega
      · congr 1; rw [← unhide HMN, unhide HM]; split <;> omega
      · exact hide (by rw [← unhide HMN]; exact (unhide HT).symm)
    case round =>
      obtain ⟨x, s, N, rfl, rfl, rfl, hx, hx', hs, hs', hN, HI⟩ := hrel
      have tm := tmodN N
      have td := tdivN N
      by_cases hz : N = 0
      · subst hz
        go_wp2
        go_ret
        refine ⟨ret_int ?_, rfl⟩
        have e1 : s = T := by have := unhide HI; rw [clampZ_id (by omega) (by omega)] at this; omega
        rw [← unhide HF _ rfl]
        simp [e1]
      · have hn0 : (-(N : Int) == 0) = false := by simp; omega
        by_cases ho : N % 2 = 1
        · have hS := hide (step_odd s x N hs hx ho)
          have b1 := clampZ_bd (s + x)
          have b2 := clampZ_bd (x + x)
          have c1 : clampZ (s + x) ≤ 0 := by unfold clampZ; split <;> (try split) <;> omega
          have c2 : clampZ (x + x) ≤ 0 := by unfold clampZ; split <;> (try split) <;> omega
          have ht : ((-(N : Int)).tmod 2 == 0) = false := by rw [tm, ho]; rfl
          go_wp2_with (go_at_call 33; refine (rclamp_any _ _).mono ?_; rintro e w' ⟨rfl, rfl⟩)
          go_round
          case rel => exact ⟨clampZ (x + x), clampZ (s + x), N / 2, rfl, by go_num, rfl, c2, b2.1, c1, b1.1, by omega, hide (by rw [unhide hS]; exact unhide HI)⟩
          case measure => simp [intOf]; omega
        · have hS := hide (step_even s x N hs hs' hx (by omega))
          have b2 := clampZ_bd (x + x)
          have c2 : clampZ (x + x) ≤ 0 := by unfold clampZ; split <;> (try split) <;> omega
          have ht : ((-(N : Int)).tmod 2 == 0) = true := by rw [tm, show N % 2 = 0 by omega]; rfl
          go_wp2_with (go_at_call 33; refine (rclamp_any _ _).mono ?_; rintro e w' ⟨rfl, rfl⟩)
          go_round
          case rel => exact ⟨clampZ (x + x), s, N / 2, rfl, by go_num, rfl, c2, b2.1, hs, hs', by omega, hide (by rw [unhide hS]; exact unhide HI)⟩
          case measure => simp [intOf]; omega
end Go.Proofs.YtihahbmmipnclaaDoor
