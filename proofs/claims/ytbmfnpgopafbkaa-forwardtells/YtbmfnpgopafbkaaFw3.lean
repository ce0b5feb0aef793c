import Derived.Test.YtbmfnpgopafbkaaFw2
import Derived.Deep.QuietTactic
import Derived.BigQuiet
namespace Go.Proofs.Ytbmfnpgopafbkaa
open Go.RowKit Kt

set_option maxHeartbeats 400000 in
theorem few_any (f p n : Int) (w : World) :
    Calls Try.prog 11 #[.int .i64 f, .int .i64 p, .int .i64 n] w fun e w' => (∃ b, e = .returned (.bool b)) ∧ Below w.heap.size w w' := by
  have bp := clampZ_bd p
  cases dP : decide (clampZ p ≤ 0)
  rotate_left
  · go_enter Try.func11, Try.ntmps11
    go_wp2_with (go_at_call 16; refine (rclamp_any _ _).mono ?_; rintro e w' ⟨rfl, rfl⟩)
    go_quiet (fail)
    go_wp2
    go_ret
    exact ⟨⟨_, rfl⟩, below_drewN (Below.refl _ _) _⟩
  · have hP : ¬ clampZ p ≤ 0 := by simpa using dP
    have hz : (clampZ p == 0) = false := by simp; omega
    cases dF : decide (clampZ n < clampZ f)
    all_goals
      go_enter Try.func11, Try.ntmps11
      go_wp2_with (go_at_call 16; refine (rclamp_any _ _).mono ?_; rintro e w' ⟨rfl, rfl⟩)
      go_quiet (fail)
      go_wp2
      go_ret
      exact ⟨⟨_, rfl⟩, below_drewN (Below.refl _ _) _⟩

def atK (F P M : Int) (k : Nat) (x : Int) : Prop := k = 0 ∧ x = F ∨ 0 < k ∧ 0 < P ∧ x = min (F + k * P) 4611686018427387903 ∧ F + (k - 1) * P ≤ min M 4611686018427387902
theorem atK_end {F P M : Int} {k : Nat} {x : Int} (hx1 : x ≤ 4611686018427387903) (h : atK F P M k x) (hx : M < x ∨ 4611686018427387903 ≤ x) : cntC F P M = k ∧ nthC F P k = x := by
  rcases h with ⟨rfl, rfl⟩ | ⟨h0, hP, h1, h2⟩
  · exact ⟨by rw [cntC_zero.2 (by omega)]; rfl, nthC_zero hx1⟩
  · have hm := Int.mul_nonneg (a := (k : Int) - 1) (b := P) (by omega) (by omega)
    refine ⟨?_, ?_⟩
    · have := cntC_spec (F := F) (N := M) (k := (k : Int) - 1) hP h2 (by rw [show (k : Int) - 1 + 1 = k by omega]; omega) (by omega)
      omega
    · rw [nthC_pos (by omega) (by omega) hP, h1]
theorem atK_one {F P M : Int} {k : Nat} {x : Int} (h : atK F P M k x) (h1 : x ≤ M) (h2 : x < 4611686018427387903) (hP : P ≤ 0) : k = 0 ∧ cntC F P M = 1 ∧ nthC F P 1 = 4611686018427387903 := by
  rcases h with ⟨rfl, rfl⟩ | ⟨h0, hP', _⟩
  · refine ⟨rfl, ?_, nthC_none (by omega) hP⟩
    unfold cntC
    rw [if_neg (by omega), if_pos hP]
  · omega
theorem atK_step {F P M : Int} {k : Nat} {x : Int} (bP : P ≤ 4611686018427387903) (x0 : -4611686018427387903 ≤ x) (h : atK F P M k x) (h1 : x ≤ M) (h2 : x < 4611686018427387903) (hP : 0 < P) : atK F P M (k + 1) (addZ x P) ∧ x < addZ x P := by
  have e : addZ x P = min (x + P) 4611686018427387903 := by
    unfold addZ
    rw [if_neg (by omega), clampZ_id (t := x) (by omega) (by omega), clampZ_id (t := P) (by omega) (by omega)]
    unfold clampZ
    split
    · omega
    · split <;> omega
  have em : ((k + 1 : Nat) : Int) * P = (k : Int) * P + P := by rw [Int.natCast_add, Int.add_mul]; simp
  refine ⟨.inr ⟨by omega, hP, ?_, ?_⟩, by omega⟩
  · rw [e, em]
    rcases h with ⟨rfl, rfl⟩ | ⟨h0, _, h3, h4⟩
    · simp
    · omega
  · rw [show ((k + 1 : Nat) : Int) - 1 = k by omega]
    rcases h with ⟨rfl, rfl⟩ | ⟨h0, _, h3, h4⟩
    · simp; omega
    · omega

set_option maxHeartbeats 1000000 in
theorem rcnt_any (f p n : Int) (w : World) :
    Calls Try.prog 12 #[.int .i64 f, .int .i64 p, .int .i64 n] w fun e w' => e = .returned (.tuple #[.int .i64 (cntZ f p n), .int .i64 (nthZ f p (cntZ f p n))]) ∧ w' = w := by
  have bf := clampZ_bd f
  have bp := clampZ_bd p
  have bn := clampZ_bd n
  unfold cntZ nthZ
  obtain ⟨F, hF⟩ : ∃ F, clampZ f = F := ⟨_, rfl⟩
  obtain ⟨P, hP⟩ : ∃ P, clampZ p = P := ⟨_, rfl⟩
  obtain ⟨M, hM⟩ : ∃ M, clampZ n = M := ⟨_, rfl⟩
  rw [hF] at bf ⊢
  rw [hP] at bp ⊢
  rw [hM] at bn ⊢
  go_enter Try.func12, Try.ntmps12
  go_wp2_with (go_at_call 16; refine (rclamp_any _ _).mono ?_; rintro e w' ⟨rfl, rfl⟩)
  clear hF hP hM
  go_loop [0, 8] (fun t0 t8 => ∃ (k : Nat) (x : Int), t0 = .int .i64 x ∧ t8 = .int .i64 k ∧ Hid (atK F P M k x) ∧ -4611686018427387903 ≤ x ∧ x ≤ 4611686018427387903 ∧ k + F ≤ x) (fun t0 _ => (4611686018427387903 - intOf t0).toNat)
  case atStart => exact ⟨0, F, rfl, rfl, hide (.inl ⟨rfl, rfl⟩), by omega, by omega, by omega⟩
  case round =>
    obtain ⟨k, x, rfl, rfl, hk, x0, x1, hkx⟩ := hrel
    go_wp2_with (go_at_call 28; refine (radd_any _ _ _).mono ?_; rintro e w' ⟨rfl, rfl⟩)
    · obtain ⟨rfl, e1, e2⟩ := atK_one (unhide hk) (by assumption) (by assumption) (by assumption)
      go_ret2
      exact ⟨by rw [e1, e2]; rfl, rfl⟩
    · have hb := addZ_bd x P
      obtain ⟨h1, h2⟩ := atK_step bp.2 x0 (unhide hk) (by assumption) (by assumption) (by assumption)
      go_round
      case rel => exact ⟨k + 1, _, rfl, by go_num, hide h1, hb.1, hb.2, by omega⟩
      case measure => simp [intOf]; omega
    · obtain ⟨e1, e2⟩ := atK_end x1 (unhide hk) (.inr (by assumption))
      go_ret2
      exact ⟨by rw [e1, e2]; rfl, rfl⟩
    · obtain ⟨e1, e2⟩ := atK_end x1 (unhide hk) (.inl (by assumption))
      go_ret2
      exact ⟨by rw [e1, e2]; rfl, rfl⟩
end Go.Proofs.Ytbmfnpgopafbkaa
